/-
  The document's own Right and Encode of a page.
-/
import Derived.Test.YtfgpkgenahlikaaDoorRoi
import Derived.Test.YtfgpkgenahlikaaDoorRoc
namespace Go.Proofs.YtfgpkgenahlikaaDoor
open Go.ChangeShapes Go.WideShapes Go.ChangeAt Go.RowKit
set_option linter.unusedVariables false
set_option linter.unusedSimpArgs false

theorem room_any (l : Lay) (P : Pg) (w : World) (h : RdPg w l P) (m1 : l.n1 ≤ 1000) (m2 : l.n2 ≤ 1000) (m4 : l.n4 ≤ 1000) :
    Calls Tryd.prog 39 #[l.val] w (RoomAns P w) := by
  by_cases k1 : l.kind = 1
  · exact room1_any l P w h k1 m1
  by_cases k2 : l.kind = 2
  · exact room2_any l P w h k2 m2
  by_cases k3 : l.kind = 3
  · exact room3_any l P w h k3
  by_cases k4 : l.kind = 4
  · exact room4_any l P w h k4 m4
  exact roomX_any l P w h k1 k2 k3 k4
theorem refRight04_any (l : Lay) (P : Pg) (w : World) (h : RdPg w l P) (m1 : l.n1 ≤ 1000) (m2 : l.n2 ≤ 1000) (m4 : l.n4 ≤ 1000) :
    Calls Tryd.prog 15 #[l.val] w fun e w' => e = .returned (.bool (rightB P)) ∧ Below w.heap.size w w' := by
  have HM := fun o => kept (room_any l P (w.alloc o) (h.below ((Below.refl _ _).alloc (Nat.le_refl _) o)) m1 m2 m4)
  have HB := fun o => kept ((Below.refl w.heap.size w).alloc (Nat.le_refl _) o)
  clear h
  obtain ⟨kind, txn, next, a1, n1, c1, a2, n2, c2, a3, n3, c3, a4, n4, c4⟩ := l
  go_enter Tryd.func15, Tryd.ntmps15
  go_wp2_with fail
  with_reducible refine (HM _).out.mono ?_
  rintro e w1 (⟨hr, ⟨A1, k1, rfl, _⟩, hb⟩ | ⟨hr, rfl, hb⟩)
  · have HR := kept hr
    have HB1 := kept (below_to hb (HB _).out)
    clear hr hb
    go_wp2
    go_ret
    exact ⟨ret_bool HR.out.symm, HB1.out⟩
  · have HR := kept hr
    have HB1 := kept (below_to hb (HB _).out)
    clear hr hb
    go_wp2
    go_ret
    exact ⟨ret_bool HR.out.symm, HB1.out⟩
section
variable {P : Program} {ops : Array Oper} {Q : Exit → Act → World → Prop} {md : Region.Mode} {S : World → Prop}
/-- Two may come up next, both wanted. -/
theorem hand_two {fuel : Nat} {listed : Array Bool} {a : Act} {w : World} (i j : Nat) (hr : Region.ready md ops listed = [i, j]) (hwi : (ops[i]?).map (fun o => Region.wanted o (yielded ops a.tmps)) = some true) (hwj : (ops[j]?).map (fun o => Region.wanted o (yielded ops a.tmps)) = some true)
    (hi : ∀ o, ops[i]? = some o → ∀ K' : Act → World → Prop, Shut (∀ a w, S w → (S w → wpAnyH P md ops Q S fuel (listed.setIfInBounds i true) a w) → K' a w) → Oper.wp P o a w K' Q)
    (hj : ∀ o, ops[j]? = some o → ∀ K' : Act → World → Prop, Shut (∀ a w, S w → (S w → wpAnyH P md ops Q S fuel (listed.setIfInBounds j true) a w) → K' a w) → Oper.wp P o a w K' Q) : wpAnyH P md ops Q S (fuel + 1) listed a w := by
  refine wpAnyH_ready (rs := [i, j]) hr (by simp) ?_
  cases hoi : ops[i]? with
  | none => rw [hoi] at hwi; cases hwi
  | some o =>
    cases hoj : ops[j]? with
    | none => rw [hoj] at hwj; cases hwj
    | some o' =>
      rw [hoi] at hwi
      rw [hoj] at hwj
      refine AllReadyH.cons hoi (fun K' hK => ?_) (AllReadyH.cons hoj (fun K' hK => ?_) AllReadyH.nil)
      · rw [if_pos (Option.some.inj hwi)]
        exact hi o hoi K' hK
      · rw [if_pos (Option.some.inj hwj)]
        exact hj o' hoj K' hK
end
theorem sev_below {w W : World} {b : Nat} {kind txn next : Int} {a1 : Option Addr} {n1 c1 : Nat} {a2 : Option Addr} {n2 c2 : Nat} {a3 : Option Addr} {n3 c3 : Nat} {a4 : Option Addr} {n4 c4 : Nat} (h : Sev w b kind txn next a1 n1 c1 a2 n2 c2 a3 n3 c3 a4 n4 c4) (hb : Below w.heap.size w W) : Sev W b kind txn next a1 n1 c1 a2 n2 c2 a3 n3 c3 a4 n4 c4 :=
  ⟨cell_below hb h.1, cell_below hb h.2.1, cell_below hb h.2.2.1, cell_below hb h.2.2.2.1, cell_below hb h.2.2.2.2.1, cell_below hb h.2.2.2.2.2.1, cell_below hb h.2.2.2.2.2.2⟩
theorem world_named {K : Act → World → Prop} {a : Act} {w : World} (h : ∀ W, W = w → K a W) : K a w := h w rfl
theorem wp_append_is {P : Program} {w : World} {o : Oper} {a : Act} {K : Act → World → Prop} {Q : Exit → Act → World → Prop} (s x : Operand) (t : TypeId)
    (ho : o.op = .call { callee := .builtin .append, args := #[s, x], argTypes := #[t, t] })
    (base : Nat) (e : TypeId) {n : Nat} {xs : List UInt8} {v : Value} {A : Option Addr} {m c : Nat} {ys : List UInt8} (hs : a.eval s = v) (hx : a.eval x = .slice A m c)
    (ht : P.underlying t = some (.slice e)) (hinfo : (P.info? e).map (fun i => (i.zero, i.size, i.bytes)) = some (some (.int .u8 0), 1, 1)) (hown : w.ownsRow base e 1 v n (cellsOf xs)) (hr : Rd w A m ys)
    (hm : n + m ≤ 140737488355328) (hbase : base ≤ w.heap.size) (tot : Nat) (zs : List UInt8) (htot : n + m = tot) (hz : xs ++ ys = zs)
    (h : ∀ A' c' w', w'.ownsRow base e 1 (.slice A' tot c') tot (cellsOf zs) → Below base w w' → K (a.put o.dst (.slice A' tot c')) w') : o.wp P a w K Q := by
  subst htot hz
  exact wp_append_rd s x t ho base e hs hx ht hinfo hown hr hm hbase h
theorem own_byte (W X : World) (n base : Nat) (v : Value) (hn : n < 256) (hv : v = .int .u8 (n : Int)) (e : W = X.alloc (.cells #[v] 5)) (hb : base ≤ X.heap.size) : W.ownsRow base 5 1 (.slice (some ⟨X.heap.size, 0, none⟩) 1 1) 1 (cellsOf (be n 1)) := by
  subst e hv
  have h := Blk.new X 5 #[.int .u8 (n : Int)]
  have e1 : be n 1 = [UInt8.ofNat n] := by rw [be_cons]; simp [be]
  rw [e1]
  refine Blk.own (xs := [UInt8.ofNat n]) ?_ hb rfl (by unfold maxLen; omega)
  have e2 : cellsOf [UInt8.ofNat n] = [Value.int .u8 (n : Int)] := by
    simp [cellsOf, byteV]
    omega
  rw [e2]
  exact h
theorem refPut8' (m : Nat) (w : World) (hm : m < 18446744073709551616) :
    Calls Tryd.prog 44 #[.int .u64 (m : Int), .int .i64 8] w fun e w' => ∃ A c, e = .returned (.slice A 8 c) ∧ Rd w' A 8 (be m 8) ∧ Below w.heap.size w w' := refPut_ok m 8 w hm (by omega)
theorem refPut2' (m : Nat) (w : World) (hm : m < 65536) :
    Calls Tryd.prog 44 #[.int .u64 (m : Int), .int .i64 2] w fun e w' => ∃ A c, e = .returned (.slice A 2 c) ∧ Rd w' A 2 (be m 2) ∧ Below w.heap.size w w' := refPut_ok m 2 w (by omega) (by omega)
theorem refSeal_252' (A : Option Addr) (c : Nat) (xs : List UInt8) (w : World) (h : Rd w A 252 xs) :
    Calls Tryd.prog 20 #[.slice A 252 c] w fun e w' => ∃ A' c', e = .returned (.slice A' 256 c') ∧ w'.ownsRow w.heap.size 5 1 (.slice A' 256 c') 256 (cellsOf (sealed xs)) ∧ Below w.heap.size w w' := refSeal_any A 252 c xs w h (by omega)
theorem rd_nought (W : World) : Rd (W.alloc (.cells #[.int .u8 0] 5)) (some ⟨W.heap.size, 0, none⟩) 1 [0] := Rd.marked W 5 [0] (0, 0)
theorem noughts_next (xs : List UInt8) (m k : Nat) (h : m ≤ k) : xs ++ List.replicate (k - m) 0 ++ [0] = xs ++ List.replicate (k + 1 - m) 0 := by
  rw [show k + 1 - m = (k - m) + 1 by omega, List.replicate_succ', List.append_assoc]
def lenO : Value → Nat
  | .slice _ n _ => n
  | _ => 0
set_option maxRecDepth 100000 in
set_option maxHeartbeats 8000000 in
theorem refEncode04_any (l : Lay) (P : Pg) (w : World) (h : RdPg w l P) (hR : rightB P = true) (m1 : l.n1 ≤ 1000) (m2 : l.n2 ≤ 1000) (m4 : l.n4 ≤ 1000) :
    Calls Tryd.prog 19 #[l.val] w fun e w' => ∃ A c, e = .returned (.slice A 256 c) ∧ w'.ownsRow w.heap.size 5 1 (.slice A 256 c) 256 (cellsOf (sealed (bodyOf P))) ∧ Below w.heap.size w w' := by
  have HM := fun o => kept (room_any l P (w.alloc o) (h.below ((Below.refl _ _).alloc (Nat.le_refl _) o)) m1 m2 m4)
  obtain ⟨r1, r2, r3, r4⟩ := right_parts hR
  obtain ⟨k1, k4⟩ := own_kind r1
  obtain ⟨x0, x1⟩ := next_range r2
  have hcnt := cntP_le r4
  obtain ⟨kd, hkd⟩ : ∃ kd : Nat, l.kind = (kd : Int) ∧ kd ≤ 4 := ⟨l.kind.toNat, by have := h.kind; omega, by have := h.kind; omega⟩
  obtain ⟨tx, htx⟩ : ∃ tx : Nat, l.txn = (tx : Int) ∧ tx < 18446744073709551616 := ⟨l.txn.toNat, by have := h.txn; have := h.t0; omega, by have := h.txn; have := h.t1; omega⟩
  obtain ⟨nx, hnx⟩ : ∃ nx : Nat, l.next = (nx : Int) ∧ nx < 1024 := ⟨l.next.toNat, by have := h.next; omega, by have := h.next; omega⟩
  obtain ⟨hkd1, hkd2⟩ := hkd
  obtain ⟨htx1, htx2⟩ := htx
  obtain ⟨hnx1, hnx2⟩ := hnx
  have HENC : Hid (be kd 1 ++ be tx 8 ++ be nx 4 ++ be (cntP P) 2 ++ roomOf P = encPg P) := kept (by
    unfold encPg
    rw [h.kind, h.txn, h.next, hkd1, htx1, hnx1]
    rfl)
  have HEL : Hid ((encPg P).length = 15 + usedN P) := kept (encPg_length P)
  have HUB := kept r4
  have HPD : Hid (encPg P ++ List.replicate (252 - (15 + usedN P)) 0 = bodyOf P) := kept (by unfold bodyOf pad; rw [encPg_length])
  have HCN := kept hcnt
  have HP8 := fun w => kept (refPut8' tx w htx2)
  have HP4 := fun w => kept (refPut4 nx w hnx2)
  have HP2 := fun w => kept (refPut2' (cntP P) w (by omega))
  have HBX := fun o => kept ((Below.refl w.heap.size w).alloc (Nat.le_refl _) o)
  have hwk : IntKind.u8.wrap (kd : Int) = (kd : Int) := IntWalk.u8_in _ ⟨by omega, by omega⟩
  have hwk' : (kd : Int) % 256 = (kd : Int) := by omega
  have hwn : IntKind.u64.wrap (nx : Int) = (nx : Int) := IntWalk.u64_in _ ⟨by omega, by omega⟩
  have HKD := kept (show kd < 256 by omega)
  obtain ⟨n, hn⟩ : ∃ n, usedN P = n := ⟨_, rfl⟩
  obtain ⟨cn, hcn⟩ : ∃ n, cntP P = n := ⟨_, rfl⟩
  obtain ⟨R, hRo⟩ : ∃ R, roomOf P = R := ⟨_, rfl⟩
  rw [hn] at HEL HUB HPD
  rw [hcn] at HENC HCN HP2
  rw [hRo] at HENC
  have hwc : IntKind.u64.wrap (cn : Int) = (cn : Int) := IntWalk.u64_in _ ⟨by omega, by have := HCN.out; omega⟩
  have HRA : ∀ W e w', RoomAns P W e w' → (∃ A c, e = .returned (.tuple #[.slice A n c, .int .i64 (cn : Int), .bool true]) ∧ Hid (Rd w' A n R)) ∧ Below W.heap.size W w' := by
    rintro W e w' (⟨_, ⟨A, c, he, ho⟩, hb⟩ | ⟨hf, _⟩)
    · rw [hn, hcn] at he
      rw [hn, hRo] at ho
      exact ⟨⟨A, c, he, kept (Rd.of_own ho)⟩, hb⟩
    · rw [hR] at hf; cases hf
  have HRAN := kept HRA
  have HSV := kept (fun X hX => sev_box w kd tx nx l.a1 l.n1 l.c1 l.a2 l.n2 l.c2 l.a3 l.n3 l.c3 l.a4 l.n4 l.c4 (t := 34) (X := X) hX)
  clear h hR r1 r2 r3 r4 k1 k4 x0 x1 hcnt hn hcn hRo HRA
  obtain ⟨kind, txn, next, a1, n1, c1, a2, n2, c2, a3, n3, c3, a4, n4, c4⟩ := l
  simp only at hkd1 htx1 hnx1 HSV
  subst hkd1 htx1 hnx1
  go_enter Tryd.func19, Tryd.ntmps19
  go_wp2_with fail
  with_reducible refine (HM _).out.mono ?_
  intro e w5 hra
  obtain ⟨⟨A5, k5, rfl, HR5⟩, hb⟩ := HRAN.out _ _ _ hra
  have HB5 := kept (below_to hb (HBX _).out)
  have HS5 := kept (HSV.out _ hb)
  clear hra hb HM
  go_upto_region 2 with fail
  go_cut [6] (fun s6 wx => ∃ A c, s6 = .slice A 9 c ∧ Hid (wx.ownsRow w5.heap.size 5 1 (.slice A 9 c) 9 (cellsOf (be kd 1 ++ be tx 8))) ∧ Hid (Below w5.heap.size w5 wx))
  case first =>
    refine wp_region_held_drew (S := fun W' => Sev W' w.heap.size (kd : Int) (tx : Int) (nx : Int) a1 n1 c1 a2 n2 c2 a3 n3 c3 a4 n4 c4) (by kernel_rfl) ?_ (fun hHeld => ?_)
    · ((try dsimp only); exact sev_below HS5.out (Below.refl _ _).drew)
    refine hand_take 0 (some 13) ?_ (by kernel_rfl) (by kernel_rfl) (by kernel_rfl) (by kernel_rfl) (by kernel_rfl) (fun _ _ _ h => h) ?_ (by assumption) ?_
    rotate_left
    · (intro o ho w hSw; (simp only [List.getElem?_toArray, List.getElem?_cons_succ, List.getElem?_cons_zero, Option.some.injEq] at ho); subst ho; (try dsimp only at hSw); go_simp; (first | done | with_reducible rfl))
    (try simp only [Act.put, List.setIfInBounds_toArray, List.set_cons_zero, List.set_cons_succ])
    refine hand_take 1 (some 14) ?_ (by kernel_rfl) (by kernel_rfl) (by kernel_rfl) (by kernel_rfl) (by kernel_rfl) (fun _ _ _ h => h) ?_ (by assumption) ?_
    rotate_left
    · (intro o ho w hSw; (simp only [List.getElem?_toArray, List.getElem?_cons_succ, List.getElem?_cons_zero, Option.some.injEq] at ho); subst ho; (try dsimp only at hSw); go_simp; (first | done | with_reducible rfl))
    (try simp only [Act.put, List.setIfInBounds_toArray, List.set_cons_zero, List.set_cons_succ])
    refine hand_take 2 (some 15) ?_ (by kernel_rfl) (by kernel_rfl) (by kernel_rfl) (by kernel_rfl) (by kernel_rfl) (fun _ _ _ h => h) ?_ (by assumption) ?_
    rotate_left
    · (intro o ho w hSw; (simp only [List.getElem?_toArray, List.getElem?_cons_succ, List.getElem?_cons_zero, Option.some.injEq] at ho); subst ho; (try dsimp only at hSw); go_simp; (first | done | with_reducible rfl))
    (try simp only [Act.put, List.setIfInBounds_toArray, List.set_cons_zero, List.set_cons_succ])
    refine hand_take 4 (some 17) ?_ (by kernel_rfl) (by kernel_rfl) (by kernel_rfl) (by kernel_rfl) (by kernel_rfl) (fun _ _ _ h => h) ?_ (by assumption) ?_
    rotate_left
    · (intro o ho w hSw; (simp only [List.getElem?_toArray, List.getElem?_cons_succ, List.getElem?_cons_zero, Option.some.injEq] at ho); subst ho; (try dsimp only at hSw); go_simp; (first | done | with_reducible rfl))
    (try simp only [Act.put, List.setIfInBounds_toArray, List.set_cons_zero, List.set_cons_succ])
    refine hand_take 5 (some 18) ?_ (by kernel_rfl) (by kernel_rfl) (by kernel_rfl) (by kernel_rfl) (by kernel_rfl) (fun _ _ _ h => h) ?_ (by assumption) ?_
    rotate_left
    · (intro o ho w hSw; (simp only [List.getElem?_toArray, List.getElem?_cons_succ, List.getElem?_cons_zero, Option.some.injEq] at ho); subst ho; (try dsimp only at hSw); go_simp; (first | done | with_reducible rfl))
    (try simp only [Act.put, List.setIfInBounds_toArray, List.set_cons_zero, List.set_cons_succ])
    refine hand_two 3 6 (by kernel_rfl) (by kernel_rfl) (by kernel_rfl) (fun o ho K hK => ?_) (fun o ho K hK => ?_)
    · skip
      (simp only [List.getElem?_toArray, List.getElem?_cons_succ, List.getElem?_cons_zero, Option.some.injEq] at ho)
      subst ho
      go_simp
      refine world_named (fun W6 hW => ?_)
      have HOB := kept (own_byte W6 w5.drew kd w5.heap.size _ HKD.out rfl hW (Nat.le_refl _))
      have HB6 : Hid (Below w5.heap.size w5 W6) := kept (by rw [hW]; exact ((Below.refl _ _).drew.alloc (Nat.le_refl _) _))
      clear hW
      refine hK.out _ _ ?_ (fun hHeld => ?_)
      · ((try dsimp only); exact sev_below HS5.out HB6.out)
      clear hK K
      (try simp only [Act.put, List.setIfInBounds_toArray, List.set_cons_zero, List.set_cons_succ])
      refine hand_ready 6 (by kernel_rfl) (by kernel_rfl) (fun o ho K hK => ?_)
      (simp only [List.getElem?_toArray, List.getElem?_cons_succ, List.getElem?_cons_zero, Option.some.injEq] at ho)
      subst ho
      go_simp
      go_at_call 44
      with_reducible refine (HP8 _).out.mono ?_
      rintro e w7 ⟨A7, k7, rfl, hrd, hb⟩
      have HOW := kept (own_stays HOB.out hb)
      have HRW := kept hrd
      have HBW := kept (HB6.out.trans (hb.mono HB6.out.size))
      clear hrd hb
      (try go_wp2_with fail)
      refine hK.out _ _ ?_ (fun hHeld => ?_)
      · ((try dsimp only); exact sev_below HS5.out HBW.out)
      clear hK K
      (try simp only [Act.put, List.setIfInBounds_toArray, List.set_cons_zero, List.set_cons_succ])
      refine hand_ready 7 (by kernel_rfl) (by kernel_rfl) (fun o ho K hK => ?_)
      (simp only [List.getElem?_toArray, List.getElem?_cons_succ, List.getElem?_cons_zero, Option.some.injEq] at ho)
      subst ho
      refine wp_append_is (.tmp 16) (.tmp 19) 25 rfl w5.heap.size 5 rfl rfl Tryd.underlying25 u8info HOW.out HRW.out (by omega) HBW.out.size 9 (be kd 1 ++ be tx 8) rfl rfl ?_
      intro A9 k9 w9 hown9 hb9
      have HO9 := kept hown9
      have HB9 := kept (HBW.out.trans hb9)
      clear hown9 hb9
      refine hK.out _ _ ?_ (fun hHeld => ?_)
      · ((try dsimp only); exact sev_below HS5.out HB9.out)
      clear hK K
      (try simp only [Act.put, List.setIfInBounds_toArray, List.set_cons_zero, List.set_cons_succ])
      refine hand_take 8 (some 6) ?_ (by kernel_rfl) (by kernel_rfl) (by kernel_rfl) (by kernel_rfl) (by kernel_rfl) (fun _ _ _ h => h) ?_ (by assumption) ?_
      rotate_left
      · (intro o ho w hSw; (simp only [List.getElem?_toArray, List.getElem?_cons_succ, List.getElem?_cons_zero, Option.some.injEq] at ho); subst ho; (try dsimp only at hSw); go_simp; (first | done | with_reducible rfl))
      (try simp only [Act.put, List.setIfInBounds_toArray, List.set_cons_zero, List.set_cons_succ])
      refine wpAnyH_done (by kernel_rfl) ?_ _
      go_wp2_with fail
      go_meet
      exact ⟨_, _, rfl, HO9, HB9⟩
    · skip
      (simp only [List.getElem?_toArray, List.getElem?_cons_succ, List.getElem?_cons_zero, Option.some.injEq] at ho)
      subst ho
      go_simp
      go_at_call 44
      with_reducible refine (HP8 _).out.mono ?_
      rintro e w7 ⟨A7, k7, rfl, hrd, hb⟩
      have HR7 := kept hrd
      have HB7 : Hid (Below w5.heap.size w5 w7) := kept ((Below.refl _ _).drew.trans hb)
      clear hrd hb
      (try go_wp2_with fail)
      refine hK.out _ _ ?_ (fun hHeld => ?_)
      · ((try dsimp only); exact sev_below HS5.out HB7.out)
      clear hK K
      (try simp only [Act.put, List.setIfInBounds_toArray, List.set_cons_zero, List.set_cons_succ])
      refine hand_ready 3 (by kernel_rfl) (by kernel_rfl) (fun o ho K hK => ?_)
      (simp only [List.getElem?_toArray, List.getElem?_cons_succ, List.getElem?_cons_zero, Option.some.injEq] at ho)
      subst ho
      go_simp
      refine world_named (fun W6 hW => ?_)
      have HOW := kept (own_byte W6 w7 kd w5.heap.size _ HKD.out rfl hW HB7.out.size)
      have HBW : Hid (Below w5.heap.size w5 W6) := kept (by rw [hW]; exact HB7.out.alloc HB7.out.size _)
      have HRW : Hid (Rd W6 A7 8 (be tx 8)) := kept (by rw [hW]; exact HR7.out.alloc _)
      clear hW
      refine hK.out _ _ ?_ (fun hHeld => ?_)
      · ((try dsimp only); exact sev_below HS5.out HBW.out)
      clear hK K
      (try simp only [Act.put, List.setIfInBounds_toArray, List.set_cons_zero, List.set_cons_succ])
      refine hand_ready 7 (by kernel_rfl) (by kernel_rfl) (fun o ho K hK => ?_)
      (simp only [List.getElem?_toArray, List.getElem?_cons_succ, List.getElem?_cons_zero, Option.some.injEq] at ho)
      subst ho
      refine wp_append_is (.tmp 16) (.tmp 19) 25 rfl w5.heap.size 5 rfl rfl Tryd.underlying25 u8info HOW.out HRW.out (by omega) HBW.out.size 9 (be kd 1 ++ be tx 8) rfl rfl ?_
      intro A9 k9 w9 hown9 hb9
      have HO9 := kept hown9
      have HB9 := kept (HBW.out.trans hb9)
      clear hown9 hb9
      refine hK.out _ _ ?_ (fun hHeld => ?_)
      · ((try dsimp only); exact sev_below HS5.out HB9.out)
      clear hK K
      (try simp only [Act.put, List.setIfInBounds_toArray, List.set_cons_zero, List.set_cons_succ])
      refine hand_take 8 (some 6) ?_ (by kernel_rfl) (by kernel_rfl) (by kernel_rfl) (by kernel_rfl) (by kernel_rfl) (fun _ _ _ h => h) ?_ (by assumption) ?_
      rotate_left
      · (intro o ho w hSw; (simp only [List.getElem?_toArray, List.getElem?_cons_succ, List.getElem?_cons_zero, Option.some.injEq] at ho); subst ho; (try dsimp only at hSw); go_simp; (first | done | with_reducible rfl))
      (try simp only [Act.put, List.setIfInBounds_toArray, List.set_cons_zero, List.set_cons_succ])
      refine wpAnyH_done (by kernel_rfl) ?_ _
      go_wp2_with fail
      go_meet
      exact ⟨_, _, rfl, HO9, HB9⟩
  case rest =>
  obtain ⟨A6, k6, rfl, HO6, HB6⟩ := hcut
  obtain ⟨z0, z1, z2, z3, z4, z5, z6⟩ := sev_below HS5.out HB6.out
  have HS6 := kept (HB6.out.size)
  go_wp2_with fail
  with_reducible refine (HP4 _).out.mono ?_
  rintro e w7 ⟨A7, k7, rfl, hrd, hb⟩
  have HO7 := kept (own_stays HO6.out hb)
  have HR7 := kept hrd
  have HB7 := kept (HB6.out.trans (hb.mono HS6.out))
  clear hrd hb z0 z1 z2 z3 z4 z5 z6
  go_wp2_with (first | (at_builtin; refine wpList_append_is rfl (.tmp 21) (.tmp 25) 25 rfl w5.heap.size 5 rfl rfl Tryd.underlying25 u8info HO7.out HR7.out (by omega) HB7.out.size 13 (be kd 1 ++ be tx 8 ++ be nx 4) rfl rfl ?_; intro A8 k8 w8 hown8 hb8; have HO8 := kept hown8; have HB8 := kept (HB7.out.trans hb8); have HP28 := HP2 w8; clear hown8 hb8) | (go_at_call 44; (with_reducible refine (HP28.out).mono ?_); rintro e w9 ⟨A9, k9, rfl, hrd, hb⟩; have HO9 := kept (own_stays HO8.out hb); have HR9 := kept hrd; have HB9 := kept (HB8.out.trans (hb.mono HB8.out.size)); clear hrd hb) | (at_builtin; refine wpList_append_is rfl (.tmp 27) (.tmp 30) 25 rfl w5.heap.size 5 rfl rfl Tryd.underlying25 u8info HO9.out HR9.out (by omega) HB9.out.size 15 (be kd 1 ++ be tx 8 ++ be nx 4 ++ be cn 2) rfl rfl ?_; intro A10 k10 w10 hown10 hb10; have HO10 := kept hown10; have HB10 := kept (HB9.out.trans hb10); have HR10 := kept (HR5.out.below HB10.out); clear hown10 hb10) | (at_builtin; refine wpList_append_is rfl (.tmp 32) (.tmp 33) 25 rfl w5.heap.size 5 rfl rfl Tryd.underlying25 u8info HO10.out HR10.out (by have := HUB.out; omega) HB10.out.size (15 + n) (encPg P) rfl HENC.out ?_; intro A11 k11 w11 hown11 hb11; have HO11 := kept hown11; have HB11 := kept (HB10.out.trans hb11); clear hown11 hb11))
  have hub := HUB.out
  have HO12 : Hid (w11.ownsRow w5.heap.size 5 1 (.slice A11 (15 + n) k11) (15 + n) (cellsOf (encPg P ++ List.replicate (15 + n - (15 + n)) 0))) := kept (by rw [Nat.sub_self]; simpa using HO11.out)
  go_loopw [6] (fun ob wr => ∃ (k : Nat) (A : Option Addr) (c : Nat), 15 + n ≤ k ∧ k ≤ 252 ∧ ob = .slice A k c ∧ Hid (wr.ownsRow w5.heap.size 5 1 (.slice A k c) k (cellsOf (encPg P ++ List.replicate (k - (15 + n)) 0))) ∧ Hid (Below w5.heap.size w5 wr)) (fun ob _ => 252 - lenO ob)
  case atStart => exact ⟨15 + n, A11, k11, by omega, by omega, rfl, HO12, HB11⟩
  case round =>
    obtain ⟨k, A, c, hk, hk2, rfl, HO, HB⟩ := hrel
    by_cases hlt : k < 252
    · have HZN := kept (noughts_next (encPg P) (15 + n) k hk)
      have HOA := fun o => kept (own_stays HO.out ((Below.refl _ wr).alloc (Nat.le_refl _) o))
      have HBA := fun o => kept (HB.out.alloc HB.out.size o)
      have HRZ := kept (rd_nought wr)
      go_wp2_with (first | (at_builtin; refine wpList_append_is rfl (.tmp 38) (.tmp 39) 25 rfl w5.heap.size 5 rfl rfl Tryd.underlying25 u8info (HOA _).out HRZ.out (by omega) (HBA _).out.size (k + 1) (encPg P ++ List.replicate (k + 1 - (15 + n)) 0) rfl HZN.out ?_; intro A12 k12 w12 hown12 hb12; have HO13 := kept hown12; have HB13 := kept ((HBA _).out.trans hb12); clear hown12 hb12))
      go_roundw
      case rel => exact ⟨k + 1, A12, k12, by omega, by omega, rfl, HO13, HB13⟩
      case measure => simp [lenO]; omega
    · obtain rfl : k = 252 := by omega
      have hob := HO.out
      rw [HPD.out] at hob
      have HSL := kept (refSeal_252' A c _ wr (Rd.of_own hob))
      have HBW := kept (HB5.out.trans (HB.out.mono HB5.out.size))
      clear hob
      go_wp2_with (first | (go_at_call 20; (with_reducible refine (HSL.out).mono ?_); rintro e w13 ⟨A13, k13, rfl, hown13, hb13⟩; have HO14 := kept (own_mono hown13 HBW.out.size); have HB14 := kept (below_to hb13 HBW.out); clear hown13 hb13))
      go_ret
      exact ⟨A13, k13, rfl, HO14.out, HB14.out⟩
end Go.Proofs.YtfgpkgenahlikaaDoor
