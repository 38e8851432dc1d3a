/-
  page.Encode.
-/
import Derived.Test.YtfgpkgenahlikaaDoorWt
import Derived.Test.YtfgpkgenahlikaaDoorHnd
namespace Go.Proofs.YtfgpkgenahlikaaDoor
open Go.ChangeShapes Go.WideShapes Go.ChangeAt Go.RowKit
set_option linter.unusedVariables false
set_option linter.unusedSimpArgs false

def cntP (P : Pg) : Nat := P.items.length + P.kids.length + P.data.length + P.ids.length
def encPg (P : Pg) : List UInt8 := be P.kind.toNat 1 ++ be P.txn.toNat 8 ++ be P.next.toNat 4 ++ be (cntP P) 2 ++ roomOf P
def bodyOf (P : Pg) : List UInt8 := pad (encPg P)
theorem encPg_length (P : Pg) : (encPg P).length = 15 + usedN P := by
  unfold encPg
  simp only [List.length_append, be_length, roomOf_length]
theorem right_parts {P : Pg} (h : rightB P = true) : ownB P = true ∧ nextB P = true ∧ thingsB P = true ∧ usedN P ≤ 237 := by
  unfold rightB at h
  simp only [Bool.and_eq_true, decide_eq_true_eq] at h
  exact ⟨h.1.1.1, h.1.1.2, h.1.2, h.2⟩
theorem bodyOf_length {P : Pg} (h : usedN P ≤ 237) : (bodyOf P).length = 252 := pad_length (by rw [encPg_length]; omega)
theorem own_kind {P : Pg} (h : ownB P = true) : 1 ≤ P.kind ∧ P.kind ≤ 4 := by
  unfold ownB at h
  simp only [Bool.and_eq_true, decide_eq_true_eq] at h
  omega
theorem next_range {P : Pg} (h : nextB P = true) : 0 ≤ P.next ∧ P.next < 1024 := by
  unfold nextB isPg at h
  simp at h
  omega
theorem sum_ge_mul {α : Type} {f : α → Nat} {m : Nat} (h : ∀ x, m ≤ f x) : ∀ I : List α, m * I.length ≤ (I.map f).sum
  | [] => by simp
  | x :: r => by
    have h1 := h x
    have h2 := sum_ge_mul (f := f) h r
    simp only [List.map_cons, List.sum_cons, List.length_cons, Nat.mul_add]
    omega
theorem cntP_le {P : Pg} (h : usedN P ≤ 237) : cntP P ≤ 237 := by
  have h1 := sum_ge_mul (f := itemUse) (m := 3) (fun x => by unfold itemUse; omega) P.items
  have h2 := sum_ge_mul (f := kidUse) (m := 5) (fun x => by unfold kidUse; omega) P.kids
  unfold usedN at h
  unfold cntP
  omega
theorem cnt_is {l : Lay} {kd : Nat} (hk : l.kind = (kd : Int)) (h : ownL l = true) : cnt l kd = l.n1 + l.n2 + l.n3 + l.n4 := by
  unfold ownL at h
  rw [hk] at h
  simp only [Bool.and_eq_true, Bool.or_eq_true, decide_eq_true_eq] at h
  have : kd = 1 ∨ kd = 2 ∨ kd = 3 ∨ kd = 4 := by omega
  rcases this with rfl | rfl | rfl | rfl <;> simp only [cnt] <;> omega
theorem encode_wrong (l : Lay) (P : Pg) (w : World) (h : RdPg w l P) (hR : rightB P = false) :
    Calls Tryd.prog 14 #[l.val] w fun e w' => e = .returned (.tuple #[.slice none 0 0, .int .i64 4]) ∧ Below w.heap.size w w' := by
  have HR := fun {X : World} (hb : Below w.heap.size w X) => kept (right_any l P X (h.below hb))
  rw [hR] at HR
  clear h hR
  obtain ⟨kind, txn, next, a1, n1, c1, a2, n2, c2, a3, n3, c3, a4, n4, c4⟩ := l
  have hb0 : Below w.heap.size w (w.alloc (.cells #[.int .i64 kind, .int .u64 txn, .int .i64 next, .slice a1 n1 c1, .slice a2 n2 c2, .slice a3 n3 c3, .slice a4 n4 c4] 28)) := (Below.refl _ _).alloc (Nat.le_refl _) _
  go_enter Tryd.func14, Tryd.ntmps14
  go_wp2_with (first | (go_at_call 16; (with_reducible refine ((HR hb0).out).mono ?_); rintro e w1 ⟨rfl, hb1⟩; have HB1 := kept (below_to hb1 hb0); clear hb1))
  go_ret2
  exact ⟨rfl, HB1.out⟩
theorem Wr.rd {w : World} {b : Nat} {xs : List UInt8} (h : Wr w b xs) : Rd w (some ⟨b, 0, none⟩) 252 (pad xs) := by
  refine ⟨pad_length h.2, fun _ => ⟨_, rfl, fun j hj => ?_⟩⟩
  rw [add_at, Nat.zero_add, h.1.cell]
  unfold wrCells
  rw [List.getElem?_append_left (by rw [cellsOf_length]; exact hj)]
  exact cellsOf_get _ _ hj
set_option maxRecDepth 100000 in
set_option maxHeartbeats 2000000 in
theorem encode_right (l : Lay) (P : Pg) (w : World) (h : RdPg w l P) (hR : rightB P = true) (hF : Fours w) :
    Calls Tryd.prog 14 #[l.val] w fun e w' => ∃ A c, e = .returned (.tuple #[.slice A 256 c, .int .i64 0]) ∧ w'.ownsRow w.heap.size 5 1 (.slice A 256 c) 256 (cellsOf (sealed (bodyOf P))) ∧ Below w.heap.size w w' := by
  have HR := fun {X : World} (hb : Below w.heap.size w X) => kept (right_any l P X (h.below hb))
  rw [hR] at HR
  obtain ⟨r1, r2, r3, r4⟩ := right_parts hR
  obtain ⟨k1, k4⟩ := own_kind r1
  obtain ⟨x1, x2⟩ := next_range r2
  have hcn := cntP_le r4
  have hcnt : cntP P = l.n1 + l.n2 + l.n3 + l.n4 := by unfold cntP; rw [h.n1, h.n2, h.n3, h.n4]
  have hci := fun (kd : Nat) (hk : l.kind = (kd : Int)) => cnt_is hk (by rw [ownL_eq h]; exact r1)
  have HTH := fun {X Y : World} (b : Nat) (zs : List UInt8) (hw : Wr Y b zs) (hX : Below w.heap.size w X) (hf : Fr X b Y) (hfit : zs.length + usedN P ≤ 252) => kept (wthings_any X b zs l P Y hw (h.below hX) hf r3 hfit)
  have t0 := h.t0
  have t1 := h.t1
  have hkd := h.kind
  have htx := h.txn
  have hnx := h.next
  have HB : Hid (encPg P = be P.kind.toNat 1 ++ be P.txn.toNat 8 ++ be P.next.toNat 4 ++ be (cntP P) 2 ++ roomOf P) := rfl
  have HBO : Hid (bodyOf P = pad (encPg P)) := rfl
  have HFF := kept hF
  have hut := r4
  rw [hkd] at HB k1 k4
  rw [htx] at HB t0 t1
  rw [hnx] at HB x1 x2
  generalize bodyOf P = bo at HBO
  generalize encPg P = en at HB HBO
  generalize cntP P = cp at HB hcn hcnt
  generalize usedN P = us at hut HTH
  generalize roomOf P = rm at HB HTH
  clear hR r1 r2 r3 r4 hkd htx hnx hF
  have HIX := fun (k : Nat) (hk : k < 5) w => kept (ixk l k hk w)
  have HCN := fun w => kept (counts_any l w)
  obtain ⟨kind, txn, next, a1, n1, c1, a2, n2, c2, a3, n3, c3, a4, n4, c4⟩ := l
  simp only at HB k1 k4 t0 t1 x1 x2 hcnt hci
  obtain ⟨kd, rfl⟩ := Int.eq_ofNat_of_zero_le (show 0 ≤ kind by omega)
  obtain ⟨tx, rfl⟩ := Int.eq_ofNat_of_zero_le t0
  obtain ⟨nx, rfl⟩ := Int.eq_ofNat_of_zero_le x1
  have hck := hci kd rfl
  rw [← hcnt] at hck
  have HIK := HIX kd (by omega)
  rw [hck] at HIK
  rw [Int.toNat_natCast, Int.toNat_natCast, Int.toNat_natCast] at HB
  have hb0 : Below w.heap.size w (w.alloc (.cells #[.int .i64 (kd : Int), .int .u64 (tx : Int), .int .i64 (nx : Int), .slice a1 n1 c1, .slice a2 n2 c2, .slice a3 n3 c3, .slice a4 n4 c4] 28)) := (Below.refl _ _).alloc (Nat.le_refl _) _
  have HS : Hid (∀ {X : World}, Below (w.alloc (.cells #[.int .i64 (kd : Int), .int .u64 (tx : Int), .int .i64 (nx : Int), .slice a1 n1 c1, .slice a2 n2 c2, .slice a3 n3 c3, .slice a4 n4 c4] 28)).heap.size (w.alloc (.cells #[.int .i64 (kd : Int), .int .u64 (tx : Int), .int .i64 (nx : Int), .slice a1 n1 c1, .slice a2 n2 c2, .slice a3 n3 c3, .slice a4 n4 c4] 28)) X → Sev X w.heap.size kd tx nx a1 n1 c1 a2 n2 c2 a3 n3 c3 a4 n4 c4) := kept (sev_box w kd tx nx a1 n1 c1 a2 n2 c2 a3 n3 c3 a4 n4 c4)
  clear h hci hck hcnt HIX
  go_enter Tryd.func14, Tryd.ntmps14
  go_wp2_with (first | (go_at_call 16; (with_reducible refine ((HR hb0).out).mono ?_); rintro e w1 ⟨rfl, hb1⟩) | ((with_reducible refine wpList_alloc_wr rfl rfl ?_); intro w2 hw2 hb2 hs2; have HW2 := kept hw2; have HBW1 : Hid (Below w.heap.size w w1) := kept (below_to hb1 hb0); have HS1 : Hid (∀ {X : World}, Below w1.heap.size w1 X → Sev X w.heap.size kd tx nx a1 n1 c1 a2 n2 c2 a3 n3 c3 a4 n4 c4) := kept (fun h => HS.out (below_to h hb1)); have HBX : Hid (Below w1.heap.size w1 w2) := kept hb2; obtain ⟨z0, z1, z2, z3, z4, z5, z6⟩ := HS1.out hb2; clear hw2 hb2 hs2))
  have H1 := kept (wnum1 w1.heap.size [] kd w2 HW2.out (by simp) (by omega))
  with_reducible refine H1.out.mono ?_
  rintro e w3 ⟨rfl, h3⟩
  have HB3 : Hid (Below w1.heap.size w1 w3) := kept (h3.out.2.below HBX.out HBX.out.size (Nat.le_refl _))
  obtain ⟨y0, y1, y2, y3, y4, y5, y6⟩ := HS1.out HB3.out
  have H2 := kept (wnum8 w1.heap.size _ tx w3 h3.out.1 (by simp [be_length]) (by omega))
  go_wp2_with fail
  with_reducible refine H2.out.mono ?_
  rintro e w4 ⟨rfl, h4⟩
  have HB4 : Hid (Below w1.heap.size w1 w4) := kept (h4.out.2.below HB3.out HB3.out.size (Nat.le_refl _))
  obtain ⟨x0, x1', x2', x3, x4, x5, x6⟩ := HS1.out HB4.out
  have H3 := kept (wid_any w1.heap.size _ nx w4 h4.out.1 (by simp [be_length]) (by omega))
  go_wp2_with fail
  with_reducible refine H3.out.mono ?_
  rintro e w5 ⟨rfl, h5⟩
  have HB5 : Hid (Below w1.heap.size w1 w5) := kept (h5.out.2.below HB4.out HB4.out.size (Nat.le_refl _))
  have HS5 := HS1.out HB5.out
  have HW5 := kept h5.out.1
  clear h3 h4 h5 H1 H2 H3
  have hcw : IntKind.u64.wrap (cp : Int) = (cp : Int) := by rw [IntKind.wrap_u64]; omega
  go_wp2
  refine wp_region_held_drew (S := (fun W' => Sev W' w.heap.size kd tx nx a1 n1 c1 a2 n2 c2 a3 n3 c3 a4 n4 c4)) (by kernel_rfl) ?_ (fun hHeld => ?_)
  · ((try dsimp only); (first | exact HS5 | exact HS1.out HB7.out | exact HS1.out HB6.out))
  refine hand_take 0 (some 18) ?_ (by kernel_rfl) (by kernel_rfl) (by kernel_rfl) (by kernel_rfl) (by kernel_rfl) (fun _ _ _ h => h) ?_ (by assumption) ?_
  rotate_left
  · (intro o ho w hSw; (simp only [List.getElem?_toArray, List.getElem?_cons_succ, List.getElem?_cons_zero, Option.some.injEq] at ho); subst ho; (try dsimp only at hSw); go_simp; (first | done | with_reducible rfl))
  (try simp only [Act.put, List.setIfInBounds_toArray, List.set_cons_zero, List.set_cons_succ])
  refine hand_take 2 (some 20) ?_ (by kernel_rfl) (by kernel_rfl) (by kernel_rfl) (by kernel_rfl) (by kernel_rfl) (fun _ _ _ h => h) ?_ (by assumption) ?_
  rotate_left
  · (intro o ho w hSw; (simp only [List.getElem?_toArray, List.getElem?_cons_succ, List.getElem?_cons_zero, Option.some.injEq] at ho); subst ho; (try dsimp only at hSw); go_simp; (first | done | with_reducible rfl))
  (try simp only [Act.put, List.setIfInBounds_toArray, List.set_cons_zero, List.set_cons_succ])
  refine hand_take 3 (some 21) ?_ (by kernel_rfl) (by kernel_rfl) (by kernel_rfl) (by kernel_rfl) (by kernel_rfl) (fun _ _ _ h => h) ?_ (by assumption) ?_
  rotate_left
  · (intro o ho w hSw; (simp only [List.getElem?_toArray, List.getElem?_cons_succ, List.getElem?_cons_zero, Option.some.injEq] at ho); subst ho; (try dsimp only at hSw); go_simp; (first | done | with_reducible rfl))
  (try simp only [Act.put, List.setIfInBounds_toArray, List.set_cons_zero, List.set_cons_succ])
  refine hand_ready 1 (by kernel_rfl) (by kernel_rfl) (fun o ho K hK => ?_)
  (simp only [List.getElem?_toArray, List.getElem?_cons_succ, List.getElem?_cons_zero, Option.some.injEq] at ho)
  subst ho
  go_simp
  ((go_at_call 36; (with_reducible refine (HCN _).out.mono ?_); rintro e w6 ⟨rfl, h6⟩); have HB6 : Hid (Below w1.heap.size w1 w6) := kept (below_to (below_of_drew1 h6) HB5.out); have HC := kept (wnum2 w1.heap.size _ cp w6 (HW5.out.below (below_of_drew1 h6)) (by simp [be_length]) (by omega)); have hixx := fun W => (HIK W).out; clear h6)
  (try go_wp2_with fail)
  refine hK.out _ _ ?_ (fun hHeld => ?_)
  · ((try dsimp only); (first | exact HS5 | exact HS1.out HB7.out | exact HS1.out HB6.out))
  clear hK K
  (try simp only [Act.put, List.setIfInBounds_toArray, List.set_cons_zero, List.set_cons_succ])
  refine hand_take 4 (some 22) ?_ (by kernel_rfl) (by kernel_rfl) (by kernel_rfl) (by kernel_rfl) (by kernel_rfl) (fun _ _ _ h => h) ?_ (by assumption) ?_
  rotate_left
  · (intro o ho w hSw; (simp only [List.getElem?_toArray, List.getElem?_cons_succ, List.getElem?_cons_zero, Option.some.injEq] at ho); subst ho; (try dsimp only at hSw); go_simp; (first | done | with_reducible rfl))
  (try simp only [Act.put, List.setIfInBounds_toArray, List.set_cons_zero, List.set_cons_succ])
  refine hand_take 5 (some 23) ?_ (by kernel_rfl) (by kernel_rfl) (by kernel_rfl) (by kernel_rfl) (by kernel_rfl) (fun _ _ _ h => h) ?_ (by assumption) ?_
  rotate_left
  · (intro o ho w hSw; (simp only [List.getElem?_toArray, List.getElem?_cons_succ, List.getElem?_cons_zero, Option.some.injEq] at ho); subst ho; (try dsimp only at hSw); go_simp; (first | done | with_reducible rfl))
  (try simp only [Act.put, List.setIfInBounds_toArray, List.set_cons_zero, List.set_cons_succ])
  refine hand_ready 6 (by kernel_rfl) (by kernel_rfl) (fun o ho K hK => ?_)
  (simp only [List.getElem?_toArray, List.getElem?_cons_succ, List.getElem?_cons_zero, Option.some.injEq] at ho)
  subst ho
  go_simp
  (go_at_call 34; (with_reducible refine HC.out.mono ?_); rintro e w7 ⟨rfl, h7⟩; have HB7 : Hid (Below w1.heap.size w1 w7) := kept (h7.out.2.below HB6.out HB6.out.size (Nat.le_refl _)))
  (try go_wp2_with fail)
  refine hK.out _ _ ?_ (fun hHeld => ?_)
  · ((try dsimp only); (first | exact HS5 | exact HS1.out HB7.out | exact HS1.out HB6.out))
  clear hK K
  (try simp only [Act.put, List.setIfInBounds_toArray, List.set_cons_zero, List.set_cons_succ])
  refine wpAnyH_done (by kernel_rfl) ?_ _
  clear hixx hcw
  obtain ⟨u0, u1, u2, u3, u4, u5, u6⟩ := HS1.out HB7.out
  have H8 := kept (HTH w1.heap.size _ h7.out.1 HBW1.out ⟨HB7.out, Nat.le_refl _⟩ (by simp [be_length]; omega))
  go_wp2_with fail
  with_reducible refine H8.out.out.mono ?_
  rintro e w8 ⟨rfl, h8⟩
  have HB8 : Hid (Below w1.heap.size w1 w8) := kept (h8.out.2.below HB7.out HB7.out.size (Nat.le_refl _))
  have HBW8 : Hid (Below w.heap.size w w8) := kept (below_to HB8.out HBW1.out)
  have H9 := kept (seal_any (some ⟨w1.heap.size, 0, none⟩) 252 252 _ w8 h8.out.1.rd (Nat.le_refl _) (by omega) (HFF.out.below HBW8.out))
  go_wp2_with (first | (go_at_call 38; (with_reducible refine (H9.out).mono ?_); rintro e w9 ⟨A9, c9, rfl, ho, hb9⟩; have HO := kept ho; have HB9 := kept hb9; clear ho hb9))
  go_ret2
  refine ⟨A9, c9, rfl, ?_, below_to HB9.out HBW8.out⟩
  have := own_mono HO.out HBW8.out.size
  rw [HBO.out, HB.out]
  simpa only [List.nil_append, List.append_assoc] using this
end Go.Proofs.YtfgpkgenahlikaaDoor
