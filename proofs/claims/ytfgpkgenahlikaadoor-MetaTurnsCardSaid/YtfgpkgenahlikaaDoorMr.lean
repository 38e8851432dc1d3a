/-
  The document's own Right and Encode of a meta; what a law makes of one.
-/
import Derived.Test.YtfgpkgenahlikaaDoorMd
import Derived.Lib.AppendStr
namespace Go.Proofs.YtfgpkgenahlikaaDoor
open Go.ChangeShapes Go.WideShapes Go.ChangeAt Go.RowKit
set_option linter.unusedVariables false
set_option linter.unusedSimpArgs false

theorem of_m (m : Mt) (w : World) :
    Calls Tryd.prog 27 #[m.val] w fun e w' => e = .returned m.val ∧ Below w.heap.size w w' := by
  obtain ⟨t, r, s, z⟩ := m
  go_enter Tryd.func27, Tryd.ntmps27
  go_wp2
  exact bodyPost_ret (v := .agg #[.int .u64 (t : Int), .int .i64 r, .int .i64 s, .int .i64 z]) (by simp [results, Tryd.results27, go_sem]) rfl ⟨rfl, ((Below.refl _ _).alloc (Nat.le_refl _) _).alloc (by simp) _⟩
set_option maxRecDepth 100000 in
theorem refRight_m (m : Mt) (w : World) (b : Bool) (hb : rightM m = b) :
    Calls Tryd.prog 26 #[m.val] w fun e w' => e = .returned (.bool b) ∧ Below w.heap.size w w' := by
  subst hb
  obtain ⟨t, r, s, z⟩ := m
  have HR : Hid (rightM ⟨t, r, s, z⟩ = (decide (8 ≤ z) && decide (z ≤ 1024) && beginsB z r && beginsB z s)) := rfl
  have HB0 := kept ((Below.refl w.heap.size w).alloc (Nat.le_refl _) (.cells #[.int .u64 (t : Int), .int .i64 r, .int .i64 s, .int .i64 z] 53))
  generalize rightM ⟨t, r, s, z⟩ = o at HR
  by_cases h8 : z < 8
  · have HO : Hid (o = false) := by show _ = _; rw [HR.out]; simp; omega
    go_enter Tryd.func26, Tryd.ntmps26
    go_wp2
    go_ret
    exact ⟨ret_bool HO.out.symm, HB0.out⟩
  by_cases h9 : 1024 < z
  · have HO : Hid (o = false) := by show _ = _; rw [HR.out]; simp; omega
    go_enter Tryd.func26, Tryd.ntmps26
    go_wp2
    go_ret
    exact ⟨ret_bool HO.out.symm, HB0.out⟩
  have HO : Hid (o = (beginsB z r && beginsB z s)) := by show _ = _; rw [HR.out]; simp [show 8 ≤ z by omega, show z ≤ 1024 by omega]
  go_enter Tryd.func26, Tryd.ntmps26
  go_wp2
  all_goals
    go_ret
    exact ⟨ret_bool (by rw [HO.out, Bool.eq_iff_iff]; simp [beginsB] <;> omega), (Below.refl _ _).alloc (Nat.le_refl _) _⟩

/-- append, with the sum and the bytes named. -/
theorem wpList_append_to {P : Program} {w : World} {ops : Array Oper} {rest : List Oper} {o : Oper} {a : Act} {Q : Exit → Act → World → Prop} (hgd : o.guard = none) (s x : Operand) (t : TypeId)
    (ho : o.op = .call { callee := .builtin .append, args := #[s, x], argTypes := #[t, t] })
    (base : Nat) (e : TypeId) {n : Nat} {xs : List UInt8} {v : Value} {A : Option Addr} {m c : Nat} {ys : List UInt8} (hs : a.eval s = v) (hx : a.eval x = .slice A m c)
    (ht : P.underlying t = some (.slice e)) (hinfo : (P.info? e).map (fun i => (i.zero, i.size, i.bytes)) = some (some (.int .u8 0), 1, 1)) (hown : w.ownsRow base e 1 v n (cellsOf xs)) (hr : Rd w A m ys)
    (hm : n + m ≤ 140737488355328) (hbase : base ≤ w.heap.size) (tot : Nat) (zs : List UInt8) (htot : n + m = tot) (hz : xs ++ ys = zs)
    (h : ∀ A' c' w', w'.ownsRow base e 1 (.slice A' tot c') tot (cellsOf zs) → Below base w w' → wpList P ops Q rest (a.put o.dst (.slice A' tot c')) w') : wpList P ops Q (o :: rest) a w := by
  subst htot hz
  exact wpList_append_rd hgd s x t ho base e hs hx ht hinfo hown hr hm hbase h
theorem wpList_append_mark {w : World} {ops : Array Oper} {rest : List Oper} {o : Oper} {a : Act} {Q : Exit → Act → World → Prop} (hgd : o.guard = none) (sl x : Operand)
    (ho : o.op = .call { callee := .builtin .append, args := #[sl, x], argTypes := #[25, 9] })
    (base : Nat) {n : Nat} {xs : List UInt8} {A : Option Addr} {c : Nat} (hs : a.eval sl = .slice A n c) (hown : w.ownsRow base 5 1 (.slice A n c) n (cellsOf xs)) (hx : a.eval x = .string ⟨#[84, 69, 82, 82, 1]⟩)
    (hm : n + 5 ≤ 140737488355328) (hbase : base ≤ w.heap.size) (tot : Nat) (zs : List UInt8) (htot : n + 5 = tot) (hz : xs ++ [84, 69, 82, 82, 1] = zs)
    (h : ∀ A' c' w', w'.ownsRow base 5 1 (.slice A' tot c') tot (cellsOf zs) → Below base w w' → wpList Tryd.prog ops Q rest (a.put o.dst (.slice A' tot c')) w') : wpList Tryd.prog ops Q (o :: rest) a w := by
  subst htot hz
  obtain ⟨i, hi, hz0, hz1, hz2⟩ := info_parts u8info
  refine Lib.wpList_append_own_string w hgd sl x 25 9 ho base 5 i Tryd.underlying25 Tryd.underlying9 hi hz0 hz1 hz2 _ n _ hs hown ⟨#[84, 69, 82, 82, 1]⟩ hx (by show n + 5 ≤ maxLen; unfold maxLen; omega) hm hbase ?_
  intro v' w' ho' hg _
  have e : cellsOf xs ++ Lib.strCells ⟨#[84, 69, 82, 82, 1]⟩ = cellsOf (xs ++ [84, 69, 82, 82, 1]) := by rw [cellsOf_append]; rfl
  rw [e] at ho'
  have ho2 : w'.ownsRow base 5 1 v' (n + 5) (cellsOf (xs ++ [84, 69, 82, 82, 1])) := ho'
  have hv : ∃ A' c', v' = .slice A' (n + 5) c' := by
    rcases ho2.2 with ⟨rfl, h⟩ | ⟨g, cap, cur, rfl, _⟩
    · omega
    · exact ⟨_, _, rfl⟩
  obtain ⟨A', c', rfl⟩ := hv
  exact h A' c' w' ho2 ((Below.refl base w).grown hg hbase (fun k hk => (hown.lt k hk).1))
theorem own_nine (W : World) : (W.alloc (.cells #[.int .u8 9] 5)).ownsRow W.heap.size 5 1 (.slice (some ⟨W.heap.size, 0, none⟩) 1 1) 1 (cellsOf [9]) := by
  have hb := Blk.new W 5 #[.int .u8 9]
  exact Blk.own (xs := [9]) hb (Nat.le_refl _) rfl (by unfold maxLen; omega)
theorem rd_zero (W : World) : Rd (W.alloc (.cells #[.int .u8 0] 5)) (some ⟨W.heap.size, 0, none⟩) 1 [0] := Rd.marked W 5 [0] (0, 0)
theorem refPut_eight (m : Nat) (w : World) (hm : m < 18446744073709551616) :
    Calls Tryd.prog 44 #[.int .u64 (m : Int), .int .i64 8] w fun e w' => ∃ A c, e = .returned (.slice A 8 c) ∧ Rd w' A 8 (be m 8) ∧ Below w.heap.size w w' := refPut_ok m 8 w hm (by omega)
theorem refPut_4 (m : Nat) (w : World) (hm : m ≤ 1024) :
    Calls Tryd.prog 44 #[.int .u64 (m : Int), .int .i64 4] w fun e w' => ∃ A c, e = .returned (.slice A 4 c) ∧ Rd w' A 4 (be m 4) ∧ Below w.heap.size w w' := refPut_ok m 4 w (by omega) (by omega)
theorem refSeal_252 (A : Option Addr) (c : Nat) (xs : List UInt8) (w : World) (h : Rd w A 252 xs) :
    Calls Tryd.prog 20 #[.slice A 252 c] w fun e w' => ∃ A' c', e = .returned (.slice A' 256 c') ∧ w'.ownsRow w.heap.size 5 1 (.slice A' 256 c') 256 (cellsOf (sealed xs)) ∧ Below w.heap.size w w' := refSeal_any A 252 c xs w h (by omega)
/-- The three numbers, one after the other, and what stands ahead of the k-th. -/
def pick3 (r s z k : Nat) : Nat := match k with | 0 => r | 1 => s | _ => z
def hd3 (t r s z k : Nat) : List UInt8 := [9] ++ be t 8 ++ [84, 69, 82, 82, 1] ++ (match k with | 0 => [] | 1 => be r 4 | 2 => be r 4 ++ be s 4 | _ => be r 4 ++ be s 4 ++ be z 4)
theorem hd3_next (t r s z k : Nat) (h : k < 3) : hd3 t r s z k ++ be (pick3 r s z k) 4 = hd3 t r s z (k + 1) := by
  match k, h with
  | 0, _ => simp [hd3, pick3]
  | 1, _ => simp [hd3, pick3, List.append_assoc]
  | 2, _ => simp [hd3, pick3, List.append_assoc]
theorem hd3_end (t r s z : Nat) : hd3 t r s z 3 = headM t r s z := by simp [hd3, headM, List.append_assoc]
theorem ix3_0 (x0 x1 x2 : Value) (w : World) : (Instr.index 100 (.agg #[x0, x1, x2]) (.int .i64 0)).run Tryd.prog w = .ok x0 w := by kernel_rfl
theorem ix3_1 (x0 x1 x2 : Value) (w : World) : (Instr.index 100 (.agg #[x0, x1, x2]) (.int .i64 1)).run Tryd.prog w = .ok x1 w := by kernel_rfl
theorem ix3_2 (x0 x1 x2 : Value) (w : World) : (Instr.index 100 (.agg #[x0, x1, x2]) (.int .i64 2)).run Tryd.prog w = .ok x2 w := by kernel_rfl
theorem ix3k (r s z k : Nat) (hk : k < 3) (w : World) : (Instr.index 100 (.agg #[.int .i64 (r : Int), .int .i64 (s : Int), .int .i64 (z : Int)]) (.int .i64 (k : Int))).run Tryd.prog w = .ok (.int .i64 ((pick3 r s z k : Nat) : Int)) w := by
  match k, hk with
  | 0, _ => exact ix3_0 _ _ _ w
  | 1, _ => exact ix3_1 _ _ _ w
  | 2, _ => exact ix3_2 _ _ _ w
def lenS : Value → Nat
  | .slice _ n _ => n
  | _ => 0
theorem zeros_next (xs : List UInt8) (k : Nat) (h : 26 ≤ k) : xs ++ List.replicate (k - 26) 0 ++ [0] = xs ++ List.replicate (k + 1 - 26) 0 := by
  rw [show k + 1 - 26 = (k - 26) + 1 by omega, List.replicate_succ', List.append_assoc]
theorem fou_old {w1 W : World} {b : Nat} {t r s z : Int} (h : Fou w1 b t r s z) (hb : Below (b + 1) w1 W) : Fou W b t r s z :=
  ⟨(hb.cell (p := ⟨b, 0, none⟩) (Nat.lt_succ_self _)).trans h.1, (hb.cell (p := ⟨b, 1, none⟩) (Nat.lt_succ_self _)).trans h.2.1, (hb.cell (p := ⟨b, 2, none⟩) (Nat.lt_succ_self _)).trans h.2.2.1, (hb.cell (p := ⟨b, 3, none⟩) (Nat.lt_succ_self _)).trans h.2.2.2⟩
set_option maxRecDepth 100000 in
set_option maxHeartbeats 2000000 in
theorem refEncode_nat (t r s z : Nat) (w : World) (ht : t < 18446744073709551616) (hr : r ≤ 1024) (hs : s ≤ 1024) (hz : z ≤ 1024) :
    Calls Tryd.prog 29 #[.agg #[.int .u64 (t : Int), .int .i64 (r : Int), .int .i64 (s : Int), .int .i64 (z : Int)]] w fun e w' => ∃ A c, e = .returned (.slice A 256 c) ∧ w'.ownsRow w.heap.size 5 1 (.slice A 256 c) 256 (cellsOf (sealed (bodyN t r s z))) ∧ Below w.heap.size w w' := by
  have HP8 := fun w => kept (refPut_eight t w ht)
  have hpk : ∀ k, pick3 r s z k ≤ 1024 := fun k => by unfold pick3; split <;> omega
  have HP4 := kept (fun k w => refPut_4 (pick3 r s z k) w (hpk k))
  have HPK := kept hpk
  have HIX := kept (fun k hk w => ix3k r s z k hk w)
  have HNX := kept (fun k hk => hd3_next t r s z k hk)
  have HEND : Hid (hd3 t r s z 3 = headM t r s z) := kept (hd3_end t r s z)
  have HBN : Hid (bodyN t r s z = headM t r s z ++ List.replicate 218 0 ++ be t 8) := rfl
  have H0 : Hid (hd3 t r s z 0 = [9] ++ be t 8 ++ [84, 69, 82, 82, 1]) := kept (by simp [hd3])
  obtain ⟨w1, hw1⟩ : ∃ w1, w1 = w.alloc (.cells #[.int .u64 (t : Int), .int .i64 (r : Int), .int .i64 (s : Int), .int .i64 (z : Int)] 53) := ⟨_, rfl⟩
  have hsz : w1.heap.size = w.heap.size + 1 := by rw [hw1]; simp
  have HF1 : Hid (Fou w1 w.heap.size t r s z) := kept (by rw [hw1]; exact fou_new w _ t r s z)
  have HB1 : Hid (Below w.heap.size w w1) := kept (by rw [hw1]; exact (Below.refl _ _).alloc (Nat.le_refl _) _)
  have hon := own_nine w1
  rw [hsz] at hon
  have HON := kept hon
  have HA9 : Hid (Below (w.heap.size + 1) w1 (w1.alloc (.cells #[.int .u8 9] 5))) := kept ((Below.refl _ _).alloc (by omega) _)
  have HW1 := kept hw1
  have HSZ := kept hsz
  clear ht hr hs hz hpk hon hw1 hsz
  go_enter Tryd.func29, Tryd.ntmps29
  go_wp2_with fail
  with_reducible refine (HP8 _).out.mono ?_
  rw [← HW1.out]
  rintro e w2 ⟨A2, c2, rfl, hrd, hb⟩
  have hb2 := HA9.out.trans (hb.mono (by simp; have := HSZ.out; omega))
  have HO2 := kept (own_stays HON.out hb)
  have HR2 := kept hrd
  have HB2 := kept hb2
  have HS2 := kept (show w.heap.size + 1 ≤ w2.heap.size by have := hb2.size; have := HSZ.out; omega)
  clear hrd hb hb2
  go_wp2_with (first | (at_builtin; refine wpList_append_to rfl _ _ 25 rfl (w.heap.size + 1) 5 rfl rfl Tryd.underlying25 u8info HO2.out HR2.out (by omega) HS2.out 9 ([9] ++ be t 8) rfl rfl ?_; intro A3 c3 w3 hown3 hb3; have HO3 := kept hown3; have HB3 := kept (HB2.out.trans hb3); have HS3 := kept (Nat.le_trans HS2.out hb3.size); clear hown3 hb3) | (at_builtin; refine wpList_append_mark rfl _ _ rfl (w.heap.size + 1) rfl HO3.out rfl (by omega) HS3.out 14 (hd3 t r s z 0) rfl H0.out.symm ?_; intro A4 c4 w4 hown4 hb4; have HO4 := kept hown4; have HB4 := kept (HB3.out.trans hb4); have HS4 := kept (Nat.le_trans HS3.out hb4.size); obtain ⟨n0, n1, n2, n3⟩ := fou_old HF1.out HB4.out; clear hown4 hb4))
  clear n0 n1 n2 n3
  go_loopw [3, 20] (fun o i wr => ∃ (k : Nat) (A : Option Addr) (c : Nat), k ≤ 3 ∧ i = .int .i64 k ∧ o = .slice A (14 + 4 * k) c ∧ Hid (wr.ownsRow (w.heap.size + 1) 5 1 (.slice A (14 + 4 * k) c) (14 + 4 * k) (cellsOf (hd3 t r s z k))) ∧ Hid (Below (w.heap.size + 1) w1 wr)) (fun _ i _ => 3 - (intOf i).toNat)
  case atStart => exact ⟨0, A4, c4, by omega, rfl, rfl, HO4, HB4⟩
  case round =>
    obtain ⟨k, A, c, hk, rfl, rfl, HO, HB⟩ := hrel
    by_cases hlt : k < 3
    · have hix := HIX.out k hlt
      have HPP := fun w => kept (HP4.out k w)
      have hle := HPK.out k
      have HN := kept (HNX.out k hlt)
      generalize pick3 r s z k = p at hix HPP hle HN
      have hp0 : (0 : Int) ≤ (p : Int) := by omega
      go_wp2_with fail
      with_reducible refine (HPP _).out.mono ?_
      rintro e w5 ⟨A5, c5, rfl, hrd, hb⟩
      have HS5 := kept (show w.heap.size + 1 ≤ w5.heap.size by have := hb.size; have := HB.out.size; have := HSZ.out; omega)
      have HO5 := kept (own_stays HO.out hb)
      have HR5 := kept hrd
      have HB5 := kept (HB.out.trans (hb.mono (by have := HB.out.size; have := HSZ.out; omega)))
      clear hrd hb
      go_wp2_with (first | (at_builtin; refine wpList_append_to rfl _ _ 25 rfl (w.heap.size + 1) 5 rfl rfl Tryd.underlying25 u8info HO5.out HR5.out (by omega) HS5.out (14 + 4 * (k + 1)) (hd3 t r s z (k + 1)) (by omega) HN.out ?_; intro A6 c6 w6 hown6 hb6; have HO6 := kept hown6; have HB6 := kept (HB5.out.trans hb6); clear hown6 hb6))
      go_roundw
      case rel => exact ⟨k + 1, A6, c6, by omega, by go_num, rfl, HO6, HB6⟩
      case measure => simp [intOf]; omega
    · obtain rfl : k = 3 := by omega
      have HOX : Hid (wr.ownsRow (w.heap.size + 1) 5 1 (.slice A 26 c) 26 (cellsOf (headM t r s z ++ List.replicate (26 - 26) 0))) := kept (by have h := HO.out; rw [HEND.out] at h; simpa using h)
      go_wp2
      go_loopw [3] (fun o wx => ∃ (k : Nat) (A : Option Addr) (c : Nat), 26 ≤ k ∧ k ≤ 244 ∧ o = .slice A k c ∧ Hid (wx.ownsRow (w.heap.size + 1) 5 1 (.slice A k c) k (cellsOf (headM t r s z ++ List.replicate (k - 26) 0))) ∧ Hid (Below (w.heap.size + 1) w1 wx)) (fun o _ => 244 - lenS o)
      case atStart => exact ⟨26, A, c, by omega, by omega, rfl, HOX, HB⟩
      case round =>
        clear HO HOX HB
        obtain ⟨k, A, c, hk, hk2, rfl, HO, HB⟩ := hrel
        rename World => wx
        by_cases hlt : k < 244
        · have HZN := kept (zeros_next (headM t r s z) k hk)
          have HSX := kept (show w.heap.size + 1 ≤ wx.heap.size by have := HB.out.size; have := HSZ.out; omega)
          have HOA := fun o => kept (own_stays HO.out ((Below.refl _ wx).alloc (Nat.le_refl _) o))
          have HBA := fun o => kept (HB.out.alloc HSX.out o)
          have HRZ := kept (rd_zero wx)
          go_wp2_with (first | (at_builtin; refine wpList_append_to rfl _ _ 25 rfl (w.heap.size + 1) 5 rfl rfl Tryd.underlying25 u8info (HOA _).out HRZ.out (by omega) (by have := HSX.out; simp; omega) (k + 1) (headM t r s z ++ List.replicate (k + 1 - 26) 0) rfl HZN.out ?_; intro A6 c6 w6 hown6 hb6; have HO6 := kept hown6; have HB6 := kept ((HBA _).out.trans hb6); clear hown6 hb6))
          go_roundw
          case rel => exact ⟨_, _, _, _, _, _, _, ⟨k + 1, A6, c6, by omega, by omega, rfl, HO6, HB6⟩, rfl⟩
          case measure => simp [lenS]; omega
        · obtain rfl : k = 244 := by omega
          obtain ⟨n0, n1, n2, n3⟩ := fou_old HF1.out HB.out
          go_wp2_with fail
          with_reducible refine (HP8 _).out.mono ?_
          rintro e w7 ⟨A7, c7, rfl, hrd, hb⟩
          have HS7 := kept (show w.heap.size + 1 ≤ w7.heap.size by have := hb.size; have := HB.out.size; have := HSZ.out; omega)
          have HO7 := kept (own_stays HO.out hb)
          have HR7 := kept hrd
          have HB7 := kept (HB.out.trans (hb.mono (by have := HB.out.size; have := HSZ.out; omega)))
          clear hrd hb n0 n1 n2 n3
          have HBN2 : Hid (headM t r s z ++ List.replicate (244 - 26) 0 ++ be t 8 = bodyN t r s z) := kept HBN.out.symm
          go_wp2_with (first | (at_builtin; refine wpList_append_to rfl _ _ 25 rfl (w.heap.size + 1) 5 rfl rfl Tryd.underlying25 u8info HO7.out HR7.out (by omega) HS7.out 252 (bodyN t r s z) rfl HBN2.out ?_; intro A8 c8 w8 hown8 hb8; have HSL := kept (refSeal_252 A8 c8 _ w8 (Rd.of_own hown8)); have HB8 := kept (bel_to (Below.refl _ _) (HB1.out.trans ((HB7.out.trans hb8).mono (Nat.le_succ _)))); clear hown8 hb8) | (go_at_call 20; (with_reducible refine (HSL.out).mono ?_); rintro e w9 ⟨A9, c9, rfl, hown9, hb9⟩; have HO9 := kept (own_mono hown9 HB8.out.size); have HB9 := kept (bel_to hb9 HB8.out); clear hown9 hb9))
          go_ret
          exact ⟨A9, c9, rfl, HO9.out, HB9.out⟩
theorem refEncode_m (m : Mt) (w : World) (ht : m.txn < 18446744073709551616) (hR : rightM m = true) :
    Calls Tryd.prog 29 #[m.val] w fun e w' => ∃ A c, e = .returned (.slice A 256 c) ∧ w'.ownsRow w.heap.size 5 1 (.slice A 256 c) 256 (cellsOf (sealed (bodyM m))) ∧ Below w.heap.size w w' := by
  obtain ⟨r, s, z, e, hr, hs, hz, hb⟩ := rightM_nat hR
  rw [hb]
  rw [e]
  exact refEncode_nat m.txn r s z w ht hr hs hz
end Go.Proofs.YtfgpkgenahlikaaDoor
