/- Mr Ms Mv Mt -/
import Derived.Test.YtcapcobkildmcaaGreatDoorBMf
import Derived.Lib.AppendStr
import Derived.Test.YtcapcobkildmcaaGreatDoorBPh
section
namespace Go.Proofs.YtcapcobkildmcaaGreatDoor
open Go.ChangeShapes Go.WideShapes Go.ChangeAt Go.RowKit
set_option linter.unusedVariables false
set_option linter.unusedSimpArgs false
set_option maxRecDepth 100000
set_option maxHeartbeats 16000000
theorem refRight_m (m : Mt) (w : World) (b : Bool) (hb : rightM m = b) :
 Calls Tryz.prog 209 #[m.val] w fun e w' => e = .returned (.bool b) ∧ Below w.heap.size w w' := by
 subst hb; obtain ⟨t, r, s, z⟩ := m; have HR : Hid (rightM ⟨t, r, s, z⟩ = (decide (8 ≤ z) && decide (z ≤ 1024) && beginsB z r && beginsB z s)) := rfl; have HB0 := kept ((Below.refl w.heap.size w).alloc (Nat.le_refl _) (.cells #[.int .u64 (t : Int), .int .i64 r, .int .i64 s, .int .i64 z] 98)); generalize rightM ⟨t, r, s, z⟩ = o at HR; by_cases h8 : z < 8
 · have HO : Hid (o = false) := by show _ = _; rw [HR.out]; simp; omega
   go_enter Tryz.func209, Tryz.ntmps209; go_wp2; go_ret; exact ⟨ret_bool HO.out.symm, HB0.out⟩
 by_cases h9 : 1024 < z
 · have HO : Hid (o = false) := by show _ = _; rw [HR.out]; simp; omega
   go_enter Tryz.func209, Tryz.ntmps209; go_wp2; go_ret; exact ⟨ret_bool HO.out.symm, HB0.out⟩
 have HO : Hid (o = (beginsB z r && beginsB z s)) := by show _ = _; rw [HR.out]; simp [show 8 ≤ z by omega, show z ≤ 1024 by omega]
 go_enter Tryz.func209, Tryz.ntmps209; go_wp2
 all_goals
  go_ret; exact ⟨ret_bool (by rw [HO.out, Bool.eq_iff_iff]; simp [beginsB] <;> omega), (Below.refl _ _).alloc (Nat.le_refl _) _⟩
theorem wpList_append_to {P : Program} {w : World} {ops : Array Oper} {rest : List Oper} {o : Oper} {a : Act} {Q : Exit → Act → World → Prop} (hgd : o.guard = none) (s x : Operand) (t : TypeId)
 (ho : o.op = .call { callee := .builtin .append, args := #[s, x], argTypes := #[t, t] })
 (base : Nat) (e : TypeId) {n : Nat} {xs : List UInt8} {v : Value} {A : Option Addr} {m c : Nat} {ys : List UInt8} (hs : a.eval s = v) (hx : a.eval x = .slice A m c)
 (ht : P.underlying t = some (.slice e)) (hinfo : (P.info? e).map (fun i => (i.zero, i.size, i.bytes)) = some (some (.int .u8 0), 1, 1)) (hown : w.ownsRow base e 1 v n (cellsOf xs)) (hr : Rd w A m ys)
 (hm : n + m ≤ 140737488355328) (hbase : base ≤ w.heap.size) (tot : Nat) (zs : List UInt8) (htot : n + m = tot) (hz : xs ++ ys = zs)
 (h : ∀ A' c' w', w'.ownsRow base e 1 (.slice A' tot c') tot (cellsOf zs) → Below base w w' → wpList P ops Q rest (a.put o.dst (.slice A' tot c')) w') : wpList P ops Q (o :: rest) a w := by
 subst htot hz; exact wpList_append_rd hgd s x t ho base e hs hx ht hinfo hown hr hm hbase h
theorem wpList_append_mark {w : World} {ops : Array Oper} {rest : List Oper} {o : Oper} {a : Act} {Q : Exit → Act → World → Prop} (hgd : o.guard = none) (sl x : Operand)
 (ho : o.op = .call { callee := .builtin .append, args := #[sl, x], argTypes := #[46, 9] })
 (base : Nat) {n : Nat} {xs : List UInt8} {A : Option Addr} {c : Nat} (hs : a.eval sl = .slice A n c) (hown : w.ownsRow base 5 1 (.slice A n c) n (cellsOf xs)) (hx : a.eval x = .string ⟨#[84, 69, 82, 82, 1]⟩)
 (hm : n + 5 ≤ 140737488355328) (hbase : base ≤ w.heap.size) (tot : Nat) (zs : List UInt8) (htot : n + 5 = tot) (hz : xs ++ [84, 69, 82, 82, 1] = zs)
 (h : ∀ A' c' w', w'.ownsRow base 5 1 (.slice A' tot c') tot (cellsOf zs) → Below base w w' → wpList Tryz.prog ops Q rest (a.put o.dst (.slice A' tot c')) w') : wpList Tryz.prog ops Q (o :: rest) a w := by
 subst htot hz; obtain ⟨i, hi, hz0, hz1, hz2⟩ := info_parts u8info; refine Lib.wpList_append_own_string w hgd sl x 46 9 ho base 5 i Tryz.underlying46 Tryz.underlying9 hi hz0 hz1 hz2 _ n _ hs hown ⟨#[84, 69, 82, 82, 1]⟩ hx (by show n + 5 ≤ maxLen; unfold maxLen; omega) hm hbase ?_; intro v' w' ho' hg _; have e : cellsOf xs ++ Lib.strCells ⟨#[84, 69, 82, 82, 1]⟩ = cellsOf (xs ++ [84, 69, 82, 82, 1]) := by rw [cellsOf_append]; rfl
 rw [e] at ho'; have ho2 : w'.ownsRow base 5 1 v' (n + 5) (cellsOf (xs ++ [84, 69, 82, 82, 1])) := ho'; have hv : ∃ A' c', v' = .slice A' (n + 5) c' := by
  rcases ho2.2 with ⟨rfl, h⟩ | ⟨g, cap, cur, rfl, _⟩
  · omega
  · exact ⟨_, _, rfl⟩
 obtain ⟨A', c', rfl⟩ := hv; exact h A' c' w' ho2 ((Below.refl base w).grown hg hbase (fun k hk => (hown.lt k hk).1))
theorem own_nine (W : World) : (W.alloc (.cells #[.int .u8 9] 5)).ownsRow W.heap.size 5 1 (.slice (some ⟨W.heap.size, 0, none⟩) 1 1) 1 (cellsOf [9]) := by
 have hb := Blk.new W 5 #[.int .u8 9]; exact Blk.own (xs := [9]) hb (Nat.le_refl _) rfl (by unfold maxLen; omega)
theorem rd_zero (W : World) : Rd (W.alloc (.cells #[.int .u8 0] 5)) (some ⟨W.heap.size, 0, none⟩) 1 [0] := Rd.marked W 5 [0] (0, 0)
theorem refPut_eight (m : Nat) (w : World) (hm : m < 18446744073709551616) :
 Calls Tryz.prog 143 #[.int .u64 (m : Int), .int .i64 8] w fun e w' => ∃ A c, e = .returned (.slice A 8 c) ∧ Rd w' A 8 (be m 8) ∧ Below w.heap.size w w' := refPut_ok m 8 w hm (by omega)
theorem refPut_4 (m : Nat) (w : World) (hm : m ≤ 1024) :
 Calls Tryz.prog 143 #[.int .u64 (m : Int), .int .i64 4] w fun e w' => ∃ A c, e = .returned (.slice A 4 c) ∧ Rd w' A 4 (be m 4) ∧ Below w.heap.size w w' := refPut_ok m 4 w (by omega) (by omega)
theorem refSeal_252 (A : Option Addr) (c : Nat) (xs : List UInt8) (w : World) (h : Rd w A 252 xs) :
 Calls Tryz.prog 144 #[.slice A 252 c] w fun e w' => ∃ A' c', e = .returned (.slice A' 256 c') ∧ w'.ownsRow w.heap.size 5 1 (.slice A' 256 c') 256 (cellsOf (sealed xs)) ∧ Below w.heap.size w w' := refSeal_any A 252 c xs w h (by omega)
def pick3 (r s z k : Nat) : Nat := match k with | 0 => r | 1 => s | _ => z
def hd3 (t r s z k : Nat) : List UInt8 := [9] ++ be t 8 ++ [84, 69, 82, 82, 1] ++ (match k with | 0 => [] | 1 => be r 4 | 2 => be r 4 ++ be s 4 | _ => be r 4 ++ be s 4 ++ be z 4)
theorem hd3_next (t r s z k : Nat) (h : k < 3) : hd3 t r s z k ++ be (pick3 r s z k) 4 = hd3 t r s z (k + 1) := by
 match k, h with
 | 0, _ => simp [hd3, pick3]
 | 1, _ => simp [hd3, pick3, List.append_assoc]
 | 2, _ => simp [hd3, pick3, List.append_assoc]
theorem hd3_end (t r s z : Nat) : hd3 t r s z 3 = headM t r s z := by simp [hd3, headM, List.append_assoc]
theorem ix3_0 (x0 x1 x2 : Value) (w : World) : (Instr.index 268 (.agg #[x0, x1, x2]) (.int .i64 0)).run Tryz.prog w = .ok x0 w := by kernel_rfl
theorem ix3_1 (x0 x1 x2 : Value) (w : World) : (Instr.index 268 (.agg #[x0, x1, x2]) (.int .i64 1)).run Tryz.prog w = .ok x1 w := by kernel_rfl
theorem ix3_2 (x0 x1 x2 : Value) (w : World) : (Instr.index 268 (.agg #[x0, x1, x2]) (.int .i64 2)).run Tryz.prog w = .ok x2 w := by kernel_rfl
theorem ix3k (r s z k : Nat) (hk : k < 3) (w : World) : (Instr.index 268 (.agg #[.int .i64 (r : Int), .int .i64 (s : Int), .int .i64 (z : Int)]) (.int .i64 (k : Int))).run Tryz.prog w = .ok (.int .i64 ((pick3 r s z k : Nat) : Int)) w := by
 match k, hk with
 | 0, _ => exact ix3_0 _ _ _ w
 | 1, _ => exact ix3_1 _ _ _ w
 | 2, _ => exact ix3_2 _ _ _ w
def lenS : Value → Nat
 | .slice _ n _ => n
 | _ => 0
theorem zeros_next (xs : List UInt8) (k : Nat) (h : 26 ≤ k) : xs ++ List.replicate (k - 26) 0 ++ [0] = xs ++ List.replicate (k + 1 - 26) 0 := by
 rw [show k + 1 - 26 = (k - 26) + 1 by omega, List.replicate_succ', List.append_assoc]
theorem fou_old {w1 W : World} {b : Nat} {t r s z : Int} (h : Fou w1 b t r s z) (hb : Below (b + 1) w1 W) : Fou W b t r s z :=
 ⟨(hb.cell (p := ⟨b, 0, none⟩) (Nat.lt_succ_self _)).trans h.1, (hb.cell (p := ⟨b, 1, none⟩) (Nat.lt_succ_self _)).trans h.2.1, (hb.cell (p := ⟨b, 2, none⟩) (Nat.lt_succ_self _)).trans h.2.2.1, (hb.cell (p := ⟨b, 3, none⟩) (Nat.lt_succ_self _)).trans h.2.2.2⟩
theorem refEncode_nat (t r s z : Nat) (w : World) (ht : t < 18446744073709551616) (hr : r ≤ 1024) (hs : s ≤ 1024) (hz : z ≤ 1024) :
 Calls Tryz.prog 84 #[.agg #[.int .u64 (t : Int), .int .i64 (r : Int), .int .i64 (s : Int), .int .i64 (z : Int)]] w fun e w' => ∃ A c, e = .returned (.slice A 256 c) ∧ w'.ownsRow w.heap.size 5 1 (.slice A 256 c) 256 (cellsOf (sealed (bodyN t r s z))) ∧ Below w.heap.size w w' := by
 have HP8 := fun w => kept (refPut_eight t w ht)
 have hpk : ∀ k, pick3 r s z k ≤ 1024 := fun k => by unfold pick3; split <;> omega
 have HP4 := kept (fun k w => refPut_4 (pick3 r s z k) w (hpk k)); have HPK := kept hpk; have HIX := kept (fun k hk w => ix3k r s z k hk w); have HNX := kept (fun k hk => hd3_next t r s z k hk); have HEND : Hid (hd3 t r s z 3 = headM t r s z) := kept (hd3_end t r s z); have HBN : Hid (bodyN t r s z = headM t r s z ++ List.replicate 218 0 ++ be t 8) := rfl; have H0 : Hid (hd3 t r s z 0 = [9] ++ be t 8 ++ [84, 69, 82, 82, 1]) := kept (by simp [hd3]); obtain ⟨w1, hw1⟩ : ∃ w1, w1 = w.alloc (.cells #[.int .u64 (t : Int), .int .i64 (r : Int), .int .i64 (s : Int), .int .i64 (z : Int)] 98) := ⟨_, rfl⟩
 have hsz : w1.heap.size = w.heap.size + 1 := by rw [hw1]; simp
 have HF1 : Hid (Fou w1 w.heap.size t r s z) := kept (by rw [hw1]; exact fou_new w _ t r s z); have HB1 : Hid (Below w.heap.size w w1) := kept (by rw [hw1]; exact (Below.refl _ _).alloc (Nat.le_refl _) _); have hon := own_nine w1; rw [hsz] at hon; have HON := kept hon; have HA9 : Hid (Below (w.heap.size + 1) w1 (w1.alloc (.cells #[.int .u8 9] 5))) := kept ((Below.refl _ _).alloc (by omega) _); have HW1 := kept hw1; have HSZ := kept hsz; clear ht hr hs hz hpk hon hw1 hsz; go_enter Tryz.func84, Tryz.ntmps84; go_wp2_with fail
 with_reducible refine (HP8 _).out.mono ?_
 rw [← HW1.out]; rintro e w2 ⟨A2, c2, rfl, hrd, hb⟩; have hb2 := HA9.out.trans (hb.mono (by simp; have := HSZ.out; omega)); have HO2 := kept (own_stays HON.out hb); have HR2 := kept hrd; have HB2 := kept hb2; have HS2 := kept (show w.heap.size + 1 ≤ w2.heap.size by have := hb2.size; have := HSZ.out; omega); clear hrd hb hb2; go_wp2_with (first | (at_builtin; refine wpList_append_to rfl _ _ 46 rfl (w.heap.size + 1) 5 rfl rfl Tryz.underlying46 u8info HO2.out HR2.out (by omega) HS2.out 9 ([9] ++ be t 8) rfl rfl ?_; intro A3 c3 w3 hown3 hb3; have HO3 := kept hown3; have HB3 := kept (HB2.out.trans hb3); have HS3 := kept (Nat.le_trans HS2.out hb3.size); clear hown3 hb3) | (at_builtin; refine wpList_append_mark rfl _ _ rfl (w.heap.size + 1) rfl HO3.out rfl (by omega) HS3.out 14 (hd3 t r s z 0) rfl H0.out.symm ?_; intro A4 c4 w4 hown4 hb4; have HO4 := kept hown4; have HB4 := kept (HB3.out.trans hb4); have HS4 := kept (Nat.le_trans HS3.out hb4.size); obtain ⟨n0, n1, n2, n3⟩ := fou_old HF1.out HB4.out; clear hown4 hb4))
 clear n0 n1 n2 n3; go_loopw [3, 20] (fun o i wr => ∃ (k : Nat) (A : Option Addr) (c : Nat), k ≤ 3 ∧ i = .int .i64 k ∧ o = .slice A (14 + 4 * k) c ∧ Hid (wr.ownsRow (w.heap.size + 1) 5 1 (.slice A (14 + 4 * k) c) (14 + 4 * k) (cellsOf (hd3 t r s z k))) ∧ Hid (Below (w.heap.size + 1) w1 wr)) (fun _ i _ => 3 - (intOf i).toNat)
 case atStart => exact ⟨0, A4, c4, by omega, rfl, rfl, HO4, HB4⟩
 case round =>
  obtain ⟨k, A, c, hk, rfl, rfl, HO, HB⟩ := hrel; by_cases hlt : k < 3
  · have hix := HIX.out k hlt; have HPP := fun w => kept (HP4.out k w)
    have hle := HPK.out k; have HN := kept (HNX.out k hlt); generalize pick3 r s z k = p at hix HPP hle HN; have hp0 : (0 : Int) ≤ (p : Int) := by omega
    go_wp2_with fail
    with_reducible refine (HPP _).out.mono ?_
    rintro e w5 ⟨A5, c5, rfl, hrd, hb⟩; have HS5 := kept (show w.heap.size + 1 ≤ w5.heap.size by have := hb.size; have := HB.out.size; have := HSZ.out; omega); have HO5 := kept (own_stays HO.out hb); have HR5 := kept hrd; have HB5 := kept (HB.out.trans (hb.mono (by have := HB.out.size; have := HSZ.out; omega))); clear hrd hb; go_wp2_with (first | (at_builtin; refine wpList_append_to rfl _ _ 46 rfl (w.heap.size + 1) 5 rfl rfl Tryz.underlying46 u8info HO5.out HR5.out (by omega) HS5.out (14 + 4 * (k + 1)) (hd3 t r s z (k + 1)) (by omega) HN.out ?_; intro A6 c6 w6 hown6 hb6; have HO6 := kept hown6; have HB6 := kept (HB5.out.trans hb6); clear hown6 hb6))
    go_roundw
    case rel => exact ⟨k + 1, A6, c6, by omega, by go_num, rfl, HO6, HB6⟩
    case measure => simp [intOf]; omega
  · obtain rfl : k = 3 := by omega
    have HOX : Hid (wr.ownsRow (w.heap.size + 1) 5 1 (.slice A 26 c) 26 (cellsOf (headM t r s z ++ List.replicate (26 - 26) 0))) := kept (by have h := HO.out; rw [HEND.out] at h; simpa using h); go_wp2; go_loopw [3] (fun o wx => ∃ (k : Nat) (A : Option Addr) (c : Nat), 26 ≤ k ∧ k ≤ 244 ∧ o = .slice A k c ∧ Hid (wx.ownsRow (w.heap.size + 1) 5 1 (.slice A k c) k (cellsOf (headM t r s z ++ List.replicate (k - 26) 0))) ∧ Hid (Below (w.heap.size + 1) w1 wx)) (fun o _ => 244 - lenS o)
    case atStart => exact ⟨26, A, c, by omega, by omega, rfl, HOX, HB⟩
    case round =>
     clear HO HOX HB; obtain ⟨k, A, c, hk, hk2, rfl, HO, HB⟩ := hrel
     rename World => wx
     by_cases hlt : k < 244
     · have HZN := kept (zeros_next (headM t r s z) k hk); have HSX := kept (show w.heap.size + 1 ≤ wx.heap.size by have := HB.out.size; have := HSZ.out; omega); have HOA := fun o => kept (own_stays HO.out ((Below.refl _ wx).alloc (Nat.le_refl _) o))
       have HBA := fun o => kept (HB.out.alloc HSX.out o)
       have HRZ := kept (rd_zero wx); go_wp2_with (first | (at_builtin; refine wpList_append_to rfl _ _ 46 rfl (w.heap.size + 1) 5 rfl rfl Tryz.underlying46 u8info (HOA _).out HRZ.out (by omega) (by have := HSX.out; simp; omega) (k + 1) (headM t r s z ++ List.replicate (k + 1 - 26) 0) rfl HZN.out ?_; intro A6 c6 w6 hown6 hb6; have HO6 := kept hown6; have HB6 := kept ((HBA _).out.trans hb6); clear hown6 hb6))
       go_roundw
       case rel => exact ⟨_, _, _, _, _, _, _, ⟨k + 1, A6, c6, by omega, by omega, rfl, HO6, HB6⟩, rfl⟩
       case measure => simp [lenS]; omega
     · obtain rfl : k = 244 := by omega
       obtain ⟨n0, n1, n2, n3⟩ := fou_old HF1.out HB.out; go_wp2_with fail
       with_reducible refine (HP8 _).out.mono ?_
       rintro e w7 ⟨A7, c7, rfl, hrd, hb⟩; have HS7 := kept (show w.heap.size + 1 ≤ w7.heap.size by have := hb.size; have := HB.out.size; have := HSZ.out; omega); have HO7 := kept (own_stays HO.out hb); have HR7 := kept hrd; have HB7 := kept (HB.out.trans (hb.mono (by have := HB.out.size; have := HSZ.out; omega))); clear hrd hb n0 n1 n2 n3; have HBN2 : Hid (headM t r s z ++ List.replicate (244 - 26) 0 ++ be t 8 = bodyN t r s z) := kept HBN.out.symm; go_wp2_with (first | (at_builtin; refine wpList_append_to rfl _ _ 46 rfl (w.heap.size + 1) 5 rfl rfl Tryz.underlying46 u8info HO7.out HR7.out (by omega) HS7.out 252 (bodyN t r s z) rfl HBN2.out ?_; intro A8 c8 w8 hown8 hb8; have HSL := kept (refSeal_252 A8 c8 _ w8 (Rd.of_own hown8)); have HB8 := kept (bel_to (Below.refl _ _) (HB1.out.trans ((HB7.out.trans hb8).mono (Nat.le_succ _)))); clear hown8 hb8) | (go_at_call 144; (with_reducible refine (HSL.out).mono ?_); rintro e w9 ⟨A9, c9, rfl, hown9, hb9⟩; have HO9 := kept (own_mono hown9 HB8.out.size); have HB9 := kept (bel_to hb9 HB8.out); clear hown9 hb9))
       go_ret; exact ⟨A9, c9, rfl, HO9.out, HB9.out⟩
theorem refEncode_m (m : Mt) (w : World) (ht : m.txn < 18446744073709551616) (hR : rightM m = true) :
 Calls Tryz.prog 84 #[m.val] w fun e w' => ∃ A c, e = .returned (.slice A 256 c) ∧ w'.ownsRow w.heap.size 5 1 (.slice A 256 c) 256 (cellsOf (sealed (bodyM m))) ∧ Below w.heap.size w w' := by
 obtain ⟨r, s, z, e, hr, hs, hz, hb⟩ := rightM_nat hR; rw [hb]; rw [e]; exact refEncode_nat m.txn r s z w ht hr hs hz
theorem refDecode_m_size (A : Option Addr) (n c : Nat) (w : World) (hn : n ≠ 256) :
 Calls Tryz.prog 146 #[.slice A n c] w fun e w' => e = .returned (.tuple #[zeroV5, .int .i64 4]) ∧ Below w.heap.size w w' := by
 have hb : ((n : Int) != 256) = true := by simp; omega
 clear hn; go_enter Tryz.func146, Tryz.ntmps146; go_wp2; exact bodyPost_ret (v := .tuple #[zeroV5, .int .i64 4]) (by simp [results, Tryz.results146, go_sem]) rfl ⟨rfl, (Below.refl _ _).alloc (Nat.le_refl _) _⟩
theorem refOpen_256 (A : Option Addr) (c : Nat) (xs : List UInt8) (w : World) (hr : Rd w A 256 xs) (hc : 256 ≤ c) (hw : num (xs.take 4) 0 ≠ csum (xs.drop 4)) :
 Calls Tryz.prog 147 #[.slice A 256 c] w fun e w' => ∃ A' n' c', e = .returned (.tuple #[.slice A' n' c', .int .i64 6]) ∧ Below w.heap.size w w' := by
 have h := refOpen_long A 256 c xs w hr hc (by omega) (by omega) false (by rw [decide_eq_false_iff_not]; exact fun e => hw ((sealed_iff xs (by have := hr.1; omega)).1 e)); refine h.mono ?_; rintro e w' ⟨A', n', c', he, _, hb⟩; exact ⟨A', n', c', he, hb⟩
theorem refOpen_good (A : Option Addr) (c : Nat) (xs : List UInt8) (w : World) (hr : Rd w A 256 xs) (hc : 256 ≤ c) (hw : num (xs.take 4) 0 = csum (xs.drop 4)) :
 Calls Tryz.prog 147 #[.slice A 256 c] w fun e w' => ∃ A' c', e = .returned (.tuple #[.slice A' 252 c', .int .i64 0]) ∧ Rd w' A' 252 (xs.drop 4) ∧ Below w.heap.size w w' := by
 have h := refOpen_long A 256 c xs w hr hc (by omega) (by omega) true (by rw [decide_eq_true_eq]; exact (sealed_iff xs (by have := hr.1; omega)).2 hw); refine h.mono ?_; rintro e w' ⟨A', n', c', he, hd, hb⟩; have hn : n' = 252 := by have := hd.1; simp only [if_true, List.length_drop, hr.1] at this; omega
 subst hn; exact ⟨A', c', he, hd, hb⟩
theorem refDecode_m_sum (A : Option Addr) (c : Nat) (xs : List UInt8) (w : World) (hr : Rd w A 256 xs) (hc : 256 ≤ c) (hw : num (xs.take 4) 0 ≠ csum (xs.drop 4)) :
 Calls Tryz.prog 146 #[.slice A 256 c] w fun e w' => e = .returned (.tuple #[zeroV5, .int .i64 6]) ∧ Below w.heap.size w w' := by
 have HO := fun o => kept (refOpen_256 A c xs (w.alloc o) (hr.alloc o) hc hw)
 clear hr hw; go_enter Tryz.func146, Tryz.ntmps146; go_wp2_with fail
 with_reducible refine (HO _).out.mono ?_
 rintro e w1 ⟨A1, n1, c1, rfl, hb⟩; have hblk := (Blk.new w 98 #[.int .u64 0, .int .i64 0, .int .i64 0, .int .i64 0]).below hb (by simp); have HBB := kept (bel_to hb ((Below.refl _ w).alloc (Nat.le_refl _) _)); obtain ⟨e0, e1, e2, e3⟩ := hblk.fou; have f0 := hblk.frozen 0; have f1 := hblk.frozen 1; have f2 := hblk.frozen 2; have f3 := hblk.frozen 3; have HBL := kept hblk; clear hb hblk; go_wp2; have hx := store4 HBL.out HBB.out (Nat.le_refl _) (.int .u64 0) (.int .i64 0) (.int .i64 0) (.int .i64 0); generalize (((w1.setCell ⟨w.heap.size, 0, none⟩ (.int .u64 0)).setCell ⟨w.heap.size, 1, none⟩ (.int .i64 0)).setCell ⟨w.heap.size, 2, none⟩ (.int .i64 0)).setCell ⟨w.heap.size, 3, none⟩ (.int .i64 0) = X at hx ⊢; obtain ⟨v0, v1, v2, v3, hbx⟩ := hx; exact bodyPost_ret (v := .tuple #[zeroV5, .int .i64 6]) (by simp [results, Tryz.results146, go_sem, v0, v1, v2, v3]) rfl ⟨rfl, hbx⟩
def ncells (p : Nat → Nat) (k : Nat) : List Value := [.int .i64 (if 0 < k then (p 0 : Int) else 0), .int .i64 (if 1 < k then (p 1 : Int) else 0), .int .i64 (if 2 < k then (p 2 : Int) else 0)]
theorem ncells_next (p : Nat → Nat) (k : Nat) (h : k < 3) : (ncells p k).set k (.int .i64 (p k : Int)) = ncells p (k + 1) := by
 match k, h with
 | 0, _ => simp [ncells]
 | 1, _ => simp [ncells]
 | 2, _ => simp [ncells]
theorem ncells_get (p : Nat → Nat) (k : Nat) (h : k < 3) : ∃ v, (ncells p k)[k]? = some v := by
 match k, h with
 | 0, _ => exact ⟨_, rfl⟩
 | 1, _ => exact ⟨_, rfl⟩
 | 2, _ => exact ⟨_, rfl⟩
theorem refGet8 (A : Option Addr) (c : Nat) (ys : List UInt8) (w : World) (hr : Rd w A 252 ys) :
 Calls Tryz.prog 208 #[.slice A 252 c, .int .i64 1, .int .i64 8] w fun e w' => e = .returned (.tuple #[.int .u64 ((num (part ys 1 8) 0 : Nat) : Int), .int .i64 0]) ∧ w = w' :=
 refGet_ok A 252 c 1 8 ys w (by omega) (by omega) hr (by omega) (by omega)
theorem refGet4 (A : Option Addr) (c : Nat) (ys : List UInt8) (k : Nat) (hk : k < 3) (w : World) (hr : Rd w A 252 ys) :
 Calls Tryz.prog 208 #[.slice A 252 c, .int .i64 (14 + 4 * (k : Int)), .int .i64 4] w fun e w' => e = .returned (.tuple #[.int .u64 ((num (part ys (14 + 4 * k) 4) 0 : Nat) : Int), .int .i64 0]) ∧ w = w' := by
 have h := refGet_ok A 252 c (14 + 4 * k) 4 ys w (by omega) (by omega) hr (by omega) (by omega); have e : (((14 + 4 * k : Nat)) : Int) = 14 + 4 * (k : Int) := by omega
 rw [e] at h; exact h
theorem refDecode_m_body (A : Option Addr) (c : Nat) (xs : List UInt8) (w : World) (hr : Rd w A 256 xs) (hc : 256 ≤ c) (hw : num (xs.take 4) 0 = csum (xs.drop 4)) :
 Calls Tryz.prog 146 #[.slice A 256 c] w fun e w' => e = .returned (.tuple #[(decM xs).1.val, .int .i64 (decM xs).2]) ∧ Below w.heap.size w w' := by
 have HO := fun o => kept (refOpen_good A c xs (w.alloc o) (hr.alloc o) hc hw)
 have HSI := kept (fun ys => sealed_ne (ys := ys) (zs := ys) hw (by have := hr.1; omega)); have hyl : (xs.drop 4).length = 252 := by rw [List.length_drop, hr.1]
 have HD : Hid (decM xs = if rightM (readM (xs.drop 4)) && decide (bodyM (readM (xs.drop 4)) = xs.drop 4) then (readM (xs.drop 4), 0) else (zeroMt, 4)) := by
  show _ = _; unfold decM; rw [if_neg (by simpa using hr.1), if_neg (by simpa using hw)]
 obtain ⟨ys, hys⟩ : ∃ ys, xs.drop 4 = ys := ⟨_, rfl⟩
 rw [hys] at HO hyl HSI HD; have htx := readM_txn hyl; have HRM : Hid (readM ys = ⟨num (part ys 1 8) 0, ((num (part ys (14 + 4 * 0) 4) 0 : Nat) : Int), ((num (part ys (14 + 4 * 1) 4) 0 : Nat) : Int), ((num (part ys (14 + 4 * 2) 4) 0 : Nat) : Int)⟩) := rfl; have HRT := fun W => kept (refRight_m (readM ys) W _ rfl)
 have HEN := fun W h => kept (refEncode_m (readM ys) W htx h)
 have hp32 : ∀ k, k < 3 → num (part ys (14 + 4 * k) 4) 0 < 4294967296 := fun k hk => num_part_lt ys (14 + 4 * k) 4 (by omega)
 have HP32 := kept hp32; have HG8 := fun A c W h => kept (refGet8 A c ys W h)
 have HG4 := kept (fun A c k hk W h => refGet4 A c ys k hk W h); obtain ⟨p, hp⟩ : ∃ p : Nat → Nat, ∀ k, num (part ys (14 + 4 * k) 4) 0 = p k := ⟨_, fun _ => rfl⟩
 simp only [hp] at HRM HP32 HG4; generalize num (part ys 1 8) 0 = p1 at HRM HG8; generalize readM ys = m at HRM HRT HEN HD htx; have HR := kept hr; generalize decM xs = D at HD; clear hr hw hys hp hp32 htx hyl; go_enter Tryz.func146, Tryz.ntmps146; go_wp2_with fail
 with_reducible refine (HO _).out.mono ?_
 rintro e w1 ⟨A1, c1, rfl, hd, hb⟩; have HQ1 := kept ((Blk.new w 98 #[.int .u64 0, .int .i64 0, .int .i64 0, .int .i64 0]).below hb (by simp)); have HB1 := kept (bel_to hb ((Below.refl _ w).alloc (Nat.le_refl _) _)); have HD1 := kept hd; have HG := fun o => kept (HG8 A1 c1 (w1.alloc o) (hd.alloc o)).out
 clear hd hb; go_wp2_with fail
 with_reducible refine (HG _).out.mono ?_
 rintro e w2 ⟨rfl, rfl⟩; have hx4 : ∀ W4 : World, W4 = (w1.alloc (.cells #[.int .u64 (p1 : Int), .int .i64 0, .int .i64 0, .int .i64 0] 98)).alloc (.cells #[.int .i64 0, .int .i64 0, .int .i64 0] 268) → Blk W4 (w1.heap.size + 1) 268 (ncells p 0) ∧ Blk W4 w1.heap.size 98 [.int .u64 (p1 : Int), .int .i64 0, .int .i64 0, .int .i64 0] ∧ Blk W4 w.heap.size 98 [.int .u64 0, .int .i64 0, .int .i64 0, .int .i64 0] ∧ Rd W4 A1 252 ys ∧ apartA A1 252 (w1.heap.size + 1) ∧ apartA A1 252 w1.heap.size ∧ Below w.heap.size w W4 ∧ W4.heap.size = w1.heap.size + 2 := by
  intro W4 e; have hn := Blk.new (w1.alloc (.cells #[.int .u64 (p1 : Int), .int .i64 0, .int .i64 0, .int .i64 0] 98)) 268 #[.int .i64 0, .int .i64 0, .int .i64 0]; rw [World.size_alloc] at hn; rw [e]; refine ⟨hn, (Blk.new w1 98 #[.int .u64 (p1 : Int), .int .i64 0, .int .i64 0, .int .i64 0]).alloc _, (HQ1.out.alloc _).alloc _, (HD1.out.alloc _).alloc _, HD1.out.fresh (Nat.le_succ _), HD1.out.fresh (Nat.le_refl _), (HB1.out.alloc HB1.out.size _).alloc (Nat.le_trans HB1.out.size (by simp)) _, by simp⟩
 have HX4 := kept hx4; clear hx4; go_wp2; obtain ⟨W4, hW4⟩ : ∃ W4, W4 = (w1.alloc (.cells #[.int .u64 (p1 : Int), .int .i64 0, .int .i64 0, .int .i64 0] 98)).alloc (.cells #[.int .i64 0, .int .i64 0, .int .i64 0] 268) := ⟨_, rfl⟩
 rw [← hW4]; have HY := kept (HX4.out W4 hW4); have HLQ := kept HQ1.out.lt; clear hW4 HX4; generalize w1.heap.size = g at HY HLQ ⊢; go_loopw [32] (fun i wr => ∃ k : Nat, k ≤ 3 ∧ i = .int .i64 k ∧ Hid (Only W4 wr (g + 1) ∧ Blk wr (g + 1) 268 (ncells p k))) (fun i _ => 3 - (intOf i).toNat)
 case atStart => exact ⟨0, by omega, rfl, kept ⟨Only.refl _ _, HY.out.1⟩⟩
 case round =>
  obtain ⟨k, hk, rfl, HRL⟩ := hrel; by_cases hlt : k < 3
  · have HG4k := kept (fun c => HG4.out A1 c k hlt wr (HY.out.2.2.2.1.only HY.out.2.2.2.2.1 HRL.out.1)); obtain ⟨v, hv⟩ := ncells_get p k hlt; have hc : wr.cell? ⟨g + 1, k, none⟩ = some v := (HRL.out.2.cell k).trans hv; have hf := HRL.out.2.frozen k; have HNX := kept (ncells_next p k hlt); have hpk := HP32.out k hlt; generalize p k = pk at HNX hpk HG4k; have hw32 : IntKind.i64.wrap (pk : Int) = (pk : Int) := IntWalk.i64_in _ ⟨by omega, by omega⟩; have HN2 : Hid (Only W4 (wr.setCell ⟨g + 1, k, none⟩ (.int .i64 (pk : Int))) (g + 1) ∧ Blk (wr.setCell ⟨g + 1, k, none⟩ (.int .i64 (pk : Int))) (g + 1) 268 (ncells p (k + 1))) := kept ⟨HRL.out.1.setCell k _, by rw [← HNX.out]; exact HRL.out.2.set_ k _⟩; clear hv hpk; go_wp2_with fail
    with_reducible refine (HG4k.out _).mono ?_
    rintro e w5 ⟨rfl, rfl⟩; go_wp2; go_roundw
    case rel => exact ⟨k + 1, by omega, by go_num, HN2⟩
    case measure => simp [intOf]; omega
  · obtain rfl : k = 3 := by omega
    have hq := HY.out.2.2.1.only HRL.out.1 (by have := HLQ.out; show w.heap.size ≠ g + 1; omega); have hm := HY.out.2.1.only HRL.out.1 (by show g ≠ g + 1; omega); have hb := HRL.out.1.below HY.out.2.2.2.2.2.2.1 HY.out.2.2.2.2.2.2.1.size (by have := HLQ.out; omega); have c0 : wr.cell? ⟨g + 1, 0, none⟩ = some (.int .i64 (p 0 : Int)) := HRL.out.2.cell 0; have c1' : wr.cell? ⟨g + 1, 1, none⟩ = some (.int .i64 (p 1 : Int)) := HRL.out.2.cell 1; have c2' : wr.cell? ⟨g + 1, 2, none⟩ = some (.int .i64 (p 2 : Int)) := HRL.out.2.cell 2; have hne : g + 1 ≠ g := by omega
    obtain ⟨m0, m1, m2, m3⟩ := hm.fou; have k1 := hm.frozen 1; have k2 := hm.frozen 2; have k3 := hm.frozen 3; have hm' := ((hm.set_ 1 (.int .i64 (p 0 : Int))).set_ 2 (.int .i64 (p 1 : Int))).set_ 3 (.int .i64 (p 2 : Int)); have hq' := ((hq.far (p := ⟨g, 1, none⟩) (Nat.ne_of_lt HLQ.out) (.int .i64 (p 0 : Int))).far (p := ⟨g, 2, none⟩) (Nat.ne_of_lt HLQ.out) (.int .i64 (p 1 : Int))).far (p := ⟨g, 3, none⟩) (Nat.ne_of_lt HLQ.out) (.int .i64 (p 2 : Int)); have hb' := ((hb.setCell (p := ⟨g, 1, none⟩) (Nat.le_of_lt HLQ.out) (.int .i64 (p 0 : Int))).setCell (p := ⟨g, 2, none⟩) (Nat.le_of_lt HLQ.out) (.int .i64 (p 1 : Int))).setCell (p := ⟨g, 3, none⟩) (Nat.le_of_lt HLQ.out) (.int .i64 (p 2 : Int)); have HM5 := kept (show Blk _ _ _ [.int .u64 (p1 : Int), .int .i64 (p 0 : Int), .int .i64 (p 1 : Int), .int .i64 (p 2 : Int)] from hm'); have HQ5 := kept hq'; have HB5 := kept hb'; obtain ⟨mt, mr, ms, mz⟩ := m; obtain ⟨rfl, rfl, rfl, rfl⟩ : mt = p1 ∧ mr = (p 0 : Int) ∧ ms = (p 1 : Int) ∧ mz = (p 2 : Int) := by
     have h := HRM.out; simp only [Mt.mk.injEq] at h; exact h
    clear hq hm hb hm' hq' hb'; go_wp2_with fail
    generalize ((wr.setCell ⟨g, 1, none⟩ (.int .i64 (p 0 : Int))).setCell ⟨g, 2, none⟩ (.int .i64 (p 1 : Int))).setCell ⟨g, 3, none⟩ (.int .i64 (p 2 : Int)) = W5 at HM5 HQ5 HB5 ⊢; clear c0 c1' c2' m0 m1 m2 m3 k1 k2 k3 HRL HY; generalize ((p 0 : Nat) : Int) = r at HM5 HRT HEN HD ⊢; generalize ((p 1 : Nat) : Int) = s at HM5 HRT HEN HD ⊢; generalize ((p 2 : Nat) : Int) = z at HM5 HRT HEN HD ⊢; with_reducible refine (HRT _).out.mono ?_
    rintro e w7 ⟨rfl, hb⟩; have hm7 := HM5.out.below hb HM5.out.lt; have hq7 := HQ5.out.below hb HQ5.out.lt; have HB7 := kept (bel_to hb HB5.out); obtain ⟨n0, n1, n2, n3⟩ := hm7.fou; have HN7 := kept hm7.fou; have HQ7 := kept hq7; clear hb hm7 hq7 HRT; cases hbr : rightM ⟨mt, r, s, z⟩
    · have HDD : Hid (D = (zeroMt, 4)) := by show _ = _; rw [HD.out, if_neg (by simp [hbr])]
      obtain ⟨e0, e1, e2, e3⟩ := HQ7.out.fou; have f0 := HQ7.out.frozen 0; have f1 := HQ7.out.frozen 1; have f2 := HQ7.out.frozen 2; have f3 := HQ7.out.frozen 3; clear hbr HEN HD HSI; go_wp2; have hx := store4 HQ7.out HB7.out (Nat.le_refl _) (.int .u64 0) (.int .i64 0) (.int .i64 0) (.int .i64 0); generalize (((w7.setCell ⟨w.heap.size, 0, none⟩ (.int .u64 0)).setCell ⟨w.heap.size, 1, none⟩ (.int .i64 0)).setCell ⟨w.heap.size, 2, none⟩ (.int .i64 0)).setCell ⟨w.heap.size, 3, none⟩ (.int .i64 0) = X at hx ⊢; obtain ⟨v0, v1, v2, v3, hbx⟩ := hx; exact bodyPost_ret (v := .tuple #[zeroV5, .int .i64 4]) (by simp [results, Tryz.results146, go_sem, v0, v1, v2, v3]) rfl ⟨by rw [HDD.out]; rfl, hbx⟩
    · have HE := fun W => HEN W hbr
      by_cases hbd : bodyM ⟨mt, r, s, z⟩ = ys
      · have HDD : Hid (D = (⟨mt, r, s, z⟩, 0)) := by show _ = _; rw [HD.out, if_pos (by simp [hbr, hbd])]
        have HEQ := fun A1 B1 c1 d1 W h1 h2 => kept (same_any A1 B1 256 256 c1 d1 (sealed (bodyM ⟨mt, r, s, z⟩)) xs W h1 h2 true (by rw [decide_eq_true_eq]; exact (HSI.out _).2 hbd))
        clear hbr hbd HEN HD HSI; go_wp2_with fail
        with_reducible refine (HE _).out.mono ?_
        rintro e w8 ⟨A8, c8, rfl, hown, hb⟩; have hb8 := bel_to hb HB7.out; have hq8 := HQ7.out.below hb HQ7.out.lt; clear n0 n1 n2 n3; obtain ⟨n0, n1, n2, n3⟩ := HN7.out.keeps (Keeps.of_below hb); have HEE := kept (HEQ _ A c8 c w8 (Rd.of_own hown) (HR.out.below hb8)).out; obtain ⟨e0, e1, e2, e3⟩ := hq8.fou; have f0 := hq8.frozen 0; have f1 := hq8.frozen 1; have f2 := hq8.frozen 2; have f3 := hq8.frozen 3; have hne2 : g ≠ w.heap.size := by have := HLQ.out; omega
        have HQ8 := kept hq8; have HB8 := kept hb8; clear hown hb hb8 hq8; go_wp2_with (first | (go_at_call 21; (with_reducible refine (HEE.out).mono ?_); rintro e w9 ⟨rfl, rfl⟩))
        have hx := store4 HQ8.out HB8.out (Nat.le_refl _) (.int .u64 (mt : Int)) (.int .i64 r) (.int .i64 s) (.int .i64 z); generalize (((w8.setCell ⟨w.heap.size, 0, none⟩ (.int .u64 (mt : Int))).setCell ⟨w.heap.size, 1, none⟩ (.int .i64 r)).setCell ⟨w.heap.size, 2, none⟩ (.int .i64 s)).setCell ⟨w.heap.size, 3, none⟩ (.int .i64 z) = X at hx ⊢; obtain ⟨v0, v1, v2, v3, hbx⟩ := hx; exact bodyPost_ret (v := .tuple #[.agg #[.int .u64 (mt : Int), .int .i64 r, .int .i64 s, .int .i64 z], .int .i64 0]) (by simp [results, Tryz.results146, go_sem, v0, v1, v2, v3]) rfl ⟨by rw [HDD.out], hbx⟩
      · have HDD : Hid (D = (zeroMt, 4)) := by show _ = _; rw [HD.out, if_neg (by simp [hbd])]
        have HEQ := fun A1 B1 c1 d1 W h1 h2 => kept (same_any A1 B1 256 256 c1 d1 (sealed (bodyM ⟨mt, r, s, z⟩)) xs W h1 h2 false (by rw [decide_eq_false_iff_not]; exact fun e => hbd ((HSI.out _).1 e)))
        clear hbr hbd HEN HD HSI; go_wp2_with fail
        with_reducible refine (HE _).out.mono ?_
        rintro e w8 ⟨A8, c8, rfl, hown, hb⟩; have hb8 := bel_to hb HB7.out; have hq8 := HQ7.out.below hb HQ7.out.lt; clear n0 n1 n2 n3; have HEE := kept (HEQ _ A c8 c w8 (Rd.of_own hown) (HR.out.below hb8)).out; obtain ⟨e0, e1, e2, e3⟩ := hq8.fou; have f0 := hq8.frozen 0; have f1 := hq8.frozen 1; have f2 := hq8.frozen 2; have f3 := hq8.frozen 3; have HQ8 := kept hq8; have HB8 := kept hb8; clear hown hb hb8 hq8; go_wp2_with (first | (go_at_call 21; (with_reducible refine (HEE.out).mono ?_); rintro e w9 ⟨rfl, rfl⟩))
        have hx := store4 HQ8.out HB8.out (Nat.le_refl _) (.int .u64 0) (.int .i64 0) (.int .i64 0) (.int .i64 0); generalize (((w8.setCell ⟨w.heap.size, 0, none⟩ (.int .u64 0)).setCell ⟨w.heap.size, 1, none⟩ (.int .i64 0)).setCell ⟨w.heap.size, 2, none⟩ (.int .i64 0)).setCell ⟨w.heap.size, 3, none⟩ (.int .i64 0) = X at hx ⊢; obtain ⟨v0, v1, v2, v3, hbx⟩ := hx; exact bodyPost_ret (v := .tuple #[zeroV5, .int .i64 4]) (by simp [results, Tryz.results146, go_sem, v0, v1, v2, v3]) rfl ⟨by rw [HDD.out]; rfl, hbx⟩
theorem refDecode_m (A : Option Addr) (n c : Nat) (xs : List UInt8) (w : World) (hr : Rd w A n xs) (hc : n ≤ c) :
 Calls Tryz.prog 146 #[.slice A n c] w fun e w' => e = .returned (.tuple #[(decM xs).1.val, .int .i64 (decM xs).2]) ∧ Below w.heap.size w w' := by
 by_cases hn : n = 256
 · subst hn; by_cases hw : num (xs.take 4) 0 = csum (xs.drop 4)
   · exact refDecode_m_body A c xs w hr hc hw
   · have e : decM xs = (zeroMt, 6) := by unfold decM; rw [if_neg (by simpa using hr.1), if_pos hw]
     rw [e]; exact refDecode_m_sum A c xs w hr hc hw
 · have e : decM xs = (zeroMt, 4) := by unfold decM; rw [if_pos (by rw [hr.1]; exact hn)]
   rw [e]; exact refDecode_m_size A n c w hn
theorem refChoose_m (A B : Option Addr) (n m c d : Nat) (xs ys : List UInt8) (w : World) (hr : Rd w A n xs) (hc : n ≤ c) (hs : Rd w B m ys) (hd : m ≤ d) :
 Calls Tryz.prog 93 #[.slice A n c, .slice B m d] w fun e w' => e = .returned (.tuple #[(chooseM xs ys).1.val, .int .i64 (chooseM xs ys).2]) ∧ Below w.heap.size w w' := by
 have HE := fun o => kept (refDecode_m A n c xs (w.alloc o) (hr.alloc o) hc)
 have HR := kept hs; have HO := fun W h1 => kept (refDecode_m B m d ys W h1 hd)
 have HC : Hid (chooseM xs ys = if (standM ys 1).2 && (!(standM xs 0).2 || decide ((standM xs 0).1.txn < (standM ys 1).1.txn)) then ((standM ys 1).1, 0) else if (standM xs 0).2 then ((standM xs 0).1, 0) else (zeroMt, 7)) := rfl; have HSE : Hid (standM xs 0 = if (decM xs).2 = 0 ∧ (((decM xs).1.txn % 2 : Nat) : Int) = 0 then ((decM xs).1, true) else (zeroMt, false)) := rfl; have HSO : Hid (standM ys 1 = if (decM ys).2 = 0 ∧ (((decM ys).1.txn % 2 : Nat) : Int) = 1 then ((decM ys).1, true) else (zeroMt, false)) := rfl; generalize chooseM xs ys = C at HC; generalize standM xs 0 = SE at HSE HC; generalize standM ys 1 = SO at HSO HC; generalize decM xs = E at HE HSE; generalize decM ys = O at HO HSO; obtain ⟨⟨t, r, s, z⟩, e0⟩ := E; obtain ⟨⟨t', r', s', z'⟩, f0'⟩ := O; simp only at HE HO HSE HSO; clear hr hs; go_enter Tryz.func93, Tryz.ntmps93; go_wp2_with fail
 with_reducible refine (HE _).out.mono ?_
 rintro e w1 ⟨rfl, hb⟩; have HQ1 := kept ((Blk.new w 98 #[.int .u64 0, .int .i64 0, .int .i64 0, .int .i64 0]).below hb (by simp)); have HB1 := kept (bel_to hb ((Below.refl _ w).alloc (Nat.le_refl _) _)); have HN1 := kept (fou_new w1 98 t r s z); have HB1a := fun o => kept (HB1.out.alloc HB1.out.size o)
 have HOO := fun o => kept (HO (w1.alloc o) (HR.out.below (HB1a o).out)).out
 clear hb; go_wp2_with fail
 with_reducible refine (HOO _).out.mono ?_
 rintro e w2 ⟨rfl, hb⟩; have hq2 := (HQ1.out.alloc _).below hb (HQ1.out.alloc _).lt; have hn2 := HN1.out.keeps (Keeps.of_below hb); have hb2 := bel_to hb (HB1a _).out; have hlt1 : w1.heap.size < w2.heap.size := by have := hb.size; rw [World.size_alloc] at this; omega
 have hne1 : w.heap.size ≠ w1.heap.size := by have := HQ1.out.lt; omega
 have hne2 : w.heap.size ≠ w2.heap.size := by have := HQ1.out.lt; omega
 have hne3 : w1.heap.size ≠ w2.heap.size := by omega
 have HBX := fun o => kept (hb2.alloc hb2.size o)
 have HQX := fun o => kept (hq2.alloc o)
 obtain ⟨n0, n1, n2, n3⟩ := hn2.keeps (Keeps.alloc w2 (.cells #[.int .u64 (t' : Int), .int .i64 r', .int .i64 s', .int .i64 z'] 98)); obtain ⟨e0_, e1_, e2_, e3_⟩ := (HQX (.cells #[.int .u64 (t' : Int), .int .i64 r', .int .i64 s', .int .i64 z'] 98)).out.fou; have f0 := (HQX (.cells #[.int .u64 (t' : Int), .int .i64 r', .int .i64 s', .int .i64 z'] 98)).out.frozen 0; have f1 := (HQX (.cells #[.int .u64 (t' : Int), .int .i64 r', .int .i64 s', .int .i64 z'] 98)).out.frozen 1; have f2 := (HQX (.cells #[.int .u64 (t' : Int), .int .i64 r', .int .i64 s', .int .i64 z'] 98)).out.frozen 2; have f3 := (HQX (.cells #[.int .u64 (t' : Int), .int .i64 r', .int .i64 s', .int .i64 z'] 98)).out.frozen 3; clear hb hq2 hn2 hb2 HE HO HOO; have hEc : (e0 ≠ 0 ∧ Hid (SE = (zeroMt, false))) ∨ (e0 = 0 ∧ t % 2 = 1 ∧ Hid (SE = (zeroMt, false))) ∨ (e0 = 0 ∧ t % 2 = 0 ∧ Hid (SE = (⟨t, r, s, z⟩, true))) := by
  by_cases h : e0 = 0
  · by_cases h2 : t % 2 = 0
    · exact .inr (.inr ⟨h, h2, kept (by rw [HSE.out, if_pos ⟨h, by omega⟩])⟩)
    · exact .inr (.inl ⟨h, by omega, kept (by rw [HSE.out, if_neg (fun k => h2 (by omega))])⟩)
  · exact .inl ⟨h, kept (by rw [HSE.out, if_neg (fun k => h k.1)])⟩
 have hOc : (f0' ≠ 0 ∧ Hid (SO = (zeroMt, false))) ∨ (f0' = 0 ∧ t' % 2 = 0 ∧ Hid (SO = (zeroMt, false))) ∨ (f0' = 0 ∧ t' % 2 = 1 ∧ Hid (SO = (⟨t', r', s', z'⟩, true))) := by
  by_cases h : f0' = 0
  · by_cases h2 : t' % 2 = 1
    · exact .inr (.inr ⟨h, h2, kept (by rw [HSO.out, if_pos ⟨h, by omega⟩])⟩)
    · exact .inr (.inl ⟨h, by omega, kept (by rw [HSO.out, if_neg (fun k => h2 (by omega))])⟩)
  · exact .inl ⟨h, kept (by rw [HSO.out, if_neg (fun k => h k.1)])⟩
 clear HSE HSO; rcases hEc with ⟨hE, HS1⟩ | ⟨rfl, hp, HS1⟩ | ⟨rfl, hp, HS1⟩ <;> rcases hOc with ⟨hF, HS2⟩ | ⟨rfl, hp', HS2⟩ | ⟨rfl, hp', HS2⟩
 · have hE1 : (e0 == 0) = false := by rw [beq_eq_false_iff_ne]; exact hE
   have hF1 : (f0' == 0) = false := by rw [beq_eq_false_iff_ne]; exact hF
   have HCC : Hid (C = (zeroMt, 7)) := kept (by rw [HC.out, HS1.out, HS2.out]; simp); go_wp2; have hx := store4 (HQX (.cells #[.int .u64 (t' : Int), .int .i64 r', .int .i64 s', .int .i64 z'] 98)).out (HBX _).out (Nat.le_refl _) (.int .u64 0) (.int .i64 0) (.int .i64 0) (.int .i64 0); generalize ((((w2.alloc (.cells #[.int .u64 (t' : Int), .int .i64 r', .int .i64 s', .int .i64 z'] 98)).setCell ⟨w.heap.size, 0, none⟩ (.int .u64 0)).setCell ⟨w.heap.size, 1, none⟩ (.int .i64 0)).setCell ⟨w.heap.size, 2, none⟩ (.int .i64 0)).setCell ⟨w.heap.size, 3, none⟩ (.int .i64 0) = X at hx ⊢; obtain ⟨v0, v1, v2, v3, hbx⟩ := hx; exact bodyPost_ret (v := .tuple #[zeroV5, .int .i64 7]) (by simp [results, Tryz.results93, go_sem, v0, v1, v2, v3]) rfl ⟨by rw [HCC.out]; rfl, hbx⟩
 · have hE1 : (e0 == 0) = false := by rw [beq_eq_false_iff_ne]; exact hE
   have hF1 : (t' : Int) % 2 = 0 := by omega
   have HCC : Hid (C = (zeroMt, 7)) := kept (by rw [HC.out, HS1.out, HS2.out]; simp); go_wp2; have hx := store4 (HQX (.cells #[.int .u64 (t' : Int), .int .i64 r', .int .i64 s', .int .i64 z'] 98)).out (HBX _).out (Nat.le_refl _) (.int .u64 0) (.int .i64 0) (.int .i64 0) (.int .i64 0); generalize ((((w2.alloc (.cells #[.int .u64 (t' : Int), .int .i64 r', .int .i64 s', .int .i64 z'] 98)).setCell ⟨w.heap.size, 0, none⟩ (.int .u64 0)).setCell ⟨w.heap.size, 1, none⟩ (.int .i64 0)).setCell ⟨w.heap.size, 2, none⟩ (.int .i64 0)).setCell ⟨w.heap.size, 3, none⟩ (.int .i64 0) = X at hx ⊢; obtain ⟨v0, v1, v2, v3, hbx⟩ := hx; exact bodyPost_ret (v := .tuple #[zeroV5, .int .i64 7]) (by simp [results, Tryz.results93, go_sem, v0, v1, v2, v3]) rfl ⟨by rw [HCC.out]; rfl, hbx⟩
 · have hE1 : (e0 == 0) = false := by rw [beq_eq_false_iff_ne]; exact hE
   have hF1 : (t' : Int) % 2 = 1 := by omega
   have HCC : Hid (C = (⟨t', r', s', z'⟩, 0)) := kept (by rw [HC.out, HS1.out, HS2.out]; simp); go_wp2; have hx := store4 (HQX (.cells #[.int .u64 (t' : Int), .int .i64 r', .int .i64 s', .int .i64 z'] 98)).out (HBX _).out (Nat.le_refl _) (.int .u64 (t' : Int)) (.int .i64 r') (.int .i64 s') (.int .i64 z'); generalize ((((w2.alloc (.cells #[.int .u64 (t' : Int), .int .i64 r', .int .i64 s', .int .i64 z'] 98)).setCell ⟨w.heap.size, 0, none⟩ (.int .u64 (t' : Int))).setCell ⟨w.heap.size, 1, none⟩ (.int .i64 r')).setCell ⟨w.heap.size, 2, none⟩ (.int .i64 s')).setCell ⟨w.heap.size, 3, none⟩ (.int .i64 z') = X at hx ⊢; obtain ⟨v0, v1, v2, v3, hbx⟩ := hx; exact bodyPost_ret (v := .tuple #[.agg #[.int .u64 (t' : Int), .int .i64 r', .int .i64 s', .int .i64 z'], .int .i64 0]) (by simp [results, Tryz.results93, go_sem, v0, v1, v2, v3]) rfl ⟨by rw [HCC.out], hbx⟩
 · have hE1 : (t : Int) % 2 = 1 := by omega
   have hF1 : (f0' == 0) = false := by rw [beq_eq_false_iff_ne]; exact hF
   have HCC : Hid (C = (zeroMt, 7)) := kept (by rw [HC.out, HS1.out, HS2.out]; simp); go_wp2; have hx := store4 (HQX (.cells #[.int .u64 (t' : Int), .int .i64 r', .int .i64 s', .int .i64 z'] 98)).out (HBX _).out (Nat.le_refl _) (.int .u64 0) (.int .i64 0) (.int .i64 0) (.int .i64 0); generalize ((((w2.alloc (.cells #[.int .u64 (t' : Int), .int .i64 r', .int .i64 s', .int .i64 z'] 98)).setCell ⟨w.heap.size, 0, none⟩ (.int .u64 0)).setCell ⟨w.heap.size, 1, none⟩ (.int .i64 0)).setCell ⟨w.heap.size, 2, none⟩ (.int .i64 0)).setCell ⟨w.heap.size, 3, none⟩ (.int .i64 0) = X at hx ⊢; obtain ⟨v0, v1, v2, v3, hbx⟩ := hx; exact bodyPost_ret (v := .tuple #[zeroV5, .int .i64 7]) (by simp [results, Tryz.results93, go_sem, v0, v1, v2, v3]) rfl ⟨by rw [HCC.out]; rfl, hbx⟩
 · have hE1 : (t : Int) % 2 = 1 := by omega
   have hF1 : (t' : Int) % 2 = 0 := by omega
   have HCC : Hid (C = (zeroMt, 7)) := kept (by rw [HC.out, HS1.out, HS2.out]; simp); go_wp2; have hx := store4 (HQX (.cells #[.int .u64 (t' : Int), .int .i64 r', .int .i64 s', .int .i64 z'] 98)).out (HBX _).out (Nat.le_refl _) (.int .u64 0) (.int .i64 0) (.int .i64 0) (.int .i64 0); generalize ((((w2.alloc (.cells #[.int .u64 (t' : Int), .int .i64 r', .int .i64 s', .int .i64 z'] 98)).setCell ⟨w.heap.size, 0, none⟩ (.int .u64 0)).setCell ⟨w.heap.size, 1, none⟩ (.int .i64 0)).setCell ⟨w.heap.size, 2, none⟩ (.int .i64 0)).setCell ⟨w.heap.size, 3, none⟩ (.int .i64 0) = X at hx ⊢; obtain ⟨v0, v1, v2, v3, hbx⟩ := hx; exact bodyPost_ret (v := .tuple #[zeroV5, .int .i64 7]) (by simp [results, Tryz.results93, go_sem, v0, v1, v2, v3]) rfl ⟨by rw [HCC.out]; rfl, hbx⟩
 · have hE1 : (t : Int) % 2 = 1 := by omega
   have hF1 : (t' : Int) % 2 = 1 := by omega
   have HCC : Hid (C = (⟨t', r', s', z'⟩, 0)) := kept (by rw [HC.out, HS1.out, HS2.out]; simp); go_wp2; have hx := store4 (HQX (.cells #[.int .u64 (t' : Int), .int .i64 r', .int .i64 s', .int .i64 z'] 98)).out (HBX _).out (Nat.le_refl _) (.int .u64 (t' : Int)) (.int .i64 r') (.int .i64 s') (.int .i64 z'); generalize ((((w2.alloc (.cells #[.int .u64 (t' : Int), .int .i64 r', .int .i64 s', .int .i64 z'] 98)).setCell ⟨w.heap.size, 0, none⟩ (.int .u64 (t' : Int))).setCell ⟨w.heap.size, 1, none⟩ (.int .i64 r')).setCell ⟨w.heap.size, 2, none⟩ (.int .i64 s')).setCell ⟨w.heap.size, 3, none⟩ (.int .i64 z') = X at hx ⊢; obtain ⟨v0, v1, v2, v3, hbx⟩ := hx; exact bodyPost_ret (v := .tuple #[.agg #[.int .u64 (t' : Int), .int .i64 r', .int .i64 s', .int .i64 z'], .int .i64 0]) (by simp [results, Tryz.results93, go_sem, v0, v1, v2, v3]) rfl ⟨by rw [HCC.out], hbx⟩
 · have hE1 : (t : Int) % 2 = 0 := by omega
   have hF1 : (f0' == 0) = false := by rw [beq_eq_false_iff_ne]; exact hF
   have HCC : Hid (C = (⟨t, r, s, z⟩, 0)) := kept (by rw [HC.out, HS1.out, HS2.out]; simp); go_wp2; have hx := store4 (HQX (.cells #[.int .u64 (t' : Int), .int .i64 r', .int .i64 s', .int .i64 z'] 98)).out (HBX _).out (Nat.le_refl _) (.int .u64 (t : Int)) (.int .i64 r) (.int .i64 s) (.int .i64 z); generalize ((((w2.alloc (.cells #[.int .u64 (t' : Int), .int .i64 r', .int .i64 s', .int .i64 z'] 98)).setCell ⟨w.heap.size, 0, none⟩ (.int .u64 (t : Int))).setCell ⟨w.heap.size, 1, none⟩ (.int .i64 r)).setCell ⟨w.heap.size, 2, none⟩ (.int .i64 s)).setCell ⟨w.heap.size, 3, none⟩ (.int .i64 z) = X at hx ⊢; obtain ⟨v0, v1, v2, v3, hbx⟩ := hx; exact bodyPost_ret (v := .tuple #[.agg #[.int .u64 (t : Int), .int .i64 r, .int .i64 s, .int .i64 z], .int .i64 0]) (by simp [results, Tryz.results93, go_sem, v0, v1, v2, v3]) rfl ⟨by rw [HCC.out], hbx⟩
 · have hE1 : (t : Int) % 2 = 0 := by omega
   have hF1 : (t' : Int) % 2 = 0 := by omega
   have HCC : Hid (C = (⟨t, r, s, z⟩, 0)) := kept (by rw [HC.out, HS1.out, HS2.out]; simp); go_wp2; have hx := store4 (HQX (.cells #[.int .u64 (t' : Int), .int .i64 r', .int .i64 s', .int .i64 z'] 98)).out (HBX _).out (Nat.le_refl _) (.int .u64 (t : Int)) (.int .i64 r) (.int .i64 s) (.int .i64 z); generalize ((((w2.alloc (.cells #[.int .u64 (t' : Int), .int .i64 r', .int .i64 s', .int .i64 z'] 98)).setCell ⟨w.heap.size, 0, none⟩ (.int .u64 (t : Int))).setCell ⟨w.heap.size, 1, none⟩ (.int .i64 r)).setCell ⟨w.heap.size, 2, none⟩ (.int .i64 s)).setCell ⟨w.heap.size, 3, none⟩ (.int .i64 z) = X at hx ⊢; obtain ⟨v0, v1, v2, v3, hbx⟩ := hx; exact bodyPost_ret (v := .tuple #[.agg #[.int .u64 (t : Int), .int .i64 r, .int .i64 s, .int .i64 z], .int .i64 0]) (by simp [results, Tryz.results93, go_sem, v0, v1, v2, v3]) rfl ⟨by rw [HCC.out], hbx⟩
 · have hE1 : (t : Int) % 2 = 0 := by omega
   have hF1 : (t' : Int) % 2 = 1 := by omega
   by_cases hlt : t' < t
   · have HCC : Hid (C = (⟨t, r, s, z⟩, 0)) := kept (by rw [HC.out, HS1.out, HS2.out]; simp; omega); go_wp2; have hx := store4 (HQX (.cells #[.int .u64 (t' : Int), .int .i64 r', .int .i64 s', .int .i64 z'] 98)).out (HBX _).out (Nat.le_refl _) (.int .u64 (t : Int)) (.int .i64 r) (.int .i64 s) (.int .i64 z); generalize ((((w2.alloc (.cells #[.int .u64 (t' : Int), .int .i64 r', .int .i64 s', .int .i64 z'] 98)).setCell ⟨w.heap.size, 0, none⟩ (.int .u64 (t : Int))).setCell ⟨w.heap.size, 1, none⟩ (.int .i64 r)).setCell ⟨w.heap.size, 2, none⟩ (.int .i64 s)).setCell ⟨w.heap.size, 3, none⟩ (.int .i64 z) = X at hx ⊢; obtain ⟨v0, v1, v2, v3, hbx⟩ := hx; exact bodyPost_ret (v := .tuple #[.agg #[.int .u64 (t : Int), .int .i64 r, .int .i64 s, .int .i64 z], .int .i64 0]) (by simp [results, Tryz.results93, go_sem, v0, v1, v2, v3]) rfl ⟨by rw [HCC.out], hbx⟩
   · have HCC : Hid (C = (⟨t', r', s', z'⟩, 0)) := kept (by rw [HC.out, HS1.out, HS2.out]; simp; omega); go_wp2; have hx := store4 (HQX (.cells #[.int .u64 (t' : Int), .int .i64 r', .int .i64 s', .int .i64 z'] 98)).out (HBX _).out (Nat.le_refl _) (.int .u64 (t' : Int)) (.int .i64 r') (.int .i64 s') (.int .i64 z'); generalize ((((w2.alloc (.cells #[.int .u64 (t' : Int), .int .i64 r', .int .i64 s', .int .i64 z'] 98)).setCell ⟨w.heap.size, 0, none⟩ (.int .u64 (t' : Int))).setCell ⟨w.heap.size, 1, none⟩ (.int .i64 r')).setCell ⟨w.heap.size, 2, none⟩ (.int .i64 s')).setCell ⟨w.heap.size, 3, none⟩ (.int .i64 z') = X at hx ⊢; obtain ⟨v0, v1, v2, v3, hbx⟩ := hx; exact bodyPost_ret (v := .tuple #[.agg #[.int .u64 (t' : Int), .int .i64 r', .int .i64 s', .int .i64 z'], .int .i64 0]) (by simp [results, Tryz.results93, go_sem, v0, v1, v2, v3]) rfl ⟨by rw [HCC.out], hbx⟩
theorem readM_body (t r s z : Nat) (ht : t < 18446744073709551616) (hr : r ≤ 1024) (hs : s ≤ 1024) (hz : z ≤ 1024) : readM (bodyN t r s z) = ⟨t, (r : Int), (s : Int), (z : Int)⟩ := by
 have h0 : Fro (bodyN t r s z) 0 ([9] ++ (be t 8 ++ ([84, 69, 82, 82, 1] ++ (be r 4 ++ (be s 4 ++ (be z 4 ++ (List.replicate 218 0 ++ be t 8))))))) := by
  refine ⟨?_, Nat.zero_le _⟩; unfold bodyN headM; generalize List.replicate 218 (0 : UInt8) = Z; simp [List.append_assoc]
 obtain ⟨h1, _, _⟩ := h0.skip (k := 1) rfl; obtain ⟨h2, e2, _⟩ := h1.skip (k := 8) (be_length _ _); obtain ⟨h3, _, _⟩ := h2.skip (k := 5) rfl; obtain ⟨h4, e4, _⟩ := h3.skip (k := 4) (be_length _ _); obtain ⟨h5, e5, _⟩ := h4.skip (k := 4) (be_length _ _); obtain ⟨_, e6, _⟩ := h5.skip (k := 4) (be_length _ _); simp only [Nat.zero_add, Nat.reduceAdd] at e2 e4 e5 e6; unfold readM; rw [e2, e4, e5, e6, num_be t 8 (by omega), num_be r 4 (by omega), num_be s 4 (by omega), num_be z 4 (by omega)]
theorem readM_bodyM {m : Mt} (ht : m.txn < 18446744073709551616) (h : rightM m = true) : readM (bodyM m) = m := by
 obtain ⟨r, s, z, e, hr, hs, hz, hb⟩ := rightM_nat h; rw [hb, readM_body m.txn r s z ht hr hs hz]; exact e.symm
theorem decM_sealed {m : Mt} (ht : m.txn < 18446744073709551616) (h : rightM m = true) : decM (sealed (bodyM m)) = (m, 0) := by
 unfold decM; rw [if_neg (by rw [sealed_length, bodyM_length]; decide), if_neg (by rw [sealed_num, sealed_drop]; exact fun k => k rfl), sealed_drop, readM_bodyM ht h, if_pos (by simp [h])]
def torn (k : Nat) (e n : Mt) : List UInt8 := (sealed (bodyM n)).take k ++ (sealed (bodyM e)).drop k
theorem stand_own {m : Mt} (ht : m.txn < 18446744073709551616) (h : rightM m = true) (k : Int) : standM (sealed (bodyM m)) k = if ((m.txn % 2 : Nat) : Int) = k then (m, true) else (zeroMt, false) := by
 unfold standM; rw [decM_sealed ht h]; simp
theorem stand_yes {m : Mt} (ht : m.txn < 18446744073709551616) (h : rightM m = true) {k : Int} (hk : ((m.txn % 2 : Nat) : Int) = k) : standM (sealed (bodyM m)) k = (m, true) := by rw [stand_own ht h, if_pos hk]
end Go.Proofs.YtcapcobkildmcaaGreatDoor
end
