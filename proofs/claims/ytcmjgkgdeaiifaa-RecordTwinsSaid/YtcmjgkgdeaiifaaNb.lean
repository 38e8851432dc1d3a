/-
  A record as it lies; what record's Right, row, number, text and head answer.
-/
import Derived.Test.YtcmjgkgdeaiifaaNa
import Derived.Test.YtcmjgkgdeaiifaaCat
import Derived.Test.YtcmjgkgdeaiifaaMk
import Derived.Test.YtcmjgkgdeaiifaaHnd
import Derived.Test.YtcmjgkgdeaiifaaClone
namespace Go.Proofs.Ytcmjgkgdeaiifaa
open Go.ChangeShapes Go.WideShapes Go.ChangeAt Go.RowKit
set_option linter.unusedVariables false
set_option linter.unusedSimpArgs false

/-- Where a record's key and value lie. -/
structure LayV where
  ka : Option Addr
  kn : Nat
  kc : Nat
  va : Option Addr
  vn : Nat
  vc : Nat
def cellsV (L : LayV) (x : Kv) : List Value := [.slice L.ka L.kn L.kc, .slice L.va L.vn L.vc, .int .i64 x.c, .int .i64 x.m, .int .i64 x.v, .int .i64 x.l]
abbrev vkv (L : LayV) (x : Kv) : Value := .agg #[.slice L.ka L.kn L.kc, .slice L.va L.vn L.vc, .int .i64 x.c, .int .i64 x.m, .int .i64 x.v, .int .i64 x.l]
/-- The record at L reads as x. -/
structure RdV (w : World) (L : LayV) (x : Kv) : Prop where
  key : Rd w L.ka L.kn x.key
  val : Rd w L.va L.vn x.val
  kc : L.kn ≤ L.kc
  vc : L.vn ≤ L.vc
  kb : L.kn ≤ 140737488351232
  vb : L.vn ≤ 140737488351232
section
variable {w w' : World} {L : LayV} {x : Kv}
theorem RdV.below (h : RdV w L x) (hb : Below w.heap.size w w') : RdV w' L x := ⟨h.key.below hb, h.val.below hb, h.kc, h.vc, h.kb, h.vb⟩
theorem RdV.keeps (h : RdV w L x) (k : Keeps w w') : RdV w' L x := ⟨h.key.keeps k, h.val.keeps k, h.kc, h.vc, h.kb, h.vb⟩
theorem RdV.drew (h : RdV w L x) : RdV w.drew L x := ⟨h.key, h.val, h.kc, h.vc, h.kb, h.vb⟩
theorem RdV.drewN (h : RdV w L x) (q : Nat) : RdV (w.drewN q) L x := ⟨h.key, h.val, h.kc, h.vc, h.kb, h.vb⟩
end
/-- The six cells of a record in block g. -/
def Six (w : World) (g : Nat) (L : LayV) (x : Kv) : Prop := Blk w g 24 (cellsV L x)
section
variable {w w' : World} {L : LayV} {x : Kv} {g : Nat}
theorem Six.new (w : World) (L : LayV) (x : Kv) : Six (w.alloc (.cells #[.slice L.ka L.kn L.kc, .slice L.va L.vn L.vc, .int .i64 x.c, .int .i64 x.m, .int .i64 x.v, .int .i64 x.l] 24)) w.heap.size L x := Blk.new w 24 _
theorem Six.below (h : Six w g L x) (hb : Below w.heap.size w w') : Six w' g L x := Blk.below h hb h.lt
theorem Six.cells (h : Six w g L x) : w.cell? ⟨g, 0, none⟩ = some (.slice L.ka L.kn L.kc) ∧ w.cell? ⟨g, 1, none⟩ = some (.slice L.va L.vn L.vc) ∧ w.cell? ⟨g, 2, none⟩ = some (.int .i64 x.c) ∧ w.cell? ⟨g, 3, none⟩ = some (.int .i64 x.m) ∧ w.cell? ⟨g, 4, none⟩ = some (.int .i64 x.v) ∧ w.cell? ⟨g, 5, none⟩ = some (.int .i64 x.l) :=
  ⟨Blk.cell h 0, Blk.cell h 1, Blk.cell h 2, Blk.cell h 3, Blk.cell h 4, Blk.cell h 5⟩
end

theorem rightKey_any (A : Option Addr) (n c : Nat) (b : Bool) (hb : keyB n = b) (w : World) :
    Calls Try.prog 27 #[.slice A n c] w fun e w' => e = .returned (.bool b) ∧ w = w' := by
  subst hb
  by_cases h : 1 ≤ n
  · have h1 : decide ((1 : Int) ≤ (n : Int)) = true := by simp; omega
    go_enter Try.func27, Try.ntmps27
    go_wp2
    go_ret
    exact ⟨ret_bool (by rw [Bool.eq_iff_iff]; simp [keyB, h] <;> omega), rfl⟩
  · have h1 : decide ((1 : Int) ≤ (n : Int)) = false := by simp; omega
    go_enter Try.func27, Try.ntmps27
    go_wp2
    go_ret
    exact ⟨ret_bool (by simp [keyB, h]), rfl⟩
theorem within_any (n least : Int) (b : Bool) (hb : withinB n least = b) (w : World) :
    Calls Try.prog 28 #[.int .i64 n, .int .i64 least] w fun e w' => e = .returned (.bool b) ∧ w = w' := by
  subst hb
  by_cases h : least ≤ n
  · have h1 : decide (least ≤ n) = true := by simpa using h
    go_enter Try.func28, Try.ntmps28
    go_wp2
    go_ret
    exact ⟨ret_bool (by rw [Bool.eq_iff_iff]; simp [withinB, h] <;> omega), rfl⟩
  · have h1 : decide (least ≤ n) = false := by simpa using h
    go_enter Try.func28, Try.ntmps28
    go_wp2
    go_ret
    exact ⟨ret_bool (by simp only [withinB, h1]; rfl), rfl⟩
set_option maxRecDepth 100000 in
theorem right_kv (L : LayV) (x : Kv) (w : World) (b : Bool) (hb : rightV x = b) (h : RdV w L x) :
    Calls Try.prog 13 #[vkv L x] w fun e w' => e = .returned (.bool b) ∧ Below w.heap.size w w' := by
  have hk := h.key.1
  have hv := h.val.1
  obtain ⟨k1, k2, k3, k4, k5, k6⟩ := (Six.new w L x).cells
  have HB0 := kept ((Below.refl w.heap.size w).alloc (Nat.le_refl _) (.cells #[.slice L.ka L.kn L.kc, .slice L.va L.vn L.vc, .int .i64 x.c, .int .i64 x.m, .int .i64 x.v, .int .i64 x.l] 24))
  have HE : Hid (b = (keyB L.kn && decide (L.vn ≤ 1024) && withinB x.c 1 && withinB x.m x.c && withinB x.v 1 && withinB x.l 0)) := by show _ = _; rw [← hb, ← hk, ← hv]; rfl
  clear hb h hk hv
  obtain ⟨ka, kn, kc, va, vn, vc⟩ := L
  obtain ⟨xk, xv, c, m, v, l⟩ := x
  dsimp only at *
  have E1 : ∃ b, keyB kn = b := ⟨_, rfl⟩
  have E2 : ∃ b, decide (vn ≤ 1024) = b := ⟨_, rfl⟩
  have E3 : ∃ b, withinB c 1 = b := ⟨_, rfl⟩
  have E4 : ∃ b, withinB m c = b := ⟨_, rfl⟩
  have E5 : ∃ b, withinB v 1 = b := ⟨_, rfl⟩
  have E6 : ∃ b, withinB l 0 = b := ⟨_, rfl⟩
  obtain ⟨b1, e1⟩ := E1
  obtain ⟨b2, e2⟩ := E2
  obtain ⟨b3, e3⟩ := E3
  obtain ⟨b4, e4⟩ := E4
  obtain ⟨b5, e5⟩ := E5
  obtain ⟨b6, e6⟩ := E6
  have HE : Hid (b = (b1 && b2 && b3 && b4 && b5 && b6)) := by rw [e1, e2, e3, e4, e5, e6] at HE; exact HE
  have h2 : decide ((vn : Int) ≤ 1024) = b2 := by rw [← e2, Bool.eq_iff_iff]; simp <;> omega
  have C1 := fun W => kept (rightKey_any ka kn kc b1 e1 W)
  have C3 := fun W => kept (within_any c 1 b3 e3 W)
  have C4 := fun W => kept (within_any m c b4 e4 W)
  have C5 := fun W => kept (within_any v 1 b5 e5 W)
  have C6 := fun W => kept (within_any l 0 b6 e6 W)
  clear e1 e2 e3 e4 e5 e6
  cases b1
  · go_enter Try.func13, Try.ntmps13
    go_wp2_with (first | (go_at_call 27; (with_reducible refine ((C1 _).out).mono ?_); rintro e w1 ⟨rfl, rfl⟩) | (go_at_call 28; (with_reducible refine ((C3 _).out).mono ?_); rintro e w1 ⟨rfl, rfl⟩) | (go_at_call 28; (with_reducible refine ((C4 _).out).mono ?_); rintro e w1 ⟨rfl, rfl⟩) | (go_at_call 28; (with_reducible refine ((C5 _).out).mono ?_); rintro e w1 ⟨rfl, rfl⟩) | (go_at_call 28; (with_reducible refine ((C6 _).out).mono ?_); rintro e w1 ⟨rfl, rfl⟩))
    go_ret
    exact ⟨ret_bool (by rw [HE.out]; simp), HB0.out⟩
  · skip
    cases b2
    · go_enter Try.func13, Try.ntmps13
      go_wp2_with (first | (go_at_call 27; (with_reducible refine ((C1 _).out).mono ?_); rintro e w1 ⟨rfl, rfl⟩) | (go_at_call 28; (with_reducible refine ((C3 _).out).mono ?_); rintro e w1 ⟨rfl, rfl⟩) | (go_at_call 28; (with_reducible refine ((C4 _).out).mono ?_); rintro e w1 ⟨rfl, rfl⟩) | (go_at_call 28; (with_reducible refine ((C5 _).out).mono ?_); rintro e w1 ⟨rfl, rfl⟩) | (go_at_call 28; (with_reducible refine ((C6 _).out).mono ?_); rintro e w1 ⟨rfl, rfl⟩))
      go_ret
      exact ⟨ret_bool (by rw [HE.out]; simp), HB0.out⟩
    · skip
      cases b3
      · go_enter Try.func13, Try.ntmps13
        go_wp2_with (first | (go_at_call 27; (with_reducible refine ((C1 _).out).mono ?_); rintro e w1 ⟨rfl, rfl⟩) | (go_at_call 28; (with_reducible refine ((C3 _).out).mono ?_); rintro e w1 ⟨rfl, rfl⟩) | (go_at_call 28; (with_reducible refine ((C4 _).out).mono ?_); rintro e w1 ⟨rfl, rfl⟩) | (go_at_call 28; (with_reducible refine ((C5 _).out).mono ?_); rintro e w1 ⟨rfl, rfl⟩) | (go_at_call 28; (with_reducible refine ((C6 _).out).mono ?_); rintro e w1 ⟨rfl, rfl⟩))
        go_ret
        exact ⟨ret_bool (by rw [HE.out]; simp), HB0.out⟩
      · skip
        cases b4
        · go_enter Try.func13, Try.ntmps13
          go_wp2_with (first | (go_at_call 27; (with_reducible refine ((C1 _).out).mono ?_); rintro e w1 ⟨rfl, rfl⟩) | (go_at_call 28; (with_reducible refine ((C3 _).out).mono ?_); rintro e w1 ⟨rfl, rfl⟩) | (go_at_call 28; (with_reducible refine ((C4 _).out).mono ?_); rintro e w1 ⟨rfl, rfl⟩) | (go_at_call 28; (with_reducible refine ((C5 _).out).mono ?_); rintro e w1 ⟨rfl, rfl⟩) | (go_at_call 28; (with_reducible refine ((C6 _).out).mono ?_); rintro e w1 ⟨rfl, rfl⟩))
          go_ret
          exact ⟨ret_bool (by rw [HE.out]; simp), HB0.out⟩
        · skip
          cases b5
          · go_enter Try.func13, Try.ntmps13
            go_wp2_with (first | (go_at_call 27; (with_reducible refine ((C1 _).out).mono ?_); rintro e w1 ⟨rfl, rfl⟩) | (go_at_call 28; (with_reducible refine ((C3 _).out).mono ?_); rintro e w1 ⟨rfl, rfl⟩) | (go_at_call 28; (with_reducible refine ((C4 _).out).mono ?_); rintro e w1 ⟨rfl, rfl⟩) | (go_at_call 28; (with_reducible refine ((C5 _).out).mono ?_); rintro e w1 ⟨rfl, rfl⟩) | (go_at_call 28; (with_reducible refine ((C6 _).out).mono ?_); rintro e w1 ⟨rfl, rfl⟩))
            go_ret
            exact ⟨ret_bool (by rw [HE.out]; simp), HB0.out⟩
          · skip
            cases b6
            · go_enter Try.func13, Try.ntmps13
              go_wp2_with (first | (go_at_call 27; (with_reducible refine ((C1 _).out).mono ?_); rintro e w1 ⟨rfl, rfl⟩) | (go_at_call 28; (with_reducible refine ((C3 _).out).mono ?_); rintro e w1 ⟨rfl, rfl⟩) | (go_at_call 28; (with_reducible refine ((C4 _).out).mono ?_); rintro e w1 ⟨rfl, rfl⟩) | (go_at_call 28; (with_reducible refine ((C5 _).out).mono ?_); rintro e w1 ⟨rfl, rfl⟩) | (go_at_call 28; (with_reducible refine ((C6 _).out).mono ?_); rintro e w1 ⟨rfl, rfl⟩))
              go_ret
              exact ⟨ret_bool (by rw [HE.out]; simp), HB0.out⟩
            · go_enter Try.func13, Try.ntmps13
              go_wp2_with (first | (go_at_call 27; (with_reducible refine ((C1 _).out).mono ?_); rintro e w1 ⟨rfl, rfl⟩) | (go_at_call 28; (with_reducible refine ((C3 _).out).mono ?_); rintro e w1 ⟨rfl, rfl⟩) | (go_at_call 28; (with_reducible refine ((C4 _).out).mono ?_); rintro e w1 ⟨rfl, rfl⟩) | (go_at_call 28; (with_reducible refine ((C5 _).out).mono ?_); rintro e w1 ⟨rfl, rfl⟩) | (go_at_call 28; (with_reducible refine ((C6 _).out).mono ?_); rintro e w1 ⟨rfl, rfl⟩))
              go_ret
              exact ⟨ret_bool (by rw [HE.out]; simp), HB0.out⟩
theorem row_k (n s : Nat) (w : World) (h1 : 1 ≤ s) (h2 : s ≤ 8) (hn : n < 256 ^ s) :
    Calls Try.prog 41 #[.int .u64 (n : Int), .int .i64 (s : Int)] w fun e w' => ∃ A c, e = .returned (.slice A s c) ∧ w'.ownsRow w.heap.size 5 1 (.slice A s c) s (cellsOf (be n s)) ∧ Below w.heap.size w w' := by
  have HP := kept (put_ok n s w h1 h2 hn)
  clear hn h1 h2
  go_enter Try.func41, Try.ntmps41
  go_wp2_with (first | (go_at_call 48; (with_reducible refine (HP.out).mono ?_); rintro e w1 ⟨A1, c1, rfl, hown, hb⟩; have HO := kept hown; have HB := kept hb; clear hown hb))
  go_ret
  exact ⟨A1, c1, rfl, HO.out, HB.out⟩
theorem row_k8 (n : Nat) (w : World) (hn : n ≤ 4611686018427387904) :
    Calls Try.prog 41 #[.int .u64 (n : Int), .int .i64 8] w fun e w' => ∃ A c, e = .returned (.slice A 8 c) ∧ w'.ownsRow w.heap.size 5 1 (.slice A 8 c) 8 (cellsOf (be n 8)) ∧ Below w.heap.size w w' := row_k n 8 w (by omega) (by omega) (by omega)
theorem row_k2 (n : Nat) (w : World) (hn : n < 65536) :
    Calls Try.prog 41 #[.int .u64 (n : Int), .int .i64 2] w fun e w' => ∃ A c, e = .returned (.slice A 2 c) ∧ w'.ownsRow w.heap.size 5 1 (.slice A 2 c) 2 (cellsOf (be n 2)) ∧ Below w.heap.size w w' := row_k n 2 w (by omega) (by omega) (by omega)
theorem row_k1 (n : Nat) (w : World) (hn : n < 256) :
    Calls Try.prog 41 #[.int .u64 (n : Int), .int .i64 1] w fun e w' => ∃ A c, e = .returned (.slice A 1 c) ∧ w'.ownsRow w.heap.size 5 1 (.slice A 1 c) 1 (cellsOf (be n 1)) ∧ Below w.heap.size w w' := row_k n 1 w (by omega) (by omega) (by omega)
theorem number_k (n : Nat) (w : World) (hn : n ≤ 4611686018427387904) :
    Calls Try.prog 24 #[.int .i64 (n : Int)] w fun e w' => ∃ A c, e = .returned (.slice A 8 c) ∧ w'.ownsRow w.heap.size 5 1 (.slice A 8 c) 8 (cellsOf (be n 8)) ∧ Below w.heap.size w w' := by
  have HP := kept (row_k8 n w hn)
  have hw : IntKind.u64.wrap (n : Int) = (n : Int) := IntWalk.u64_in _ ⟨by omega, by omega⟩
  clear hn
  go_enter Try.func24, Try.ntmps24
  go_wp2_with (first | (go_at_call 41; (with_reducible refine (HP.out).mono ?_); rintro e w1 ⟨A1, c1, rfl, hown, hb⟩; have HO := kept hown; have HB := kept hb; clear hown hb))
  go_ret
  exact ⟨A1, c1, rfl, HO.out, HB.out⟩
end Go.Proofs.Ytcmjgkgdeaiifaa
