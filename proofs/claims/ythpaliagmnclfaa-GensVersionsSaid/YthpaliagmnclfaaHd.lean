/-
  The law's own helpers: lives (the chapter's example), made (a history of acts).
-/
import Derived.Test.YthpaliagmnclfaaHc
namespace Go.Proofs.Ythpaliagmnclfaa
open Go.ChangeShapes Go.WideShapes Go.ChangeAt Go.RowKit Go.Deep
set_option linter.unusedVariables false
set_option linter.unusedSimpArgs false

def livesG : Nat → List Gn
  | 0 => []
  | 1 => [⟨1, 1, [(1, 0)], (0, 0)⟩]
  | 2 => [⟨1, 1, [(1, 0), (2, 0)], (0, 0)⟩]
  | 3 => [⟨1, 1, [(1, 0), (2, 0)], (3, 0)⟩]
  | _ => [⟨1, 1, [(1, 0), (2, 0)], (3, 0)⟩, ⟨4, 1, [(4, 0)], (0, 0)⟩]
theorem lives_put0 : mcG (livesG 0) (1, 0) = 0 ∧ putG (livesG 0) (1, 0) = livesG 1 := by constructor <;> rfl
theorem lives_put1 : mcG (livesG 1) (2, 0) = 0 ∧ putG (livesG 1) (2, 0) = livesG 2 := by constructor <;> rfl
theorem lives_tomb : tombC (livesG 2) (3, 0) = 0 ∧ tombG (livesG 2) (3, 0) = livesG 3 := by constructor <;> rfl
theorem lives_put3 : mcG (livesG 3) (4, 0) = 0 ∧ putG (livesG 3) (4, 0) = livesG 4 := by constructor <;> rfl
theorem lives_get : getG (livesG 4) 2 = some ((2, 0), 1, 2) := by
  have e : getG (livesG 4) 2 = some ((2, 0), 1, wrap64 (1 + ((1 : Nat) : Int))) := by rfl
  rw [e, IntWalk.wrap64_in _ ⟨by omega, by omega⟩]
  rfl
theorem lives_inv : ∀ j, j ≤ 4 → GInv (livesG j) ∧ BdG (livesG j) 4 := by
  have w1 : wrap64 (1 : Int) = 1 := IntWalk.wrap64_in _ ⟨by omega, by omega⟩
  have hv0 : VOk (livesG 0) := fun x hx => absurd hx (by simp [livesG])
  have s0 := step_keeps GInv.nil 0 (1, 0) 0 1 w1 (N := 0) ⟨Nat.le_refl _, fun x hx => absurd hx (by simp)⟩ hv0
  rw [show stepG [] 0 (1, 0) 0 1 = livesG 1 from lives_put0.2] at s0
  have s1 := step_keeps s0.1 0 (2, 0) 0 1 w1 s0.2.1 s0.2.2
  rw [show stepG (livesG 1) 0 (2, 0) 0 1 = livesG 2 from lives_put1.2] at s1
  have s2 := step_keeps s1.1 1 (3, 0) 0 1 w1 s1.2.1 s1.2.2
  rw [show stepG (livesG 2) 1 (3, 0) 0 1 = livesG 3 from lives_tomb.2] at s2
  have s3 := step_keeps s2.1 0 (4, 0) 0 1 w1 s2.2.1 s2.2.2
  rw [show stepG (livesG 3) 0 (4, 0) 0 1 = livesG 4 from lives_put3.2] at s3
  intro j hj
  match j, hj with
  | 0, _ => exact ⟨GInv.nil, ⟨Nat.zero_le _, fun x hx => absurd hx (by simp [livesG])⟩⟩
  | 1, _ => exact ⟨s0.1, s0.2.1.mono (by omega)⟩
  | 2, _ => exact ⟨s1.1, s1.2.1.mono (by omega)⟩
  | 3, _ => exact ⟨s2.1, s2.2.1.mono (by omega)⟩
  | 4, _ => exact ⟨s3.1, s3.2.1.mono (by omega)⟩
/-- A history of the law's own. -/
def Mine (w wr : World) (r : Nat) (gs : List Gn) : Prop := ∃ F, Gs wr r F gs ∧ (∀ j, F j → w.heap.size ≤ j) ∧ Below w.heap.size w wr
theorem Mine.next {w wr w2 w3 : World} {r : Nat} {gs gs' : List Gn} {F : Nat → Prop} (h1 : Gs wr r F gs) (h2 : ∀ j, F j → w.heap.size ≤ j) (h3 : Below w.heap.size w wr) (hb : Below wr.heap.size wr w2) (hl : GLeft w2 r F gs' w3) : Mine w w3 r gs' := by
  obtain ⟨F', k1, k2, k3⟩ := hl
  refine ⟨F', k1, fun j hj => ?_, ?_⟩
  · rcases k2 j hj with e | e
    · exact h2 j e
    · exact Nat.le_trans h3.size (Nat.le_trans hb.size e)
  · exact ((Turned.of_below (bel_to hb h3) (fun _ => False)).chain k3 (fun j hj e => by have := h2 j e; omega)).below_
theorem mine_new (w : World) : Mine w (w.alloc (.cells #[.slice none 0 0] 54)) w.heap.size [] := by
  refine ⟨footG w.heap.size none 0 0 [], ⟨none, 0, 0, [], ⟨Blk.new w 54 #[.slice none 0 0], rfl, rfl, World.ownsRow_nil _ _ _ _, fun i h1 => absurd h1 (by simp), fun i j h1 => absurd h1 (by simp)⟩, fun _ => Iff.rfl⟩, fun j hj => ?_, (Below.refl _ w).alloc (Nat.le_refl _) _⟩
  rcases hj with e | e | ⟨L, hL, _⟩
  · omega
  · cases e
  · simp at hL
set_option maxHeartbeats 4000000 in
theorem lives_any (w : World) : Calls Try.prog 7 #[] w fun e w' => e = .returned (.bool true) ∧ Below w.heap.size w w' := by
  have H0 := kept (mine_new w)
  go_enter Try.func7, Try.ntmps7
  go_wp2
  generalize w.alloc (.cells #[.slice none 0 0] 54) = W0 at H0 ⊢
  go_loopw [8] (fun i wr => ∃ j : Nat, j ≤ 4 ∧ i = .int .i64 (j : Int) ∧ Hid (Mine w wr w.heap.size (livesG j))) (fun i _ => 4 - (intOf i).toNat)
  case atStart => exact ⟨0, by omega, rfl, H0⟩
  case round =>
    obtain ⟨j, hj, rfl, HI⟩ := hrel
    clear H0
    have HINV := kept (lives_inv j hj)
    match j, hj with
    | 0, _ =>
      obtain ⟨F, h1, h2, h3⟩ := HI.out
      have hba : Below wr.heap.size wr (wr.alloc (.cells #[.int .i64 1, .int .i64 0] 29)) := (Below.refl _ wr).alloc (Nat.le_refl _) _
      have hp := gput_any (h1.below hba) HINV.out.1 HINV.out.2 (by omega) (1, 0)
      rw [lives_put0.1, lives_put0.2] at hp
      simp only at hp
      have HP := kept hp
      have HX := kept (And.intro h1 (And.intro h2 (And.intro h3 hba)))
      clear h1 h2 h3 hba hp HI
      go_wp2_with (first | (go_at_call 15; (with_reducible refine (HP.out).mono ?_); rintro e w3 ⟨rfl, hl⟩; have HM := kept (Mine.next HX.out.1 HX.out.2.1 HX.out.2.2.1 HX.out.2.2.2 hl); clear hl))
      go_roundw
      case rel => exact ⟨1, by omega, by first | rfl | go_num, HM⟩
      case measure => simp [intOf]
    | 1, _ =>
      obtain ⟨F, h1, h2, h3⟩ := HI.out
      have hba : Below wr.heap.size wr (wr.alloc (.cells #[.int .i64 2, .int .i64 0] 29)) := (Below.refl _ wr).alloc (Nat.le_refl _) _
      have hp := gput_any (h1.below hba) HINV.out.1 HINV.out.2 (by omega) (2, 0)
      rw [lives_put1.1, lives_put1.2] at hp
      simp only at hp
      have HP := kept hp
      have HX := kept (And.intro h1 (And.intro h2 (And.intro h3 hba)))
      clear h1 h2 h3 hba hp HI
      go_wp2_with (first | (go_at_call 15; (with_reducible refine (HP.out).mono ?_); rintro e w3 ⟨rfl, hl⟩; have HM := kept (Mine.next HX.out.1 HX.out.2.1 HX.out.2.2.1 HX.out.2.2.2 hl); clear hl))
      go_roundw
      case rel => exact ⟨2, by omega, by first | rfl | go_num, HM⟩
      case measure => simp [intOf]
    | 2, _ =>
      obtain ⟨F, h1, h2, h3⟩ := HI.out
      have hba : Below wr.heap.size wr (wr.alloc (.cells #[.int .i64 3, .int .i64 0] 29)) := (Below.refl _ wr).alloc (Nat.le_refl _) _
      have hp := gtomb_any (h1.below hba) HINV.out.1 HINV.out.2 (by omega) (3, 0)
      rw [lives_tomb.1, lives_tomb.2] at hp
      simp only at hp
      have HP := kept hp
      have HX := kept (And.intro h1 (And.intro h2 (And.intro h3 hba)))
      clear h1 h2 h3 hba hp HI
      go_wp2_with (first | (go_at_call 14; (with_reducible refine (HP.out).mono ?_); rintro e w3 ⟨rfl, hl⟩; have HM := kept (Mine.next HX.out.1 HX.out.2.1 HX.out.2.2.1 HX.out.2.2.2 hl); clear hl))
      go_roundw
      case rel => exact ⟨3, by omega, by first | rfl | go_num, HM⟩
      case measure => simp [intOf]
    | 3, _ =>
      obtain ⟨F, h1, h2, h3⟩ := HI.out
      have hba : Below wr.heap.size wr (wr.alloc (.cells #[.int .i64 4, .int .i64 0] 29)) := (Below.refl _ wr).alloc (Nat.le_refl _) _
      have hp := gput_any (h1.below hba) HINV.out.1 HINV.out.2 (by omega) (4, 0)
      rw [lives_put3.1, lives_put3.2] at hp
      simp only at hp
      have HP := kept hp
      have HX := kept (And.intro h1 (And.intro h2 (And.intro h3 hba)))
      clear h1 h2 h3 hba hp HI
      go_wp2_with (first | (go_at_call 15; (with_reducible refine (HP.out).mono ?_); rintro e w3 ⟨rfl, hl⟩; have HM := kept (Mine.next HX.out.1 HX.out.2.1 HX.out.2.2.1 HX.out.2.2.2 hl); clear hl))
      go_roundw
      case rel => exact ⟨4, by omega, by first | rfl | go_num, HM⟩
      case measure => simp [intOf]
    | 4, _ =>
      obtain ⟨F, h1, h2, h3⟩ := HI.out
      have hg := gget_any h1 HINV.out.1 HINV.out.2 (by omega) 2
      rw [lives_get] at hg
      simp only [getV] at hg
      have HG := kept hg
      have HB := kept h3
      clear h1 h2 h3 hg HI
      go_wp2_with (first | (go_at_call 11; (with_reducible refine (HG.out).mono ?_); rintro e w3 ⟨rfl, hb⟩; have HB3 := fun o => kept (bel_to ((Below.refl w3.heap.size w3).alloc (Nat.le_refl _) o) (bel_to hb HB.out)); clear hb))
      go_ret
      exact ⟨rfl, (HB3 _).out⟩
end Go.Proofs.Ythpaliagmnclfaa
