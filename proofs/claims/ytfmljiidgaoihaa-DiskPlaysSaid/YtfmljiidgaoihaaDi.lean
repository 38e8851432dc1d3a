/-
  What a disk shows (terrierlaw03.image).
-/
import Derived.Test.YtfmljiidgaoihaaDa
namespace Go.Proofs.Ytfmljiidgaoihaa
open Go.ChangeShapes Go.WideShapes Go.ChangeAt Go.RowKit
set_option linter.unusedVariables false

theorem Dsk.page_len {w : World} {d : Dk} {S : St} (h : Dsk w d S) {p : Nat} (hp : p < S.pages.length) : (S.page (p : Int)).length = 256 := by
  unfold St.page
  cases hc : S.cache (p : Int) with
  | some xs => exact (h.1.2.2.1 _ _ hc).2.2
  | none =>
    show (S.pages.getD (Int.toNat (p : Int)) []).length = 256
    rw [Int.toNat_natCast, List.getD_eq_getElem?_getD, List.getElem?_eq_getElem hp]
    exact h.2.2.1.len hp
/-- The first k pages, one behind the other. -/
def img (S : St) (k : Nat) : List UInt8 := (List.range k).flatMap fun (p : Nat) => S.page (p : Int)
theorem img_succ (S : St) (k : Nat) : img S (k + 1) = img S k ++ S.page (k : Int) := by simp [img, List.range_succ, List.flatMap_append]
theorem image_dead (d : Dk) (S : St) (w : World) (h : Dsk w d S) (hf : S.fuse = 0) :
    Calls Try.prog 31 #[.pointer (some ⟨d.r, 0, none⟩)] w fun e w' => e = .returned (.tuple #[.slice none 0 0, .bool true]) ∧ w = w' := by
  have HZ := kept (size_any d S w h)
  have HR := kept (read_no d 0 10 w (by omega) (has_dead d S 0 w h hf))
  have hl : (0 : Int) < (S.pages.length : Int) := by have := h.1.1; omega
  clear h hf
  go_enter Try.func31, Try.ntmps31
  go_wp2_with (first | (go_at_call 18; (with_reducible refine (HZ.out).mono ?_); rintro e w' ⟨rfl, rfl⟩))
  refine wp_loop_rounds 1 ?_
  rw [rounds_succ]
  go_wp2_with (first | (go_at_call 12; (with_reducible refine (HR.out).mono ?_); rintro e w' ⟨rfl, rfl⟩))
  go_ret2
  exact ⟨rfl, rfl⟩
/-- What image answers. -/
def Shows (S : St) (w : World) (e : Ending) (w' : World) : Prop := ∃ A c, e = .returned (.tuple #[.slice A (S.pages.length * 256) c, .bool false]) ∧ Rd w' A (S.pages.length * 256) (img S S.pages.length) ∧ Below w.heap.size w w' ∧ ∀ a, A = some a → w.heap.size ≤ a.block
theorem own_new {w : World} {base : Nat} {e : TypeId} {A : Option Addr} {n c : Nat} {xs : List Value} (h : w.ownsRow base e 1 (.slice A n c) n xs) : ∀ a, A = some a → base ≤ a.block := by
  intro a e
  rcases h.2 with ⟨h0, _⟩ | ⟨g, cap, cur, hv, hb, _⟩
  · injection h0 with h0; rw [h0] at e; cases e
  · injection hv with hA; rw [hA] at e; cases e; exact hb
def OutR (w : World) (S : St) (k : Nat) (v : Value) (wr : World) : Prop := ∃ A c, v = .slice A (k * 256) c ∧ wr.ownsRow w.heap.size 5 1 (.slice A (k * 256) c) (k * 256) (cellsOf (img S k)) ∧ Below w.heap.size w wr
set_option maxHeartbeats 1000000 in
theorem image_ok (d : Dk) (S : St) (w : World) (h : Dsk w d S) (hf : S.fuse ≠ 0) :
    Calls Try.prog 31 #[.pointer (some ⟨d.r, 0, none⟩)] w fun e w' => Shows S w e w' := by
  have HZ := kept (size_any d S w h)
  have HD := kept h
  have HF := kept hf
  have HN := kept h.1.2.1
  have H0 : Hid (OutR w S 0 (.slice none 0 0) w) := kept ⟨none, 0, by simp, ⟨by simp [img, cellsOf], .inl ⟨by simp, by simp⟩⟩, Below.refl _ _⟩
  clear h hf
  go_enter Try.func31, Try.ntmps31
  go_wp2_with (first | (go_at_call 18; (with_reducible refine (HZ.out).mono ?_); rintro e w' ⟨rfl, rfl⟩))
  generalize hn : S.pages.length = n at HN ⊢
  have HNE := kept hn
  clear hn
  go_loopw [4, 10] (fun v i wr => ∃ k : Nat, k ≤ n ∧ i = .int .i64 (k : Int) ∧ OutR w S k v wr) (fun _ i _ => n - (intOf i).toNat)
  case atStart => exact ⟨0, Nat.zero_le _, rfl, H0.out⟩
  case round =>
    obtain ⟨k, hk, rfl, A, c, rfl, hown, hb⟩ := hrel
    have HO := kept hown
    have HB := kept hb
    have hn1024 : n ≤ 1024 := HN.out
    clear hown hb
    by_cases hlt : k < n
    · have HR := kept (read_ok d S (k : Int) wr (HD.out.below HB.out) HF.out (by omega) (by rw [HNE.out]; omega))
      go_wp2_with (first | (go_at_call 12; (with_reducible refine (HR.out).mono ?_); rintro e w2 ⟨b, rfl, hk2, hn2, hb2⟩; have HK2 := kept hk2; have HB2 := kept hb2; have HO2 := kept (own_stays HO.out hb2); clear hk2 hn2 hb2) | (at_builtin; refine wpList_append_rd rfl _ _ 26 rfl w.heap.size 5 rfl rfl Try.underlying26 (by kernel_rfl) HO2.out (HK2.out.rd (HD.out.page_len (by rw [HNE.out]; exact hlt))) (by omega) (Nat.le_trans HB.out.size HB2.out.size) ?_; intro A' c' w3 hown3 hb3; have HE : Hid (OutR w S (k + 1) (.slice A' (k * 256 + 256) c') w3) := kept ⟨A', c', by rw [Nat.add_mul], by rw [img_succ, Nat.add_mul]; exact hown3, (HB.out.trans (HB2.out.mono HB.out.size)).trans hb3⟩; clear hown3 hb3))
      go_roundw
      case rel => exact ⟨k + 1, by omega, by go_num, HE.out⟩
      case measure => simp [intOf]; omega
    · obtain rfl : k = n := by omega
      go_wp2
      go_ret2
      refine ⟨A, c, by rw [HNE.out]; rfl, ?_, HB.out, own_new HO.out⟩
      rw [HNE.out]
      exact Rd.of_own HO.out
end Go.Proofs.Ytfmljiidgaoihaa
