/-
  free.New, and the fixed fact of the layer.
-/
import Derived.Test.YtahciaccnblfoaaFn
namespace Go.Proofs.Ytahciaccnblfoaa
open Go.ChangeShapes Go.WideShapes Go.ChangeAt Go.RowKit
set_option linter.unusedVariables false

def inB (z x : Int) : Bool := decide (2 ≤ x ∧ x < z)
def newErr (z : Int) (Z : List Int) : Int := if z < 8 ∨ 1024 < z then 1 else if Z.all (inB z) then (if Z.Nodup then 0 else 8) else 2
def NewR (w w' : World) (z : Int) (Z : List Int) (P : Value) : Prop :=
  Below w.heap.size w w' ∧ ((newErr z Z ≠ 0 ∧ P = .pointer none) ∨ (newErr z Z = 0 ∧ ∃ f : Fl, P = .pointer (some ⟨f.r, 0, none⟩) ∧ Lst w' f ⟨z, addAll [] Z, []⟩ ∧ ∀ j, f.own j → w.heap.size ≤ j))
theorem nodup_snoc {L : List Int} {x : Int} : (L ++ [x]).Nodup ↔ L.Nodup ∧ x ∉ L := by
  rw [List.nodup_append]
  constructor
  · rintro ⟨h1, _, h3⟩
    exact ⟨h1, fun hx => h3 x hx x (by simp) rfl⟩
  · rintro ⟨h1, h2⟩
    exact ⟨h1, by simp, fun a ha b hb => by rw [List.mem_singleton.1 hb]; exact fun e => h2 (e ▸ ha)⟩
theorem take_snoc {L : List Int} {k : Nat} (h : k < L.length) : L.take (k + 1) = L.take k ++ [L[k]] := by
  rw [List.take_add_one, List.getElem?_eq_getElem h]; rfl

/-- The list under way: k numbers are in. -/
def NewK (w : World) (z : Int) (Z : List Int) (k : Nat) (wr : World) : Prop :=
  ∃ A c, Lst wr ⟨w.heap.size, A, c, none, 0⟩ ⟨z, addAll [] (Z.take k), []⟩ ∧ Below w.heap.size w wr ∧ (∀ j, blkOf A = some j → w.heap.size ≤ j) ∧ (Z.take k).Nodup
set_option maxHeartbeats 2000000 in
theorem new_any (z : Int) (A : Option Addr) (n c : Nat) (Z : List Int) (w : World) (h : RdI w A n Z) (hn : n ≤ 1000000) :
    Calls Try.prog 9 #[.int .i64 z, .slice A n c] w fun e w' => ∃ P, e = .returned (.tuple #[P, .int .i64 (newErr z Z)]) ∧ Hid (NewR w w' z Z P) := by
  by_cases h8 : z < 8
  · have e : newErr z Z = 1 := by unfold newErr; rw [if_pos (.inl h8)]
    have HB : Hid (∀ P, P = Value.pointer none → NewR w w z Z P) := kept fun P hP => ⟨Below.refl _ _, .inl ⟨by rw [e]; decide, hP⟩⟩
    rw [e]
    clear h hn e
    go_enter Try.func9, Try.ntmps9
    go_wp2
    go_returns
    exact ⟨_, rfl, kept (HB.out _ rfl)⟩
  by_cases h1024 : 1024 < z
  · have e : newErr z Z = 1 := by unfold newErr; rw [if_pos (.inr h1024)]
    have HB : Hid (∀ P, P = Value.pointer none → NewR w w z Z P) := kept fun P hP => ⟨Below.refl _ _, .inl ⟨by rw [e]; decide, hP⟩⟩
    rw [e]
    clear h hn e
    go_enter Try.func9, Try.ntmps9
    go_wp2
    go_returns
    exact ⟨_, rfl, kept (HB.out _ rfl)⟩
  have HZ := kept (And.intro h8 h1024)
  have HE : Hid (newErr z Z = if Z.all (inB z) then (if Z.Nodup then 0 else 8) else 2) := kept (by unfold newErr; rw [if_neg (by omega)])
  have HR := kept h
  obtain ⟨W1, hW1⟩ : ∃ W1, W1 = w.alloc (.cells #[.int .i64 z, .slice none 0 0, .slice none 0 0] 54) := ⟨_, rfl⟩
  have HS1 : Hid (W1.heap.size = w.heap.size + 1) := kept (by rw [hW1]; simp)
  have HB1 : Hid (Below w.heap.size w W1) := kept (by rw [hW1]; exact (Below.refl _ _).alloc (Nat.le_refl _) _)
  have HL1 : Hid (Lst W1 ⟨w.heap.size, none, 0, none, 0⟩ ⟨z, [], []⟩) := kept (Lst.made ⟨by show 8 ≤ z; omega, by show z ≤ 1024; omega, Rising.nil_, Rising.nil_, fun x hx => by simp at hx, fun x hx => by simp at hx⟩ (by rw [hW1]; exact Blk.new w _ _) (OwI.nil_ _) (OwI.nil_ _) (fun g hg => by cases hg))
  have HW1 := kept hW1
  clear h
  go_enter Try.func9, Try.ntmps9
  go_wp2
  rw [← HW1.out]
  clear hW1
  go_loopw [22] (fun i wr => ∃ k : Nat, k ≤ n ∧ i = .int .i64 (k : Int) ∧ Hid (∀ x ∈ Z.take k, inB z x = true) ∧ wr = W1) (fun i _ => n - (intOf i).toNat)
  case atStart => exact ⟨0, Nat.zero_le _, rfl, kept (fun x hx => by simp at hx), rfl⟩
  case round =>
    obtain ⟨k, hk, rfl, HA, rfl⟩ := hrel
    by_cases hlt : k < n
    · have hkZ : k < Z.length := by rw [HR.out.1]; exact hlt
      obtain ⟨b, o, rfl, hc⟩ := (HR.out.below HB1.out).at_ hlt
      have HT := kept (take_snoc hkZ)
      have HM := kept (List.getElem_mem hkZ)
      generalize Z[k] = x at hc HT HM
      have HIN : Hid (Calls Try.prog 25 #[.pointer (some ⟨w.heap.size, 0, none⟩), .int .i64 x] wr fun e w' => e = .returned (.bool (inB z x)) ∧ wr = w') := kept (inBounds_any _ _ x wr HL1.out)
      clear hkZ
      cases hib : inB z x with
      | true =>
        have HIB := kept hib
        rw [hib] at HIN
        clear hib
        go_wp2_with (first | (go_at_call 25; (with_reducible refine (HIN.out).mono ?_); rintro e w' ⟨rfl, rfl⟩))
        have HE2 : Hid (∀ y ∈ Z.take (k + 1), inB z y = true) := kept (by
          rw [HT.out]
          intro y hy
          rcases List.mem_append.1 hy with hy | hy
          · exact HA.out y hy
          · rw [List.mem_singleton.1 hy]; exact HIB.out)
        clear hc
        go_roundw
        case rel => exact ⟨k + 1, by omega, by go_num, HE2, by first | trivial | rfl⟩
        case measure => simp [intOf]; omega
      | false =>
        have HX : Hid (newErr z Z = 2) := kept (by rw [HE.out, if_neg (by simp only [List.all_eq_true]; intro h; rw [h x HM.out] at hib; cases hib)])
        rw [hib] at HIN
        clear hib
        go_wp2_with (first | (go_at_call 25; (with_reducible refine (HIN.out).mono ?_); rintro e w' ⟨rfl, rfl⟩))
        go_returns
        rw [HX.out]
        exact ⟨_, rfl, kept ⟨HB1.out, .inl ⟨by rw [HX.out]; decide, rfl⟩⟩⟩
    · obtain rfl : k = n := by omega
      have HALL : Hid (∀ x ∈ Z, inB z x = true) := kept (fun x hx => HA.out x (by rw [List.take_of_length_le (by rw [HR.out.1]; exact Nat.le_refl _)]; exact hx))
      have HE2 : Hid (newErr z Z = if Z.Nodup then 0 else 8) := kept (by rw [HE.out, if_pos (List.all_eq_true.2 HALL.out)])
      have H0 : Hid (NewK w z Z 0 wr) := kept ⟨none, 0, HL1.out, HB1.out, fun j hj => (by cases hj), (by simp)⟩
      clear HA HE hlt hk
      go_wp2
      go_loopw [33] (fun i wx => ∃ j : Nat, j ≤ k ∧ i = .int .i64 (j : Int) ∧ Hid (NewK w z Z j wx)) (fun i _ => k - (intOf i).toNat)
      case atStart => exact ⟨0, Nat.zero_le _, rfl, H0⟩
      case round =>
        obtain ⟨j, hj, rfl, hrel⟩ := hrel
        obtain ⟨A2, c2, hl, hb, hg, hnd⟩ := hrel.out
        have HL := kept hl
        have HB := kept hb
        have HG := kept hg
        have HND := kept hnd
        clear hl hb hg hnd hrel H0
        by_cases hlt : j < k
        · have hjZ : j < Z.length := by rw [HR.out.1]; exact hlt
          obtain ⟨b, o, rfl, hc⟩ := (HR.out.below HB.out).at_ hlt
          have HT := kept (take_snoc hjZ)
          have HAT := kept (addAll_take [] Z j hjZ)
          have HM := kept (List.getElem_mem hjZ)
          generalize Z[j] = x at hc HT HM HAT
          have HA : Hid (Calls Try.prog 26 #[.pointer (some ⟨w.heap.size, 1, none⟩), .int .i64 x] wr fun e w' => e = .returned (.bool (!decide (x ∈ addAll [] (Z.take j)))) ∧ Hid (∃ A' n' c', Blk w' w.heap.size 54 (([.int .i64 z, .slice A2 (addAll [] (Z.take j)).length c2, .slice none 0 0] : List Value).set 1 (.slice A' n' c')) ∧ OwI w' A' n' c' (addI x (addAll [] (Z.take j))) ∧
              Turned wr w' (fun i => i = w.heap.size ∨ blkOf A2 = some i) ∧ (∀ g, blkOf A' = some g → blkOf A2 = some g ∨ wr.heap.size ≤ g))) :=
            kept (add_any_f w.heap.size 1 _ _ A2 _ c2 _ x wr HL.out.2.1 list_ne_int rfl HL.out.2.2.1 HL.out.1.2.2.1 (by have h9 : (addAll [] (Z.take j)).length ≤ 1022 := HL.out.1.short.1; show (addAll [] (Z.take j)).length ≤ 1000000; omega))
          have HMM : Hid (x ∈ addAll [] (Z.take j) ↔ x ∈ Z.take j) := kept (by rw [mem_addAll]; simp)
          clear hjZ
          cases hib : decide (x ∈ addAll [] (Z.take j)) with
          | true =>
            have HX : Hid (newErr z Z = 8) := kept (by
              rw [HE2.out, if_neg]
              intro hnd
              have h1 := (nodup_snoc.1 (HT.out ▸ (List.Sublist.nodup (List.take_sublist (j + 1) Z) hnd))).2
              exact h1 (HMM.out.1 (by simpa using hib)))
            rw [hib] at HA
            clear hib
            go_wp2_with (first | (go_at_call 26; (with_reducible refine (HA.out).mono ?_); rintro e w2 ⟨rfl, h2⟩))
            go_returns
            rw [HX.out]
            refine ⟨_, rfl, kept ⟨?_, .inl ⟨by rw [HX.out]; decide, rfl⟩⟩⟩
            obtain ⟨A', n', c', h3, h4, h5, h6⟩ := h2.out
            exact Turned.only_new HB.out h5 HB.out.size (fun i hi => by
              rcases hi with rfl | hi
              · exact Nat.le_refl _
              · exact HG.out i hi)
          | false =>
            have hx : x ∉ Z.take j := fun h => by have := HMM.out.2 h; rw [decide_eq_true this] at hib; cases hib
            have HX : Hid ((Z.take (j + 1)).Nodup) := kept (by rw [HT.out]; exact nodup_snoc.2 ⟨HND.out, hx⟩)
            have HBX : Hid (2 ≤ x ∧ x < z) := kept (by have := HALL.out x HM.out; simpa [inB] using this)
            rw [hib] at HA
            clear hib hx
            go_wp2_with (first | (go_at_call 26; (with_reducible refine (HA.out).mono ?_); rintro e w2 ⟨rfl, h2⟩))
            have HEE : Hid (NewK w z Z (j + 1) w2) := by
              obtain ⟨A', n', c', h3, h4, h5, h6⟩ := h2.out
              obtain ⟨l1, l2, l3⟩ := HL.out.spare_at h3 h4 h5 h6 (HL.out.1.2.2.1.addI x) (addI_bounds HL.out.1.2.2.2.2.1 HBX.out)
              refine kept ⟨A', c', ?_, ?_, fun i hi => ?_, HX.out⟩
              · rw [HAT.out]; exact l1
              · exact Turned.only_new HB.out h5 HB.out.size (fun i hi => by
                  rcases hi with rfl | hi
                  · exact Nat.le_refl _
                  · exact HG.out i hi)
              · rcases h6 i hi with h7 | h7
                · exact HG.out i h7
                · exact Nat.le_trans HB.out.size h7
            clear h2 hc
            go_roundw
            case rel => exact ⟨j + 1, by omega, by go_num, HEE⟩
            case measure => simp [intOf]; omega
        · obtain rfl : j = k := by omega
          have ht : Z.take j = Z := List.take_of_length_le (by rw [HR.out.1]; exact Nat.le_refl _)
          have HX : Hid (newErr z Z = 0) := kept (by rw [HE2.out, if_pos]; have := HND.out; rwa [ht] at this)
          have HLL : Hid (Lst wr ⟨w.heap.size, A2, c2, none, 0⟩ ⟨z, addAll [] Z, []⟩) := kept (by have := HL.out; rwa [ht] at this)
          clear ht
          go_wp2
          go_returns
          rw [HX.out]
          refine ⟨_, rfl, kept ⟨HB.out, .inr ⟨HX.out, ⟨w.heap.size, A2, c2, none, 0⟩, rfl, HLL.out, fun i hi => ?_⟩⟩⟩
          rcases hi with rfl | hi | hi
          · exact Nat.le_refl _
          · exact HG.out i hi
          · cases hi
end Go.Proofs.Ytahciaccnblfoaa
