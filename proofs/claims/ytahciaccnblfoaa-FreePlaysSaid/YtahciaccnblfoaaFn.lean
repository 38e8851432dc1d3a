/-
  Settle, Copy and New of free's List.
-/
import Derived.Test.YtahciaccnblfoaaFl
namespace Go.Proofs.Ytahciaccnblfoaa
open Go.ChangeShapes Go.WideShapes Go.ChangeAt Go.RowKit
set_option linter.unusedVariables false
set_option linter.unusedSimpArgs false

theorem addAll_snoc (S H : List Int) (x : Int) : addAll S (H ++ [x]) = addI x (addAll S H) := by simp [addAll]
theorem addAll_take (S H : List Int) (k : Nat) (h : k < H.length) : addAll S (H.take (k + 1)) = addI H[k] (addAll S (H.take k)) := by
  rw [← addAll_snoc, List.take_add_one, List.getElem?_eq_getElem h]
  rfl
theorem mem_addAll {x : Int} {S H : List Int} : x ∈ addAll S H ↔ x ∈ S ∨ x ∈ H := by
  induction H generalizing S with
  | nil => simp [addAll]
  | cons y r ih =>
    show x ∈ addAll (addI y S) r ↔ _
    rw [ih, mem_addI, List.mem_cons]
    constructor
    · rintro ((h | h) | h)
      · exact .inr (.inl h)
      · exact .inl h
      · exact .inr (.inr h)
    · rintro (h | h | h)
      · exact .inl (.inr h)
      · exact .inl (.inl h)
      · exact .inr h
theorem Rising.addAll {S : List Int} (h : Rising S) (H : List Int) : Rising (addAll S H) := by
  induction H generalizing S with
  | nil => exact h
  | cons y r ih => exact ih (h.addI y)

/-- Behind k rounds of Settle. -/
def SetK (w : World) (f : Fl) (s : FSt) (k : Nat) (wr : World) : Prop :=
  ∃ A c, Lst wr ⟨f.r, A, c, f.Ah, f.ch⟩ ⟨s.z, addAll s.S (s.H.take k), s.H⟩ ∧ Turned w wr f.own ∧ ∀ j, (⟨f.r, A, c, f.Ah, f.ch⟩ : Fl).own j → f.own j ∨ w.heap.size ≤ j
set_option maxHeartbeats 1000000 in
theorem settle_any (f : Fl) (s : FSt) (w : World) (h : Lst w f s) : Calls Try.prog 12 #[.pointer (some ⟨f.r, 0, none⟩)] w fun e w' => e = .returned (.tuple #[]) ∧ Hid (LLeft w w' f s.settle) := by
  have c2 := h.c2
  have H0 : Hid (SetK w f s 0 w) := kept ⟨f.As, f.cs, h, Turned.refl _ _, fun j hj => .inl hj⟩
  have HOK := kept h.1
  have hs : s.H.length ≤ 1022 := h.1.short.2
  clear h
  obtain ⟨n, hn⟩ : ∃ n, s.H.length = n := ⟨_, rfl⟩
  have HN := kept hn
  rw [hn] at c2 hs
  clear hn
  go_enter Try.func12, Try.ntmps12
  go_wp2
  clear c2
  go_loopw [12] (fun i wr => ∃ k : Nat, k ≤ n ∧ i = .int .i64 (k : Int) ∧ Hid (SetK w f s k wr)) (fun i _ => n - (intOf i).toNat)
  case atStart => exact ⟨0, Nat.zero_le _, rfl, H0⟩
  case round =>
    obtain ⟨k, hk, rfl, hrel⟩ := hrel
    obtain ⟨A, c, hl, ht, hg⟩ := hrel.out
    have HL := kept hl
    have HT := kept ht
    have HG := kept hg
    clear hl ht hg hrel H0
    by_cases hlt : k < n
    · have hkH : k < s.H.length := by rw [HN.out]; exact hlt
      obtain ⟨g, hA⟩ : ∃ g, f.Ah = some ⟨g, 0, none⟩ := HL.out.2.2.2.1.head (by show 0 < s.H.length; omega)
      have hc : wr.cell? ⟨g, k, none⟩ = some (.int .i64 s.H[k]) := HL.out.2.2.2.1.cell hA hkH
      have HA := kept (add_any_f f.r 1 _ _ A _ c _ s.H[k] wr HL.out.2.1 list_ne_int rfl HL.out.2.2.1 HL.out.1.2.2.1 (by have h9 : (addAll s.S (s.H.take k)).length ≤ 1022 := HL.out.1.short.1; show (addAll s.S (s.H.take k)).length ≤ 1000000; omega))
      have HAT := kept (addAll_take s.S s.H k hkH)
      have HBD := kept (HOK.out.2.2.2.2.2 s.H[k] (List.getElem_mem _))
      have HAH := kept hA
      rw [hA]
      generalize s.H[k] = x at hc HA HAT HBD
      clear hA hkH
      go_wp2_with (first | (go_at_call 26; (with_reducible refine (HA.out).mono ?_); rintro e w2 ⟨rfl, h2⟩))
      have HE : Hid (SetK w f s (k + 1) w2) := by
        obtain ⟨A', n', c', h3, h4, h5, h6⟩ := h2.out
        obtain ⟨l1, l2, l3⟩ := HL.out.spare_at h3 h4 h5 h6 (HL.out.1.2.2.1.addI x) (addI_bounds HL.out.1.2.2.2.2.1 HBD.out)
        refine kept ⟨A', c', ?_, ?_, fun j hj => ?_⟩
        · rw [HAT.out]; exact l1
        · refine ⟨l2.os.trans HT.out.os, l2.tape.trans HT.out.tape, l2.output.trans HT.out.output, Nat.le_trans HT.out.size l2.size, fun j hj hn => ?_⟩
          refine (l2.block j (Nat.lt_of_lt_of_le hj HT.out.size) fun h => ?_).trans (HT.out.block j hj hn)
          rcases HG.out j h with h5 | h5
          · exact hn h5
          · omega
        · rcases l3 j hj with h5 | h5
          · exact HG.out j h5
          · exact .inr (Nat.le_trans HT.out.size h5)
      clear h2 hc
      go_roundw
      case rel => exact ⟨k + 1, by omega, by go_num, HE⟩
      case measure => simp [intOf]; omega
    · obtain rfl : k = n := by omega
      have c2 := HL.out.c2
      have z2 := HL.out.fz 2
      have hr : (⟨f.r, A, c, f.Ah, f.ch⟩ : Fl).r = f.r := rfl
      rw [hr] at c2 z2
      clear hr
      go_wp2
      go_returns
      refine ⟨rfl, kept ?_⟩
      have ht : s.H.take k = s.H := List.take_of_length_le (by rw [HN.out]; exact Nat.le_refl _)
      have hL := HL.out
      rw [ht] at hL
      have hb := hL.2.1.set_ 2 (.slice none 0 0)
      have hx : Turned wr (wr.setCell ⟨f.r, 2, none⟩ (.slice none 0 0)) (fun j => j = f.r ∨ blkOf f.Ah = some j) := (Turned.refl _ _).setCell (fun _ => .inl rfl) _
      have hl := hL.held_new (A' := none) (n' := 0) (c' := 0) (S' := []) hb (OwI.nil_ _) hx (fun g hg => by cases hg) Rising.nil_ (fun x hx => by simp at hx)
      exact LLeft.step HT.out HG.out rfl hl

theorem Lst.made {w' : World} {r : Nat} {As Ah : Option Addr} {cs ch : Nat} {s : FSt} (h : s.ok) (hb : Blk w' r 54 [.int .i64 s.z, .slice As s.S.length cs, .slice Ah s.H.length ch]) (h1 : OwI w' As s.S.length cs s.S) (h2 : OwI w' Ah s.H.length ch s.H)
    (hne : ∀ g, blkOf As = some g → blkOf Ah ≠ some g) : Lst w' ⟨r, As, cs, Ah, ch⟩ s := ⟨h, hb, h1, h2, hne⟩
set_option maxHeartbeats 1000000 in
theorem copy_any_f (f : Fl) (s : FSt) (w : World) (h : Lst w f s) : Calls Try.prog 18 #[.pointer (some ⟨f.r, 0, none⟩)] w fun e w' => ∃ f', e = .returned (.pointer (some ⟨f'.r, 0, none⟩)) ∧ Hid (Lst w' f' s ∧ Below w.heap.size w w' ∧ ∀ j, f'.own j → w.heap.size ≤ j) := by
  have c0 := h.c0
  have HOK := kept h.1
  have HZ := kept (fun (W : World) (hb : Below w.heap.size w W) => (h.below hb).c0)
  have H1 := kept (fun (W : World) (hb : Below w.heap.size w W) => apart_any_f f.r 1 _ _ f.As _ f.cs s.S W (h.below hb).2.1 rfl (h.below hb).2.2.1 (by have := h.1.short; omega))
  have H2 := kept (fun (W : World) (hb : Below w.heap.size w W) => apart_any_f f.r 2 _ _ f.Ah _ f.ch s.H W (h.below hb).2.1 rfl (h.below hb).2.2.2.1 (by have := h.1.short; omega))
  clear h
  obtain ⟨z, S, H⟩ := s
  generalize hnS : S.length = nS at H1
  generalize hnH : H.length = nH at H2
  have HNS := kept hnS
  have HNH := kept hnH
  clear hnS hnH
  simp only at H1 H2 HZ c0
  go_enter Try.func18, Try.ntmps18
  go_wp2
  refine wp_region_held_drew (S := (fun W' => W'.cell? ⟨f.r, 0, none⟩ = some (.int .i64 z))) (by kernel_rfl) ?_ (fun hHeld => ?_)
  · ((try dsimp only); (first | exact HZ.out _ (Below.refl _ _) | exact HZ.out _ (Below.refl _ _).drew | exact HZ.out _ (HB2.out.alloc HB2.out.size _) | exact HZ.out _ HB2.out | exact HZ.out _ HB1.out))
  refine hand_take 0 (some 5) ?_ (by kernel_rfl) (by kernel_rfl) (by kernel_rfl) (by kernel_rfl) (by kernel_rfl) (fun _ _ _ h => h) ?_ (by assumption) ?_
  rotate_left
  · (intro o ho w hSw; (simp only [List.getElem?_toArray, List.getElem?_cons_succ, List.getElem?_cons_zero, Option.some.injEq] at ho); subst ho; (try dsimp only at hSw); go_simp; (first | done | with_reducible rfl))
  (try simp only [Act.put, List.setIfInBounds_toArray, List.set_cons_zero, List.set_cons_succ])
  refine hand_take 1 (some 6) ?_ (by kernel_rfl) (by kernel_rfl) (by kernel_rfl) (by kernel_rfl) (by kernel_rfl) (fun _ _ _ h => h) ?_ (by assumption) ?_
  rotate_left
  · (intro o ho w hSw; (simp only [List.getElem?_toArray, List.getElem?_cons_succ, List.getElem?_cons_zero, Option.some.injEq] at ho); subst ho; (try dsimp only at hSw); go_simp; (first | done | with_reducible rfl))
  (try simp only [Act.put, List.setIfInBounds_toArray, List.set_cons_zero, List.set_cons_succ])
  refine hand_take 2 (some 7) ?_ (by kernel_rfl) (by kernel_rfl) (by kernel_rfl) (by kernel_rfl) (by kernel_rfl) (fun _ _ _ h => h) ?_ (by assumption) ?_
  rotate_left
  · (intro o ho w hSw; (simp only [List.getElem?_toArray, List.getElem?_cons_succ, List.getElem?_cons_zero, Option.some.injEq] at ho); subst ho; (try dsimp only at hSw); go_simp; (first | done | with_reducible rfl))
  (try simp only [Act.put, List.setIfInBounds_toArray, List.set_cons_zero, List.set_cons_succ])
  refine hand_take 3 (some 8) ?_ (by kernel_rfl) (by kernel_rfl) (by kernel_rfl) (by kernel_rfl) (by kernel_rfl) (fun _ _ _ h => h) ?_ (by assumption) ?_
  rotate_left
  · (intro o ho w hSw; (simp only [List.getElem?_toArray, List.getElem?_cons_succ, List.getElem?_cons_zero, Option.some.injEq] at ho); subst ho; (try dsimp only at hSw); go_simp; (first | done | with_reducible rfl))
  (try simp only [Act.put, List.setIfInBounds_toArray, List.set_cons_zero, List.set_cons_succ])
  refine hand_take 4 (some 9) ?_ (by kernel_rfl) (by kernel_rfl) (by kernel_rfl) (by kernel_rfl) (by kernel_rfl) (fun _ _ _ h => h) ?_ (by assumption) ?_
  rotate_left
  · (intro o ho w hSw; (simp only [List.getElem?_toArray, List.getElem?_cons_succ, List.getElem?_cons_zero, Option.some.injEq] at ho); subst ho; (try dsimp only at hSw); go_simp; (first | done | with_reducible rfl))
  (try simp only [Act.put, List.setIfInBounds_toArray, List.set_cons_zero, List.set_cons_succ])
  refine hand_take 5 (some 10) ?_ (by kernel_rfl) (by kernel_rfl) (by kernel_rfl) (by kernel_rfl) (by kernel_rfl) (fun _ _ _ h => h) ?_ (by assumption) ?_
  rotate_left
  · (intro o ho w hSw; (simp only [List.getElem?_toArray, List.getElem?_cons_succ, List.getElem?_cons_zero, Option.some.injEq] at ho); subst ho; (try dsimp only at hSw); go_simp; (first | done | with_reducible rfl))
  (try simp only [Act.put, List.setIfInBounds_toArray, List.set_cons_zero, List.set_cons_succ])
  refine hand_take 6 (some 11) ?_ (by kernel_rfl) (by kernel_rfl) (by kernel_rfl) (by kernel_rfl) (by kernel_rfl) (fun _ _ _ h => h) ?_ (by assumption) ?_
  rotate_left
  · (intro o ho w hSw; (simp only [List.getElem?_toArray, List.getElem?_cons_succ, List.getElem?_cons_zero, Option.some.injEq] at ho); subst ho; (try dsimp only at hSw); go_simp; (first | done | with_reducible rfl))
  (try simp only [Act.put, List.setIfInBounds_toArray, List.set_cons_zero, List.set_cons_succ])
  refine hand_take 8 (some 13) ?_ (by kernel_rfl) (by kernel_rfl) (by kernel_rfl) (by kernel_rfl) (by kernel_rfl) (fun _ _ _ h => h) ?_ (by assumption) ?_
  rotate_left
  · (intro o ho w hSw; (simp only [List.getElem?_toArray, List.getElem?_cons_succ, List.getElem?_cons_zero, Option.some.injEq] at ho); subst ho; (try dsimp only at hSw); go_simp; (first | done | with_reducible rfl))
  (try simp only [Act.put, List.setIfInBounds_toArray, List.set_cons_zero, List.set_cons_succ])
  refine hand_take 9 (some 14) ?_ (by kernel_rfl) (by kernel_rfl) (by kernel_rfl) (by kernel_rfl) (by kernel_rfl) (fun _ _ _ h => h) ?_ (by assumption) ?_
  rotate_left
  · (intro o ho w hSw; (simp only [List.getElem?_toArray, List.getElem?_cons_succ, List.getElem?_cons_zero, Option.some.injEq] at ho); subst ho; (try dsimp only at hSw); go_simp; (first | done | with_reducible rfl))
  (try simp only [Act.put, List.setIfInBounds_toArray, List.set_cons_zero, List.set_cons_succ])
  refine hand_take 10 (some 15) ?_ (by kernel_rfl) (by kernel_rfl) (by kernel_rfl) (by kernel_rfl) (by kernel_rfl) (fun _ _ _ h => h) ?_ (by assumption) ?_
  rotate_left
  · (intro o ho w hSw; (simp only [List.getElem?_toArray, List.getElem?_cons_succ, List.getElem?_cons_zero, Option.some.injEq] at ho); subst ho; (try dsimp only at hSw); go_simp; (first | done | with_reducible rfl))
  (try simp only [Act.put, List.setIfInBounds_toArray, List.set_cons_zero, List.set_cons_succ])
  refine hand_ready 7 (by kernel_rfl) (by kernel_rfl) (fun o ho K hK => ?_)
  (simp only [List.getElem?_toArray, List.getElem?_cons_succ, List.getElem?_cons_zero, Option.some.injEq] at ho)
  subst ho
  go_simp
  ((go_at_call 30; (with_reducible refine (H1.out _ (Below.refl _ _).drew).mono ?_); rintro e w1 ⟨A1, c1, rfl, h1⟩); have HB1 : Hid (Below w.heap.size w w1) := kept ((Below.refl _ _).drew.trans h1.out.2.1))
  (try go_wp2_with fail)
  refine hK.out _ _ ?_ (fun hHeld => ?_)
  · ((try dsimp only); (first | exact HZ.out _ (Below.refl _ _) | exact HZ.out _ (Below.refl _ _).drew | exact HZ.out _ (HB2.out.alloc HB2.out.size _) | exact HZ.out _ HB2.out | exact HZ.out _ HB1.out))
  clear hK K
  (try simp only [Act.put, List.setIfInBounds_toArray, List.set_cons_zero, List.set_cons_succ])
  refine hand_ready 11 (by kernel_rfl) (by kernel_rfl) (fun o ho K hK => ?_)
  (simp only [List.getElem?_toArray, List.getElem?_cons_succ, List.getElem?_cons_zero, Option.some.injEq] at ho)
  subst ho
  go_simp
  ((go_at_call 30; (with_reducible refine (H2.out _ HB1.out).mono ?_); rintro e w2 ⟨A2, c2, rfl, h2⟩); have HB2 : Hid (Below w.heap.size w w2) := kept (HB1.out.trans (h2.out.2.1.mono HB1.out.size)))
  (try go_wp2_with fail)
  refine hK.out _ _ ?_ (fun hHeld => ?_)
  · ((try dsimp only); (first | exact HZ.out _ (Below.refl _ _) | exact HZ.out _ (Below.refl _ _).drew | exact HZ.out _ (HB2.out.alloc HB2.out.size _) | exact HZ.out _ HB2.out | exact HZ.out _ HB1.out))
  clear hK K
  (try simp only [Act.put, List.setIfInBounds_toArray, List.set_cons_zero, List.set_cons_succ])
  refine hand_take 12 (some 17) ?_ (by kernel_rfl) (by kernel_rfl) (by kernel_rfl) (by kernel_rfl) (by kernel_rfl) (fun _ _ _ h => h) ?_ (by assumption) ?_
  rotate_left
  · (intro o ho w hSw; (simp only [List.getElem?_toArray, List.getElem?_cons_succ, List.getElem?_cons_zero, Option.some.injEq] at ho); subst ho; (try dsimp only at hSw); go_simp; (first | done | with_reducible rfl))
  (try simp only [Act.put, List.setIfInBounds_toArray, List.set_cons_zero, List.set_cons_succ])
  refine hand_ready 13 (by kernel_rfl) (by kernel_rfl) (fun o ho K hK => ?_)
  (simp only [List.getElem?_toArray, List.getElem?_cons_succ, List.getElem?_cons_zero, Option.some.injEq] at ho)
  subst ho
  go_simp
  refine hK.out _ _ ?_ (fun hHeld => ?_)
  · ((try dsimp only); (first | exact HZ.out _ (Below.refl _ _) | exact HZ.out _ (Below.refl _ _).drew | exact HZ.out _ (HB2.out.alloc HB2.out.size _) | exact HZ.out _ HB2.out | exact HZ.out _ HB1.out))
  clear hK K
  (try simp only [Act.put, List.setIfInBounds_toArray, List.set_cons_zero, List.set_cons_succ])
  refine hand_take 14 (some 2) ?_ (by kernel_rfl) (by kernel_rfl) (by kernel_rfl) (by kernel_rfl) (by kernel_rfl) (fun _ _ _ h => h) ?_ (by assumption) ?_
  rotate_left
  · (intro o ho w hSw; (simp only [List.getElem?_toArray, List.getElem?_cons_succ, List.getElem?_cons_zero, Option.some.injEq] at ho); subst ho; (try dsimp only at hSw); go_simp; (first | done | with_reducible rfl))
  (try simp only [Act.put, List.setIfInBounds_toArray, List.set_cons_zero, List.set_cons_succ])
  refine wpAnyH_done (by kernel_rfl) ?_ _
  go_wp2
  go_ret
  have hB : Below w.heap.size w (w2.alloc (.cells #[.int .i64 z, .slice A1 nS c1, .slice A2 nH c2] 54)) := HB2.out.alloc HB2.out.size _
  have l1 : ∀ g, blkOf A1 = some g → w.heap.size ≤ g ∧ g < w1.heap.size := fun g hg => ⟨h1.out.2.2 g hg, h1.out.1.lt hg⟩
  have l2 : ∀ g, blkOf A2 = some g → w1.heap.size ≤ g := h2.out.2.2
  refine ⟨⟨w2.heap.size, A1, c1, A2, c2⟩, rfl, kept ⟨Lst.made HOK.out ?_ ?_ ?_ ?_, hB, ?_⟩⟩
  · show Blk _ _ _ [.int .i64 z, .slice A1 S.length c1, .slice A2 H.length c2]
    rw [HNS.out, HNH.out]
    exact Blk.new w2 _ _
  · show OwI _ A1 S.length c1 S
    rw [HNS.out]
    exact (h1.out.1.below (h2.out.2.1.mono (Nat.le_refl _))).alloc _
  · show OwI _ A2 H.length c2 H
    rw [HNH.out]
    exact h2.out.1.alloc _
  · intro g hg hg2
    have := (l1 g hg).2
    have := l2 g hg2
    omega
  · intro j hj
    rcases hj with hj | hj | hj
    · rw [hj]; exact HB2.out.size
    · exact (l1 j hj).1
    · exact Nat.le_trans HB1.out.size (l2 j hj)
end Go.Proofs.Ytahciaccnblfoaa
