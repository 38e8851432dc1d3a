/-
  The law SumJoins walked: for every row of bytes and place it returns true and writes nothing that was there.
-/
import Derived.Test.YtnnngjcakljceaaDoorSeal
import Derived.Deep.RegionHeld3
namespace Go.Proofs.YtnnngjcakljceaaDoor.sumJoins
open Go.ChangeShapes Go.WideShapes Go.ChangeAt Go.RowKit Crc
set_option linter.unusedVariables false

theorem rows_at (W : World) (g : Nat) (L : List Part) (t : TypeId) (f : Nat × Nat) (hg : W.heap[g]? = some (.cells (L.map Part.val).toArray t f)) (h : ∀ p ∈ L, Rd W p.at_ p.xs.length p.xs ∧ p.xs.length ≤ p.room) :
    RdRows W (some ⟨g, 0, none⟩) L.length (fun i => (L.getD i .none).at_) (fun i => (L.getD i .none).room) (fun i => (L.getD i .none).xs) := by
  refine ⟨fun _ => ⟨_, rfl, fun i hi => ?_⟩, fun i hi => ?_, fun i hi => ?_⟩
  · have hadd : (⟨g, 0, none⟩ : Addr).add i = ⟨g, i, none⟩ := by unfold Addr.add; split <;> simp_all
    rw [hadd, cell_of_row _ g i (L.map Part.val).toArray t f hg]
    simp [hi, Part.val]
  · have := (h (L[i]) (List.getElem_mem hi)).1
    simpa [hi] using this
  · have := (h (L[i]) (List.getElem_mem hi)).2
    simpa [hi] using this
theorem sum_at (W : World) (g : Nat) (L : List Part) (t : TypeId) (f : Nat × Nat) (c : Nat) (hg : W.heap[g]? = some (.cells (L.map Part.val).toArray t f)) (h : ∀ p ∈ L, Rd W p.at_ p.xs.length p.xs ∧ p.xs.length ≤ p.room) (hl : L.length ≤ 140737488355328) (hx : ∀ p ∈ L, p.xs.length ≤ 140737488355328) (hf : Fours W) :
    Calls Tryd.prog 9 #[.slice (some ⟨g, 0, none⟩) L.length c] W fun e w' => e = .returned (.int .u32 ((csum (L.map Part.xs).flatten : Nat) : Int)) ∧ W = w' := by
  have := sum_any _ L.length c _ _ _ _ (rows_at W g L t f hg h) hl (fun i hi => by have := hx (L[i]) (List.getElem_mem hi); simpa [hi] using this) hf
  rw [reg_list] at this
  exact this
/-- The checksum of parts that lie at g, in any world behind w. -/
theorem joined (w : World) (hf : Fours w) (L : List Part) (xs : List UInt8) (h : ∀ p ∈ L, Rd w p.at_ p.xs.length p.xs ∧ p.xs.length ≤ p.room) (hl : L.length ≤ 4) (hx : ∀ p ∈ L, p.xs.length ≤ 4096) (he : (L.map Part.xs).flatten = xs)
    (W : World) (hb : Below w.heap.size w W) (g c m : Nat) (cs : Array Value) (hm : L.length = m) (hcs : cs = (L.map Part.val).toArray) (t : TypeId) (hg : W.heap[g]? = some (.cells cs t)) :
    Calls Tryd.prog 9 #[.slice (some ⟨g, 0, none⟩) m c] W fun e w' => e = .returned (.int .u32 ((csum xs : Nat) : Int)) ∧ W = w' := by
  subst hm; subst hcs; subst he
  exact sum_at W g L t (0, 0) c hg (fun p hp => ⟨(h p hp).1.below hb, (h p hp).2⟩) (by omega) (fun p hp => by have := hx p hp; omega) (hf.below hb)

theorem place (a1 : Int) (n : Nat) (hn : n ≤ 4096) : ∃ k : Nat, k ≤ n ∧ wrap64 ((IntKind.u64.wrap a1).tmod ((n : Int) + 1)) = (k : Int) := by
  rw [IntKind.wrap_u64]
  have h1 : 0 ≤ a1 % 18446744073709551616 := by omega
  have e : (a1 % 18446744073709551616).tmod ((n : Int) + 1) = a1 % 18446744073709551616 % ((n : Int) + 1) := Int.tmod_eq_emod_of_nonneg h1
  rw [e]
  have hr0 : 0 ≤ a1 % 18446744073709551616 % ((n : Int) + 1) := Int.emod_nonneg _ (by omega)
  have hr1 : a1 % 18446744073709551616 % ((n : Int) + 1) < (n : Int) + 1 := Int.emod_lt_of_pos _ (by omega)
  generalize a1 % 18446744073709551616 % ((n : Int) + 1) = r at hr0 hr1 ⊢
  refine ⟨r.toNat, by omega, ?_⟩
  rw [IntWalk.wrap64_in r ⟨by omega, by omega⟩]
  omega

/-- What a call of Sum answers of a block g that holds these slices, in any world behind w. -/
def Tells (w : World) (cs : Array Value) (m : Nat) (xs : List UInt8) : Prop :=
  ∀ (W : World) (g c : Nat), Below w.heap.size w W → W.heap[g]? = some (.cells cs 24) →
    Calls Tryd.prog 9 #[.slice (some ⟨g, 0, none⟩) m c] W fun e w' => e = .returned (.int .u32 ((csum xs : Nat) : Int)) ∧ W = w'
theorem hp_last (w : World) (o : Obj) (g : Nat) (hg : g = w.heap.size) : (w.alloc o).heap[g]? = some o := by subst hg; exact heap_alloc_new w o
theorem hp_skip (w : World) (o : Obj) (g : Nat) (x : Obj) (h : w.heap[g]? = some x) : (w.alloc o).heap[g]? = some x :=
  (Below.heap_alloc w o g (Array.getElem?_eq_some_iff.1 h).1).trans h
theorem hp_drew (w : World) (g : Nat) (x : Obj) (h : w.heap[g]? = some x) : w.drew.heap[g]? = some x := h
theorem Tells.use {w : World} {cs : Array Value} {m : Nat} {xs : List UInt8} (h : Hid (Tells w cs m xs)) (W : World) (g c : Nat) (hb : Below w.heap.size w W) (hg : W.heap[g]? = some (.cells cs 24)) :
    Calls Tryd.prog 9 #[.slice (some ⟨g, 0, none⟩) m c] W fun e w' => e = .returned (.int .u32 ((csum xs : Nat) : Int)) ∧ W = w' := h.out W g c hb hg
theorem tells_two (w : World) (hf : Fours w) (A B : Option Addr) (n m c d : Nat) (xs ys zs : List UInt8) (ha : Rd w A n xs) (hb : Rd w B m ys) (hc : n ≤ c) (hd : m ≤ d) (hn : n ≤ 4096) (hm : m ≤ 4096) (he : xs ++ ys = zs) : Tells w #[.slice A n c, .slice B m d] 2 zs := by
  obtain rfl := ha.1
  obtain rfl := hb.1
  intro W g c' hbl hg
  refine joined w hf [⟨A, c, xs⟩, ⟨B, d, ys⟩] zs (fun p hp => ?_) (by simp) (fun p hp => ?_) (by simpa using he) W hbl g c' 2 _ rfl rfl _ hg
  · simp only [List.mem_cons, List.not_mem_nil, or_false] at hp
    rcases hp with rfl | rfl
    · exact ⟨ha, hc⟩
    · exact ⟨hb, hd⟩
  · simp only [List.mem_cons, List.not_mem_nil, or_false] at hp
    rcases hp with rfl | rfl <;> assumption
theorem tells_one (w : World) (hf : Fours w) (A : Option Addr) (n c : Nat) (xs : List UInt8) (ha : Rd w A n xs) (hc : n ≤ c) (hn : n ≤ 4096) : Tells w #[.slice A n c] 1 xs := by
  obtain rfl := ha.1
  intro W g c' hbl hg
  refine joined w hf [⟨A, c, xs⟩] xs (fun p hp => ?_) (by simp) (fun p hp => ?_) (by simp) W hbl g c' 1 _ rfl rfl _ hg
  · simp only [List.mem_cons, List.not_mem_nil, or_false] at hp
    subst hp
    exact ⟨ha, hc⟩
  · simp only [List.mem_cons, List.not_mem_nil, or_false] at hp
    subst hp
    assumption
theorem tells_four (w : World) (hf : Fours w) (A B : Option Addr) (n m c d : Nat) (xs ys zs : List UInt8) (ha : Rd w A n xs) (hb : Rd w B m ys) (hc : n ≤ c) (hd : m ≤ d) (hn : n ≤ 4096) (hm : m ≤ 4096) (he : xs ++ ys = zs) : Tells w #[.slice none 0 0, .slice A n c, .slice none 0 0, .slice B m d] 4 zs := by
  obtain rfl := ha.1
  obtain rfl := hb.1
  intro W g c' hbl hg
  refine joined w hf [.none, ⟨A, c, xs⟩, .none, ⟨B, d, ys⟩] zs (fun p hp => ?_) (by simp) (fun p hp => ?_) (by simpa [Part.none] using he) W hbl g c' 4 _ rfl rfl _ hg
  · simp only [List.mem_cons, List.not_mem_nil, or_false] at hp
    rcases hp with rfl | rfl | rfl | rfl
    · exact ⟨Rd.nil_ _ _, Nat.le_refl _⟩
    · exact ⟨ha, hc⟩
    · exact ⟨Rd.nil_ _ _, Nat.le_refl _⟩
    · exact ⟨hb, hd⟩
  · simp only [List.mem_cons, List.not_mem_nil, or_false] at hp
    rcases hp with rfl | rfl | rfl | rfl
    · exact Nat.zero_le _
    · assumption
    · exact Nat.zero_le _
    · assumption

set_option maxRecDepth 100000 in
set_option maxHeartbeats 8000000 in
theorem walk_try (w : World) (hf : Fours w) (A : Option Addr) (n c : Nat) (xs : List UInt8) (hr : Rd w A n xs) (hc : n ≤ c) (hl : n ≤ 4096) (a1 : Int) (w1 : (Lit.int .i64 a1).wf = true) :
    Calls Tryd.prog 7 #[.slice A n c, .int .i64 a1] w fun e w' => e = .returned (.bool true) ∧ Below w.heap.size w w' := by
  have HL := kept (lives_any w hf)
  have hbd : decide ((4096 : Int) < (n : Int)) = false := by simp; omega
  obtain ⟨k, hk, hat⟩ := place a1 n hl
  obtain ⟨X, hX⟩ : ∃ X, (if c = k then A else Option.map (fun x => x.add k) A) = X := ⟨_, rfl⟩
  have hdr := hr.cut hk hc
  rw [hX] at hdr
  have htk := hr.take hk
  have J1 := kept (tells_two w hf A X k (n - k) c (c - k) _ _ xs htk hdr (by omega) (by omega) (by omega) (by omega) (List.take_append_drop k xs))
  have J2 := kept (tells_one w hf A n c xs hr hc hl)
  have J3 := kept (tells_two w hf A none n 0 c 0 xs [] xs hr (Rd.nil_ _ _) hc (Nat.le_refl _) hl (by omega) (by simp))
  have J4 := kept (tells_four w hf A X k (n - k) c (c - k) _ _ xs htk hdr (by omega) (by omega) (by omega) (by omega) (List.take_append_drop k xs))
  have hi0 : (0 : Int) ≤ (k : Int) := by omega
  have hi1 : (k : Int) ≤ (c : Int) := by omega
  have hi2 : (k : Int) ≤ (n : Int) := by omega
  have hi3 : (n : Int) ≤ (c : Int) := by omega
  have hz := map_add_zero A
  clear hdr htk hr hf
  go_enter Tryd.func7, Tryd.ntmps7
  go_wp2_with fail
  with_reducible refine HL.out.mono ?_
  rintro e w2 ⟨rfl, hb⟩
  have HB := kept hb
  clear hb
  go_wp2
  simp only [hat]
  clear hat HL hbd hk hc hl w1
  generalize (IntKind.u64.wrap a1).tmod ((n : Int) + 1) = r19
  generalize IntKind.u64.wrap a1 = r14
  go_region_held3 (fun W' => Below w.heap.size w W') ((first | exact HB.out.drew | (refine Below.alloc (by assumption) ?_ _; exact Below.size (by assumption)) | assumption))
    (first | (go_at_call 9; (with_reducible refine (Tells.use J1 _ _ _ ?_ ?_).mono ?_); (focus assumption); (focus (with_reducible refine hp_drew _ _ _ ?_; (repeat (first | (with_reducible refine hp_last _ _ _ ?_; (first | rfl | (simp only [World.size_alloc]; done))) | with_reducible refine hp_skip _ _ _ _ ?_)); done)); rintro e w' ⟨rfl, rfl⟩) | (go_at_call 9; (with_reducible refine (Tells.use J2 _ _ _ ?_ ?_).mono ?_); (focus assumption); (focus (with_reducible refine hp_drew _ _ _ ?_; (repeat (first | (with_reducible refine hp_last _ _ _ ?_; (first | rfl | (simp only [World.size_alloc]; done))) | with_reducible refine hp_skip _ _ _ _ ?_)); done)); rintro e w' ⟨rfl, rfl⟩) | (go_at_call 9; (with_reducible refine (Tells.use J3 _ _ _ ?_ ?_).mono ?_); (focus assumption); (focus (with_reducible refine hp_drew _ _ _ ?_; (repeat (first | (with_reducible refine hp_last _ _ _ ?_; (first | rfl | (simp only [World.size_alloc]; done))) | with_reducible refine hp_skip _ _ _ _ ?_)); done)); rintro e w' ⟨rfl, rfl⟩) | (go_at_call 9; (with_reducible refine (Tells.use J4 _ _ _ ?_ ?_).mono ?_); (focus assumption); (focus (with_reducible refine hp_drew _ _ _ ?_; (repeat (first | (with_reducible refine hp_last _ _ _ ?_; (first | rfl | (simp only [World.size_alloc]; done))) | with_reducible refine hp_skip _ _ _ _ ?_)); done)); rintro e w' ⟨rfl, rfl⟩))
  all_goals
    go_wp2
    go_ret
    exact ⟨rfl, by assumption⟩
theorem walk (w : World) (hf : Fours w) (A : Option Addr) (n c : Nat) (xs : List UInt8) (hr : Rd w A n xs) (hc : n ≤ c) (hl : n ≤ 140737488351232) (a1 : Int) (w1 : (Lit.int .i64 a1).wf = true) :
    Calls Tryd.prog 7 #[.slice A n c, .int .i64 a1] w fun e w' => e = .returned (.bool true) ∧ Below w.heap.size w w' := by
  by_cases hbig : 4096 < n
  · have HL := kept (lives_any w hf)
    have HF := kept hf
    clear hf hr
    go_enter Tryd.func7, Tryd.ntmps7
    go_wp2_with fail
    with_reducible refine HL.out.mono ?_
    rintro e w1 ⟨rfl, hb⟩
    have HB := kept hb
    have HL2 := kept (lives_any w1 (HF.out.below hb))
    clear hb
    go_wp2_with fail
    with_reducible refine HL2.out.mono ?_
    rintro e w2 ⟨rfl, hb2⟩
    have HB2 := kept (HB.out.trans (hb2.mono HB.out.size))
    clear hb2
    go_wp2
    go_ret
    exact ⟨rfl, HB2.out⟩
  · exact walk_try w hf A n c xs hr hc (by omega) a1 w1
end Go.Proofs.YtnnngjcakljceaaDoor.sumJoins
