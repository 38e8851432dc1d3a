/-
  What Copy answers: a disk apart, with the same in it.
-/
import Derived.Test.YtfmljiidgaoihaaDi
import Derived.Shelf.SlMaps.Clone
import Derived.Deep.RegionHeld3
namespace Go.Proofs.Ytfmljiidgaoihaa
open Go.ChangeShapes Go.WideShapes Go.ChangeAt Go.RowKit
set_option linter.unusedVariables false

/-- A contract that leaves the world, turned for a region that only reads. -/
theorem turn {P : Program} {f : FuncId} {args : Array Value} {w : World} {v : Value} (h : Calls P f args w fun e w' => e = .returned v ∧ w = w') : Calls P f args w fun e w' => e = .returned v ∧ w' = w :=
  h.mono fun _ _ ⟨a, b⟩ => ⟨a, b.symm⟩
theorem cloneM_any (m k : Nat) (f : Int → Option Value) (w : World) (h : Mv w m k f) :
    Calls Try.prog 39 #[.map (some m)] w fun e w' => e = .returned (.map (some w.heap.size)) ∧ Hid (Mv w' w.heap.size k f ∧ Below w.heap.size w w') := by
  obtain ⟨D, ⟨es, clock, hb, F, hs, hD⟩, hca⟩ := h
  have H : Hid (Mv (w.alloc (.map es clock)) w.heap.size k f ∧ Below w.heap.size w (w.alloc (.map es clock))) := kept ⟨⟨D, ⟨es, clock, heap_alloc_new w _, F, hs, hD⟩, hca⟩, (Below.refl _ w).alloc (Nat.le_refl _) _⟩
  clear F hs hD hca
  have hq := fun w => run_eql_map_nil_sl (P := Try.prog) w 65 _ _ (some m) mapU
  have hc := fun ty => @run_typeAssert_map_sl Try.prog (w.alloc (.map es clock)) 65 ty _ _ (.map (some w.heap.size)) mapU
  have hx : (callFunc 50 #[.iface 65 (.map (some m))]).run Try.prog w = .ok (.value (.iface 65 (.map (some w.heap.size)))) (w.alloc (.map es clock)) := by
    rw [run_callFunc_extern Try.func50 (by kernel_rfl) (by kernel_rfl) (by kernel_rfl) (e := Extern.MapsClone.clone) (by kernel_rfl), run_maps_clone_sl w 65 hb]
    rfl
  clear hb
  go_enter Try.func39, Try.ntmps39
  go_wp2
  go_ret
  exact ⟨rfl, H⟩
/-- All pages, cell by cell. -/
theorem PgAt.flat {w : World} {g cap : Nat} {ps : List (List UInt8)} (h : PgAt w g cap ps) : ps.flatten.length = ps.length * 256 ∧ ∀ j u, (cellsOf ps.flatten)[j]? = some u → w.cell? ((⟨g, 0, none⟩ : Addr).add j) = some u := by
  have key : ∀ (qs : List (List UInt8)) (s : Nat), (∀ i (hi : i < qs.length), qs[i].length = 256 ∧ w.rangeAt g ((s + i) * 256) (cellsOf qs[i])) → qs.flatten.length = qs.length * 256 ∧ ∀ j u, (cellsOf qs.flatten)[j]? = some u → w.cell? ⟨g, s * 256 + j, none⟩ = some u := by
    intro qs
    induction qs with
    | nil => intro s _; exact ⟨rfl, fun j u hu => by simp [cellsOf] at hu⟩
    | cons q qs ih =>
      intro s hq
      obtain ⟨h1, h2⟩ := hq 0 (by simp)
      have h1 : q.length = 256 := h1
      obtain ⟨h3, h4⟩ := ih (s + 1) (fun i hi => by
        have := hq (i + 1) (by simpa using hi)
        have e : s + (i + 1) = s + 1 + i := by omega
        rw [e] at this
        exact this)
      refine ⟨by rw [List.flatten_cons, List.length_append, h1, h3, List.length_cons]; omega, fun j u hu => ?_⟩
      rw [List.flatten_cons, cellsOf_append] at hu
      by_cases hj : j < 256
      · rw [List.getElem?_append_left (by rw [cellsOf_length, h1]; exact hj)] at hu
        exact h2 j u hu
      · rw [List.getElem?_append_right (by rw [cellsOf_length, h1]; omega), cellsOf_length, h1] at hu
        have := h4 (j - 256) u hu
        have e : (s + 1) * 256 + (j - 256) = s * 256 + j := by omega
        rw [e] at this
        exact this
  obtain ⟨cur, hb, hs, hc, hi⟩ := h
  obtain ⟨h1, h2⟩ := key ps 0 (fun i hi' => by rw [Nat.zero_add]; exact hi i hi')
  refine ⟨h1, fun j u hu => ?_⟩
  have := h2 j u hu
  rw [Addr.add_mid, Nat.zero_add]
  rwa [Nat.zero_mul, Nat.zero_add] at this
theorem PgAt.of_own {w : World} {base g cap n : Nat} {ps : List (List UInt8)} {cur : Array Value} (hn : ps.length = n) (hl : ∀ p ∈ ps, p.length = 256) (hg : w.heap[g]? = some (.cells cur 75 (0, 0))) (hc : n ≤ cap) (hs : cur.size = cap * 256) (ht : cur.toList.take (n * 256) = cellsOf ps.flatten) : PgAt w g cap ps := by
  refine ⟨cur, hg, hs, by omega, fun i hi => ⟨hl _ (List.getElem_mem hi), fun j u hu => ?_⟩⟩
  have key : ∀ (qs : List (List UInt8)), (∀ p ∈ qs, p.length = 256) → ∀ i (hi : i < qs.length) j, j < 256 → (cellsOf qs.flatten)[i * 256 + j]? = (cellsOf qs[i])[j]? := by
    intro qs
    induction qs with
    | nil => intro _ i hi; simp at hi
    | cons q qs ih =>
      intro hq i hi j hj
      have h1 := hq q (by simp)
      rw [List.flatten_cons, cellsOf_append]
      cases i with
      | zero => rw [List.getElem?_append_left (by rw [cellsOf_length, h1]; omega)]; simp
      | succ i =>
        rw [List.getElem?_append_right (by rw [cellsOf_length, h1]; omega), cellsOf_length, h1]
        have e : (i + 1) * 256 + j - 256 = i * 256 + j := by omega
        rw [e, ih (fun p hp => hq p (by simp [hp])) i (by simpa using hi) j hj]
        rfl
  have hj : j < 256 := by have := (List.getElem?_eq_some_iff.1 hu).1; rwa [cellsOf_length, hl _ (List.getElem_mem hi)] at this
  rw [cell_of_row w g _ cur _ _ hg]
  rw [← key ps hl i hi j hj, ← ht, List.getElem?_take] at hu
  split at hu
  · simpa using hu
  · cases hu
theorem cloneP_any (g cap n : Nat) (ps : List (List UInt8)) (w : World) (h : PgAt w g cap ps) (hn : ps.length = n) (h8 : 0 < n) (hm : n ≤ 1024) :
    Calls Try.prog 38 #[.slice (some ⟨g, 0, none⟩) n cap] w fun e w' => ∃ g' cap', e = .returned (.slice (some ⟨g', 0, none⟩) n cap') ∧ PgAt w' g' cap' ps ∧ w.heap.size ≤ g' ∧ Below w.heap.size w w' := by
  have q : ∀ (w : World) (a : Option Addr) (n c n' c' : Nat), (binOp .eql 64 (.slice a n c) (.slice none n' c')).run Try.prog w = .ok (.bool a.isNone) w := fun w a n c n' c' => Lib.run_eql_slice_nil w _ _ a n c n' c' Try.underlying64
  obtain ⟨i, hi, hz, hsz, hby⟩ := info_parts (show (Try.prog.info? 75).map (fun i => (i.zero, i.size, i.bytes)) = some (some (pageV noughts), 256, 256) by kernel_rfl)
  have HO := kept (World.ownsRow_made (base := w.heap.size) (e := 75) (size := 256) w #[] 0 (Nat.le_refl _) (Nat.zero_le _) rfl)
  have h' : PgAt (w.alloc (.cells #[] 75)) g cap ps := h.keep (heap_alloc_lt _ _ h.lt)
  have HF := kept h'.flat
  have HB := kept ((Below.refl w.heap.size w).alloc (Nat.le_refl _) (.cells #[] 75))
  have HL : Hid (∀ p ∈ ps, p.length = 256) := kept (fun p hp => by obtain ⟨i, hi, rfl⟩ := List.getElem_of_mem hp; exact h.len hi)
  have HI := kept hi
  have HZ := kept hz
  have HSZ := kept hsz
  have HBY := kept hby
  have HN := kept hn
  have hzs : (pageV noughts).cells.size = 256 := cells_toArray_size noughts_length
  have HZS := kept hzs
  clear h h' hi hz hsz hby hn hzs
  go_enter Try.func38, Try.ntmps38
  go_wp2_with (at_builtin; refine wpList_append_own _ rfl _ _ 64 rfl w.heap.size 75 i (pageV noughts) 256 256 Try.underlying64 HI.out HZ.out HSZ.out HBY.out HZS.out (by omega) _ 0 [] rfl HO.out ⟨g, 0, none⟩ n cap (cellsOf ps.flatten) rfl (by rw [cellsOf_length, HF.out.1, HN.out]) HF.out.2 (cellsOf_one _) (by unfold maxLen; omega) (by omega) (by simp) ?_; intro v' w1 hown1 hg1 hnil; have HO1 := kept hown1; have HG1 := kept hg1; clear hown1 hg1 hnil)
  go_ret
  have hb1 : Below w.heap.size w w1 := HB.out.grown HG1.out HB.out.size (fun k e => by cases e; exact Nat.le_refl _)
  have ho := HO1.out
  rw [List.nil_append, Nat.zero_add] at ho
  rcases ho.2 with ⟨_, h0⟩ | ⟨g', cap', cur, hv, hbg, hh, h1, h2, h3, h4⟩
  · omega
  · exact ⟨g', cap', congrArg _ hv, PgAt.of_own (base := 0) HN.out HL.out hh h1 h3 h4, hbg, hb1⟩

theorem storeA_any (b : Nat) (x y : Int) (w : World) (hc : w.cell? ⟨b, 3, none⟩ = some (.int .i64 x)) (hz : w.frozen? ⟨b, 3, none⟩ = false) :
    Calls Try.prog 40 #[.pointer (some ⟨b, 3, none⟩), .int .i64 y] w fun e w' => e = .returned (.tuple #[]) ∧ Hid (w' = w.setCell ⟨b, 3, none⟩ (.int .i64 y)) := by
  have hl := store64 (y := y) hc hz
  clear hc hz
  go_enter Try.func40, Try.ntmps40
  go_wp2
  go_end0
  exact ⟨rfl, rfl⟩
theorem cloneP_use {w : World} {d : Dk} {S : St} (h : Dsk w d S) (X : World) (hX : Below w.heap.size w X) :
    Calls Try.prog 38 #[.slice (some ⟨d.g, 0, none⟩) S.pages.length d.cap] X fun e w' => ∃ g' cap', e = .returned (.slice (some ⟨g', 0, none⟩) S.pages.length cap') ∧ PgAt w' g' cap' S.pages ∧ X.heap.size ≤ g' ∧ Below X.heap.size X w' :=
  cloneP_any d.g d.cap S.pages.length S.pages X ((h.below hX).2.2.1) rfl (by have := h.1.1; omega) h.1.2.1
theorem cloneM_use {w : World} {d : Dk} {S : St} {k : Nat} (h : Dsk w d S) (hm : Mv w d.m k (fun x => (S.cache x).map pageV)) (X : World) (hX : Below w.heap.size w X) :
    Calls Try.prog 39 #[.map (some d.m)] X fun e w' => e = .returned (.map (some X.heap.size)) ∧ Hid (Mv w' X.heap.size k (fun x => (S.cache x).map pageV) ∧ Below X.heap.size X w') :=
  cloneM_any d.m k _ X (hm.keep (hX.block d.m (h.lt _ (.inr (.inr rfl)))))
/-- Three cells of a disk. -/
def C3 (w : World) (d : Dk) (S : St) : Prop := w.cell? ⟨d.r, 0, none⟩ = some (.slice (some ⟨d.g, 0, none⟩) S.pages.length d.cap) ∧ w.cell? ⟨d.r, 1, none⟩ = some (.map (some d.m)) ∧ w.cell? ⟨d.r, 2, none⟩ = some (.int .i64 S.fuse)
theorem C3.of {w X : World} {d : Dk} {S : St} (h : Dsk w d S) (hX : Below w.heap.size w X) : X.cell? ⟨d.r, 0, none⟩ = some (.slice (some ⟨d.g, 0, none⟩) S.pages.length d.cap) ∧ X.cell? ⟨d.r, 1, none⟩ = some (.map (some d.m)) ∧ X.cell? ⟨d.r, 2, none⟩ = some (.int .i64 S.fuse) := ⟨(h.below hX).c0, (h.below hX).c1, (h.below hX).c2⟩
theorem below_on {w X w' : World} (h : Below X.heap.size X w') (hX : Below w.heap.size w X) : Below w.heap.size w w' := hX.trans (h.mono hX.size)
/-- The copy, laid but for its number. -/
def Laid3 (w : World) (d : Dk) (S : St) (b g m cap : Nat) (W1 : World) : Prop :=
  W1.cell? ⟨b, 3, none⟩ = some (.int .i64 0) ∧ W1.frozen? ⟨b, 3, none⟩ = false ∧ Dsk W1 d S ∧ Below w.heap.size w W1 ∧
    (Dsk (W1.drew.setCell ⟨b, 3, none⟩ (.int .i64 (S.done : Int))) ⟨b, g, m, cap⟩ S ∧ (∀ i, (⟨b, g, m, cap⟩ : Dk).own i → w.heap.size ≤ i) ∧ Below w.heap.size w (W1.drew.setCell ⟨b, 3, none⟩ (.int .i64 (S.done : Int))))
theorem copy_mid {w W0 : World} {d : Dk} {S : St} {k g m cap : Nat} (h : Dsk w d S) (hk : k ≤ S.done) (hp : PgAt W0 g cap S.pages) (hm : Mv W0 m k (fun x => (S.cache x).map pageV)) (hb : Below w.heap.size w W0) (hg : w.heap.size ≤ g) (hmm : w.heap.size ≤ m) :
    Laid3 w d S W0.heap.size g m cap (W0.alloc (.cells #[.slice (some ⟨g, 0, none⟩) S.pages.length cap, .map (some m), .int .i64 S.fuse, .int .i64 0] 72)) := by
  have hB := Blk.new W0 72 #[.slice (some ⟨g, 0, none⟩) S.pages.length cap, .map (some m), .int .i64 S.fuse, .int .i64 0]
  have hb1 : Below w.heap.size w (W0.alloc (.cells #[.slice (some ⟨g, 0, none⟩) S.pages.length cap, .map (some m), .int .i64 S.fuse, .int .i64 0] 72)) := hb.alloc hb.size _
  have hp1 := hp.keep (heap_alloc_lt W0 (.cells #[.slice (some ⟨g, 0, none⟩) S.pages.length cap, .map (some m), .int .i64 S.fuse, .int .i64 0] 72) hp.lt)
  have hm1 := hm.keep (heap_alloc_lt W0 (.cells #[.slice (some ⟨g, 0, none⟩) S.pages.length cap, .map (some m), .int .i64 S.fuse, .int .i64 0] 72) hm.lt)
  have lg := hp.lt
  have lm := hm.lt
  generalize (W0.alloc (.cells #[.slice (some ⟨g, 0, none⟩) S.pages.length cap, .map (some m), .int .i64 S.fuse, .int .i64 0] 72)) = W1 at hB hb1 hp1 hm1
  refine ⟨hB.cell 3, hB.frozen 3, h.below hb1, hb1, ⟨h.1, hB.set_ 3 _, hp1.keep (Below.heap_setCell W1 ⟨W0.heap.size, 3, none⟩ _ g (fun e => by have : g = W0.heap.size := e; omega)), k, hk, hm1.keep (Below.heap_setCell W1 ⟨W0.heap.size, 3, none⟩ _ m (fun e => by have : m = W0.heap.size := e; omega))⟩, ?_, ?_⟩
  · intro i hi
    have hi' : i = W0.heap.size ∨ i = g ∨ i = m := hi
    have := hb.size
    rcases hi' with rfl | rfl | rfl
    · exact this
    · exact hg
    · exact hmm
  · exact (hb1.drew).setCell (p := ⟨W0.heap.size, 3, none⟩) hb.size _
set_option maxRecDepth 100000 in
set_option maxHeartbeats 1000000 in
theorem copy_any (d : Dk) (S : St) (w : World) (h : Dsk w d S) :
    Calls Try.prog 21 #[.pointer (some ⟨d.r, 0, none⟩)] w fun e w' => ∃ c : Dk, e = .returned (.pointer (some ⟨c.r, 0, none⟩)) ∧ Dsk w' c S ∧ (∀ i, c.own i → w.heap.size ≤ i) ∧ Below w.heap.size w w' := by
  obtain ⟨k, hk, hm⟩ := h.2.2.2
  have HM := kept hm
  have HK := kept hk
  have HD := kept h
  have c0 := h.c0
  have c1 := h.c1
  have c2 := h.c2
  have hb0 : Below w.heap.size w w.drew := (Below.refl _ w).drew
  clear h hk hm
  go_enter Try.func21, Try.ntmps21
  go_wp2
  go_region_held3 (fun W' => W'.cell? ⟨d.r, 0, none⟩ = some (.slice (some ⟨d.g, 0, none⟩) S.pages.length d.cap) ∧ W'.cell? ⟨d.r, 1, none⟩ = some (.map (some d.m)) ∧ W'.cell? ⟨d.r, 2, none⟩ = some (.int .i64 S.fuse)) ((first | exact ⟨c0, c1, c2⟩ | exact C3.of HD.out (by assumption) | (refine C3.of HD.out (Below.alloc (by assumption) ?_ _); exact Below.size (by assumption))))
    (first | (go_at_call 38; (with_reducible refine (cloneP_use HD.out _ ?_).mono ?_); (focus assumption); rintro e wP ⟨g', cap', rfl, hp, hgn, hbP⟩; have hqP := below_on hbP (by assumption)) | (go_at_call 39; (with_reducible refine (cloneM_use HD.out HM.out _ ?_).mono ?_); (focus assumption); rintro e wM ⟨rfl, hMM⟩; have hbM := hMM.out.2; have hqM := below_on hbM (by assumption)))
  have HL : Hid (Laid3 w d S wM.heap.size g' wP.heap.size cap' (wM.alloc (.cells #[.slice (some ⟨g', 0, none⟩) S.pages.length cap', .map (some wP.heap.size), .int .i64 S.fuse, .int .i64 0] 72))) := kept (copy_mid HD.out HK.out (hp.keep (hbM.block _ hp.lt)) hMM.out.1 hqM hgn hqP.size)
  clear hp hgn hbP hqP hMM hbM hqM
  rename_i hHeld
  clear hHeld
  generalize (wM.alloc (.cells #[.slice (some ⟨g', 0, none⟩) S.pages.length cap', .map (some wP.heap.size), .int .i64 S.fuse, .int .i64 0] 72)) = W1 at HL ⊢
  go_wp2
  have HLO := kept (loadA_any d.r (S.done : Int) W1.drew (HL.out.2.2.1.drew.c3))
  refine wp_region_still_tail 7 (by kernel_rfl) (by kernel_rfl) ?_
  simp only [List.take_succ_cons, List.take_zero, List.drop_succ_cons, List.drop_zero]
  iterate 6 still_step
  still_call (turn HLO.out)
  refine wpStill_nil ?_
  change wpList _ _ _ _ _ W1.drew
  have HST := kept (storeA_any wM.heap.size 0 (S.done : Int) W1.drew HL.out.1 HL.out.2.1)
  go_wp2_with (first | (go_at_call 40; (with_reducible refine (HST.out).mono ?_); rintro e w2 ⟨rfl, h2⟩))
  go_ret
  have h3 := h2.out
  subst h3
  exact ⟨⟨wM.heap.size, g', wP.heap.size, cap'⟩, rfl, HL.out.2.2.2.2⟩
end Go.Proofs.Ytfmljiidgaoihaa
