/-
  terrierref03.Disk: all its calls, beside the disk; New.
-/
import Derived.Test.YtfmljiidgaoihaaRff
import Derived.Test.YtfmljiidgaoihaaDq
namespace Go.Proofs.Ytfmljiidgaoihaa
open Go.ChangeShapes Go.WideShapes Go.ChangeAt Go.RowKit
set_option linter.unusedVariables false

theorem Sim.clear {S : St} {R : RSt} (h : Sim S R) (ho : S.ok) (F : Int → List UInt8 → List UInt8 → List UInt8) (new : Nat → List UInt8) (hF : ∀ i xs, S.cache (i : Nat) = some xs → F i xs (S.pages.getD i []) = new i) :
    Sim { S with pages := S.laidAll new, cache := fun _ => none } { R with pages := layAll F R.cache R.pages, cache := [] } :=
  ⟨layAll_laid h ho F new hF, h.done, List.nodup_nil, fun _ => rfl, h.dead, h.fuse, h.lo, h.hi, Nat.zero_le _⟩
theorem Sim.sync {S : St} {R : RSt} (h : Sim S R) (ho : S.ok) (hf : S.fuse ≠ 0) : Sim S.sync ({ R with pages := layAll F0 R.cache R.pages, cache := [] } : RSt).did :=
  Sim.did (h.clear ho F0 (fun i => S.page (i : Int)) (fun i xs e => by
    show xs = (S.cache (i : Int)).getD _
    rw [e]; rfl)) hf
theorem Sim.crash {S : St} {R : RSt} (h : Sim S R) (ho : S.ok) (l : List (Int × Int)) : Sim (S.crash l) { R with pages := layAll (FC l) R.cache R.pages, cache := [], fuse := -1, dead := false } := by
  have k := h.clear ho (FC l) (S.torn l) (fun i xs e => by
    show xs.take _ ++ _ = ((S.cache (i : Int)).getD _).take _ ++ _
    rw [e]; rfl)
  exact ⟨k.pages, k.done, k.keys, k.cache, (by simp [St.crash]), fun _ => rfl, Int.le_refl _, (by show (-1 : Int) ≤ _; omega), k.few⟩
theorem rsync_any (base r : Nat) (S : St) (R : RSt) (w : World) (h : RefD w base r R) (hs : Sim S R) (ho : S.ok) (hd : S.done ≤ 10000) :
    Calls Try.prog 26 #[.pointer (some ⟨r, 0, none⟩)] w fun e w' => e = .returned (.int .i64 (syncE S)) ∧ Hid (RLeft w base r S.trySync w') := by
  unfold syncE St.trySync
  by_cases hf : S.fuse = 0
  · rw [if_pos hf, if_pos hf]
    exact (rsync_no base r R w h (by rw [hs.dead, hf]; rfl)).mono fun e w' ⟨h1, h2⟩ => by subst h2; exact ⟨h1, kept ⟨R, h, hs, Turned.refl _ _⟩⟩
  · rw [if_neg hf, if_neg hf]
    exact (rsync_ok base r S R w h hs ho (by rw [hs.dead]; simp [hf]) hd).mono fun e w' ⟨h1, h2⟩ => ⟨h1, kept ⟨_, h2.out.1, hs.sync ho hf, h2.out.2⟩⟩
theorem rfuse_any (base r : Nat) (S : St) (R : RSt) (n : Int) (w : World) (h : RefD w base r R) (hs : Sim S R) (hn : n ≤ 9223372036854775807) :
    Calls Try.prog 27 #[.pointer (some ⟨r, 0, none⟩), .int .i64 n] w fun e w' => e = .returned (.tuple #[]) ∧ Hid (RLeft w base r (S.tryFuse n) w') :=
  (rset_any base r R n w h).mono fun e w' ⟨h1, h2⟩ => ⟨h1, kept ⟨_, h2.out.1, hs.set hn, h2.out.2⟩⟩
theorem rcrash_any (base r : Nat) (S : St) (R : RSt) (l : List (Int × Int)) (n b1 c1 b2 c2 : Nat) (P N : Nat → Int) (w : World) (h : RefD w base r R) (hs : Sim S R) (ho : S.ok) (hdn : S.done ≤ 10000) (hl : l.length = n) (hn : n ≤ 100) (hlP : ∀ j (hj : j < l.length), l[j] = (P j, N j))
    {t1 t2 : TypeId} {cs1 cs2 : List Value} (hb1 : Blk w b1 t1 cs1) (ht1 : t1 ≠ 52 ∧ t1 ≠ 26 ∧ t1 ≠ 90) (hb2 : Blk w b2 t2 cs2) (ht2 : t2 ≠ 52 ∧ t2 ≠ 26 ∧ t2 ≠ 90) (hi1 : Ip w b1 n P) (hi2 : Ip w b2 n N) :
    Calls Try.prog 28 #[.pointer (some ⟨r, 0, none⟩), .slice (some ⟨b1, 0, none⟩) n c1, .slice (some ⟨b2, 0, none⟩) n c2] w fun e w' => e = .returned (.tuple #[]) ∧ Hid (RLeft w base r (S.crash l) w') :=
  (rcrash_ok base r S R l n b1 c1 b2 c2 P N w h hs ho hdn hl hn hlP hb1 ht1 hb2 ht2 hi1 hi2).mono fun e w' ⟨h1, h2⟩ => ⟨h1, kept ⟨_, h2.out.1, hs.crash ho l, h2.out.2⟩⟩
/-- The disk of the document while it is made: k pages. -/
def NewR (w : World) (r k : Nat) (v : Value) (wr : World) : Prop :=
  ∃ ps, Blk wr r 52 [v, .slice none 0 0, .int .i64 (-1), .bool false, .int .i64 0] ∧ w.heap.size ≤ r ∧ wr.ownsRow w.heap.size 26 1 v k ps ∧ RowsP wr ps (List.replicate k noughts) ∧ Below w.heap.size w wr
theorem noughts_made : cellsOf noughts = List.replicate 256 (Value.int .u8 0) := by rw [noughts_cells]; rfl
theorem rowV_new (w : World) : RowV (w.alloc (.cells (List.replicate 256 (Value.int .u8 0)).toArray 5)) (.slice (some ⟨w.heap.size, 0, none⟩) 256 256) noughts := by
  have hb : Blk (w.alloc (.cells (List.replicate 256 (Value.int .u8 0)).toArray 5)) w.heap.size 5 (cellsOf noughts) := by
    rw [noughts_made]
    exact Blk.new w 5 _
  exact ⟨_, _, _, _, rfl, Nat.le_refl _, hb, hb.rd noughts_length⟩
theorem NewR.done {w wr : World} {r k : Nat} {v : Value} (h : NewR w r k v wr) (h8 : 8 ≤ k) : RefD wr w.heap.size r ⟨List.replicate k noughts, [], -1, false, 0⟩ ∧ Sim (fresh k) ⟨List.replicate k noughts, [], -1, false, 0⟩ ∧ Below w.heap.size w wr := by
  obtain ⟨ps, hb, hr, ho, hrp, hbl⟩ := h
  refine ⟨?_, ⟨rfl, rfl, List.nodup_nil, fun _ => rfl, (by simp [fresh]), fun _ => rfl, Int.le_refl _, (by show (-1 : Int) ≤ _; omega), Nat.le_refl _⟩, hbl⟩
  rcases ho.2 with ⟨_, h0⟩ | ⟨g, cap, cur, hv, _⟩
  · omega
  · subst hv
    refine ⟨g, cap, none, 0, ps, [], ?_, hr, ?_, hrp, ⟨rfl, .inl ⟨rfl, rfl⟩⟩, ⟨rfl, fun j h1 => absurd h1 (by simp)⟩⟩
    · simpa using hb
    · simpa using ho
/-- A page more. -/
theorem NewR.more {w wr w1 w2 : World} {r k : Nat} {v v' : Value} {ps : List Value} {u : Value} (hb : Blk wr r 52 [v, .slice none 0 0, .int .i64 (-1), .bool false, .int .i64 0]) (hr : w.heap.size ≤ r) (ho : wr.ownsRow w.heap.size 26 1 v k ps) (hrp : RowsP wr ps (List.replicate k noughts)) (hbl : Below w.heap.size w wr)
    (h1 : Below wr.heap.size wr w1) (hu : RowV w1 u noughts) (ho2 : w2.ownsRow w.heap.size 26 1 v' (k + 1) (ps ++ [u])) (hg : w1.grownBy w2 v.ownBlock) :
    NewR w r (k + 1) v' (w2.setCell ⟨r, 0, none⟩ v') ∧ w2.cell? ⟨r, 0, none⟩ = some v ∧ w2.frozen? ⟨r, 0, none⟩ = false := by
  have hown : ∀ j, v.ownBlock = some j → ∃ cur, w1.heap[j]? = some (.cells cur 26 (0, 0)) ∧ w.heap.size ≤ j := fun j hj => by
    rcases ho.2 with ⟨hv, _⟩ | ⟨g, cap, cur, hv, hb', hg', _⟩
    · subst hv; simp [Value.ownBlock] at hj
    · subst hv
      have e : g = j := by simpa [Value.ownBlock] using hj
      subst e
      exact ⟨cur, (h1.block g (Array.getElem?_eq_some_iff.1 hg').1).trans hg', hb'⟩
  have hT : Turned w1 w2 (fun j => v.ownBlock = some j) := Turned.of_grown hg (fun j e => e)
  have hb1 : Blk w1 r 52 [v, .slice none 0 0, .int .i64 (-1), .bool false, .int .i64 0] := (Turned.of_below h1 (fun _ => False)).blk hb id
  have hb2 := hT.blk hb1 (fun e => by
    obtain ⟨cur, hc, _⟩ := hown r e
    unfold Blk at hb1
    rw [hb1] at hc
    simp at hc)
  have t : Turned w2 (w2.setCell ⟨r, 0, none⟩ v') (fun j => j = r) := (Turned.refl w2 _).cell_r 0 v'
  have hne : ∀ j c ty fr, w2.heap[j]? = some (.cells c ty fr) → ty ≠ 52 → ¬ j = r := fun j c ty fr hj hty e => by
    subst e; unfold Blk at hb2; rw [hb2] at hj; simp at hj; exact hty hj.2.1.symm
  refine ⟨⟨ps ++ [u], ?_, hr, own_turned ho2 t (fun j c fr hj => hne j c _ fr hj (by decide)), ?_, ?_⟩, hb2.cell 0, hb2.frozen 0⟩
  · simpa using hb2.set_ 0 v'
  · have hp1 : RowsP w1 ps (List.replicate k noughts) := hrp.turned (Turned.of_below h1 (fun _ => False)) (fun _ _ _ _ => id)
    have n8 : ∀ i c fr, w1.heap[i]? = some (.cells c 5 fr) → ¬ v.ownBlock = some i := fun i c fr hi e => by
      obtain ⟨cur, hc, _⟩ := hown i e
      rw [hc] at hi
      simp at hi
    have hp2 := hp1.turned hT n8
    have hu2 := hu.turned hT n8
    refine RowsP.turned ?_ t (fun j c fr hj => hne j c _ fr hj (by decide))
    refine ⟨by simp [hp2.1], fun i h1 h2 => ?_⟩
    by_cases hi : i < ps.length
    · have hik : i < (List.replicate k noughts).length := by rw [← hp2.1]; exact hi
      have := hp2.2 i hi hik
      rw [List.getElem_append_left hi]
      simpa using this
    · have e : i = ps.length := by simp at h1; omega
      subst e
      rw [List.getElem_append_right (Nat.le_refl _)]
      simpa using hu2
  · have hbw : Below w.heap.size w w1 := below_on h1 hbl
    have hbw2 : Below w.heap.size w w2 := Turned.only_new hbw hT hbw.size (fun j e => (hown j e).choose_spec.2)
    exact Turned.only_new hbw2 t hbw2.size (fun j e => by subst e; exact hr)
end Go.Proofs.Ytfmljiidgaoihaa
