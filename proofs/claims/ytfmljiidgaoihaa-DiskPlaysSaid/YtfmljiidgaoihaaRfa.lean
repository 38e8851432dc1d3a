/-
  The document's own disk (terrierref03.Disk) in memory, and its small calls.
-/
import Derived.Test.YtfmljiidgaoihaaDi
namespace Go.Proofs.Ytfmljiidgaoihaa
open Go.ChangeShapes Go.WideShapes Go.ChangeAt Go.RowKit
set_option linter.unusedVariables false

structure RSt where
  pages : List (List UInt8)
  cache : List (Int × List UInt8)
  fuse : Int
  dead : Bool
  done : Nat
/-- A slice of 256 bytes at the head of a block of bytes. -/
def RowV (w : World) (v : Value) (xs : List UInt8) : Prop := ∃ b c cs fr, v = .slice (some ⟨b, 0, none⟩) 256 c ∧ 256 ≤ c ∧ w.heap[b]? = some (.cells cs 5 fr) ∧ Rd w (some ⟨b, 0, none⟩) 256 xs
def RowsP (w : World) (ps : List Value) (pages : List (List UInt8)) : Prop := ps.length = pages.length ∧ ∀ i (h : i < ps.length) (h' : i < pages.length), RowV w ps[i] pages[i]
def RowsC (w : World) (cs : List (Int × Value)) (cache : List (Int × List UInt8)) : Prop := cs.length = cache.length ∧ ∀ i (h : i < cs.length) (h' : i < cache.length), cs[i].1 = cache[i].1 ∧ RowV w cs[i].2 cache[i].2
/-- The cache's entries as cells. -/
def ents (cs : List (Int × Value)) : List Value := cs.flatMap fun e => [.int .i64 e.1, e.2]
theorem ents_length (cs : List (Int × Value)) : (ents cs).length = cs.length * 2 := by
  induction cs with
  | nil => rfl
  | cons c cs ih =>
    have e : ents (c :: cs) = .int .i64 c.1 :: c.2 :: ents cs := rfl
    rw [e]
    simp only [List.length_cons, ih]
    omega
theorem ents_append (cs ds : List (Int × Value)) : ents (cs ++ ds) = ents cs ++ ents ds := by simp [ents]
theorem ents_get (cs : List (Int × Value)) {i : Nat} (h : i < cs.length) : (ents cs)[i * 2]? = some (.int .i64 cs[i].1) ∧ (ents cs)[i * 2 + 1]? = some cs[i].2 := by
  induction cs generalizing i with
  | nil => simp at h
  | cons c cs ih =>
    have e : ents (c :: cs) = .int .i64 c.1 :: c.2 :: ents cs := rfl
    rw [e]
    cases i with
    | zero => exact ⟨rfl, rfl⟩
    | succ i =>
      have := ih (i := i) (by simpa using h)
      have e2 : (i + 1) * 2 = i * 2 + 1 + 1 := by omega
      rw [e2]
      simpa using this
/-- Block r is such a disk; all that is its own lies from base on. -/
def RefD (w : World) (base r : Nat) (R : RSt) : Prop :=
  ∃ pg pc cA cc ps cs, Blk w r 52 [.slice (some ⟨pg, 0, none⟩) R.pages.length pc, .slice cA R.cache.length cc, .int .i64 R.fuse, .bool R.dead, .int .i64 (R.done : Int)] ∧ base ≤ r ∧
    w.ownsRow base 26 1 (.slice (some ⟨pg, 0, none⟩) R.pages.length pc) R.pages.length ps ∧ RowsP w ps R.pages ∧
    w.ownsRow base 90 2 (.slice cA R.cache.length cc) R.cache.length (ents cs) ∧ RowsC w cs R.cache
/-- The kinds of blocks that it may turn. -/
def RefK (w : World) (base i : Nat) : Prop := base ≤ i ∧ ∃ c t fr, w.heap[i]? = some (.cells c t fr) ∧ (t = 52 ∨ t = 26 ∨ t = 90)

section
variable {w w' : World} {base r : Nat} {R : RSt}
theorem RowV.keep {v : Value} {xs : List UInt8} (h : RowV w v xs) (hk : ∀ b c cs fr, v = .slice (some ⟨b, 0, none⟩) 256 c → w.heap[b]? = some (.cells cs 5 fr) → w'.heap[b]? = w.heap[b]?) : RowV w' v xs := by
  obtain ⟨b, c, cs, fr, rfl, hc, hb, hr⟩ := h
  have e := hk b c cs fr rfl hb
  refine ⟨b, c, cs, fr, rfl, hc, e.trans hb, hr.1, fun h0 => ?_⟩
  obtain ⟨a, ea, hcs⟩ := hr.2 h0
  cases ea
  refine ⟨_, rfl, fun j hj => ?_⟩
  rw [World.cell?_of_block (w := w) (by rw [add_block]; exact e)]
  exact hcs j hj
theorem RowV.turned {T : Nat → Prop} {v : Value} {xs : List UInt8} (h : RowV w v xs) (t : Turned w w' T) (hn : ∀ i c fr, w.heap[i]? = some (.cells c 5 fr) → ¬ T i) : RowV w' v xs :=
  h.keep fun b c cs fr _ hb => t.block b (Array.getElem?_eq_some_iff.1 hb).1 (hn b cs fr hb)
theorem RowsP.turned {T : Nat → Prop} {ps : List Value} {pages : List (List UInt8)} (h : RowsP w ps pages) (t : Turned w w' T) (hn : ∀ i c fr, w.heap[i]? = some (.cells c 5 fr) → ¬ T i) : RowsP w' ps pages :=
  ⟨h.1, fun i h1 h2 => (h.2 i h1 h2).turned t hn⟩
theorem RowsC.turned {T : Nat → Prop} {cs : List (Int × Value)} {cache : List (Int × List UInt8)} (h : RowsC w cs cache) (t : Turned w w' T) (hn : ∀ i c fr, w.heap[i]? = some (.cells c 5 fr) → ¬ T i) : RowsC w' cs cache :=
  ⟨h.1, fun i h1 h2 => ⟨(h.2 i h1 h2).1, (h.2 i h1 h2).2.turned t hn⟩⟩
theorem own_turned {T : Nat → Prop} {e : TypeId} {size n : Nat} {v : Value} {xs : List Value} (h : w.ownsRow base e size v n xs) (t : Turned w w' T) (hn : ∀ i c fr, w.heap[i]? = some (.cells c e fr) → ¬ T i) : w'.ownsRow base e size v n xs := by
  refine ⟨h.1, ?_⟩
  rcases h.2 with h0 | ⟨g, cap, cur, hv, hb, hg, r⟩
  · exact .inl h0
  · exact .inr ⟨g, cap, cur, hv, hb, (t.block g (Array.getElem?_eq_some_iff.1 hg).1 (hn g cur _ hg)).trans hg, r⟩
/-- The disk of the document stands while other kinds of blocks are turned. -/
theorem RefD.turned {T : Nat → Prop} (h : RefD w base r R) (t : Turned w w' T) (hn : ∀ i c ty fr, w.heap[i]? = some (.cells c ty fr) → (ty = 52 ∨ ty = 26 ∨ ty = 90 ∨ ty = 5) → ¬ T i) : RefD w' base r R := by
  obtain ⟨pg, pc, cA, cc, ps, cs, hb, hbr, hop, hrp, hoc, hrc⟩ := h
  exact ⟨pg, pc, cA, cc, ps, cs, t.blk hb (hn r _ _ _ hb (.inl rfl)), hbr, own_turned hop t (fun i c fr h => hn i c _ fr h (.inr (.inl rfl))), hrp.turned t (fun i c fr h => hn i c _ fr h (.inr (.inr (.inr rfl)))),
    own_turned hoc t (fun i c fr h => hn i c _ fr h (.inr (.inr (.inl rfl)))), hrc.turned t (fun i c fr h => hn i c _ fr h (.inr (.inr (.inr rfl))))⟩
theorem RefD.below (h : RefD w base r R) (hb : Below w.heap.size w w') : RefD w' base r R := h.turned (Turned.of_below hb (fun _ => False)) (fun _ _ _ _ _ _ => id)
theorem RefD.drew (h : RefD w base r R) : RefD w.drew base r R := h.below ((Below.refl _ w).drew)
/-- .. and while the other disk is. -/
theorem RefD.disk {d : Dk} {S : St} (h : RefD w base r R) (hd : Dsk w d S) (t : Turned w w' d.own) : RefD w' base r R := h.turned t fun i c ty fr hi hty ho => by
  obtain ⟨_, hr, ⟨cur, hg, _⟩, k, _, hm⟩ := hd
  obtain ⟨es, cl, hm⟩ := hm.kind
  unfold Blk at hr
  rcases ho with rfl | rfl | rfl
  · rw [hr] at hi; simp at hi; obtain ⟨_, rfl, _⟩ := hi; revert hty; decide
  · rw [hg] at hi; simp at hi; obtain ⟨_, rfl, _⟩ := hi; revert hty; decide
  · rw [hm] at hi; simp at hi
theorem Dsk.ref {d : Dk} {S : St} (hd : Dsk w d S) (t : Turned w w' (RefK w base)) : Dsk w' d S := hd.turned t fun i ho hk => by
  obtain ⟨_, c, ty, fr, hi, hty⟩ := hk
  obtain ⟨_, hr, ⟨cur, hg, _⟩, k, _, hm⟩ := hd
  obtain ⟨es, cl, hm⟩ := hm.kind
  unfold Blk at hr
  rcases ho with rfl | rfl | rfl
  · rw [hr] at hi; simp at hi; obtain ⟨_, rfl, _⟩ := hi; revert hty; decide
  · rw [hg] at hi; simp at hi; obtain ⟨_, rfl, _⟩ := hi; revert hty; decide
  · rw [hm] at hi; simp at hi
theorem Blk.ref {b : Nat} {t : TypeId} {cs : List Value} (hb : Blk w b t cs) (h : t ≠ 52 ∧ t ≠ 26 ∧ t ≠ 90) (tu : Turned w w' (RefK w base)) : Blk w' b t cs := tu.blk hb fun hk => by
  obtain ⟨_, c, ty, fr, hi, hty⟩ := hk
  unfold Blk at hb
  rw [hb] at hi; simp at hi; obtain ⟨_, rfl, _⟩ := hi
  rcases hty with e | e | e
  · exact h.1 e
  · exact h.2.1 e
  · exact h.2.2 e
theorem Turned.ref_new {W : World} (h : Below W.heap.size W w) (t : Turned w w' (RefK w W.heap.size)) : Below W.heap.size W w' := Turned.only_new h t h.size fun i hi => hi.1
theorem Turned.ref_trans {w1 w2 : World} (h : Turned w w1 (RefK w base)) (k : Turned w1 w2 (RefK w1 base)) : Turned w w2 (RefK w base) :=
  ⟨k.os.trans h.os, k.tape.trans h.tape, k.output.trans h.output, Nat.le_trans h.size k.size, fun i hi hn => by
    have e := h.block i hi hn
    exact (k.block i (Nat.lt_of_lt_of_le hi h.size) (fun ⟨h1, c, t, fr, h2, h3⟩ => hn ⟨h1, c, t, fr, e ▸ h2, h3⟩)).trans e⟩
theorem RefD.kr (h : RefD w base r R) : RefK w base r := by obtain ⟨_, _, _, _, _, _, hb, hbr, _⟩ := h; exact ⟨hbr, _, _, _, hb, .inl rfl⟩
theorem RefD.cells (h : RefD w base r R) : ∃ pg pc cA cc, w.cell? ⟨r, 0, none⟩ = some (.slice (some ⟨pg, 0, none⟩) R.pages.length pc) ∧ w.cell? ⟨r, 1, none⟩ = some (.slice cA R.cache.length cc) ∧ w.cell? ⟨r, 2, none⟩ = some (.int .i64 R.fuse) ∧ w.cell? ⟨r, 3, none⟩ = some (.bool R.dead) ∧ w.cell? ⟨r, 4, none⟩ = some (.int .i64 (R.done : Int)) := by
  obtain ⟨pg, pc, cA, cc, _, _, hb, _⟩ := h
  exact ⟨pg, pc, cA, cc, hb.cell 0, hb.cell 1, hb.cell 2, hb.cell 3, hb.cell 4⟩
theorem RefD.fz (h : RefD w base r R) (i : Nat) : w.frozen? ⟨r, i, none⟩ = false := by obtain ⟨_, _, _, _, _, _, hb, _⟩ := h; exact hb.frozen i
end

def rhasE (R : RSt) (p : Int) : Int := if R.dead = true then 10 else if p < 0 ∨ (R.pages.length : Int) ≤ p then 2 else 0
theorem rcheck_any (base r : Nat) (R : RSt) (p : Int) (w : World) (h : RefD w base r R) :
    Calls Try.prog 41 #[.pointer (some ⟨r, 0, none⟩), .int .i64 p] w fun e w' => e = .returned (.int .i64 (rhasE R p)) ∧ w = w' := by
  obtain ⟨pg, pc, cA, cc, c0, c1, c2, c3, c4⟩ := h.cells
  unfold rhasE
  cases hd : R.dead with
  | true =>
    rw [hd] at c3
    simp only [if_true]
    clear hd h c0 c1 c2 c4
    go_enter Try.func41, Try.ntmps41
    go_wp2
    go_ret
    exact ⟨rfl, rfl⟩
  | false =>
    rw [hd] at c3
    simp only [Bool.false_eq_true, if_false]
    clear hd h c1 c2 c4
    by_cases hp : p < 0 ∨ (R.pages.length : Int) ≤ p
    · rw [if_pos hp]
      by_cases h0 : p < 0
      · clear hp
        go_enter Try.func41, Try.ntmps41
        go_wp2
        go_ret
        exact ⟨rfl, rfl⟩
      · have h1 : (R.pages.length : Int) ≤ p := by omega
        clear hp
        go_enter Try.func41, Try.ntmps41
        go_wp2
        go_ret
        exact ⟨rfl, rfl⟩
    · rw [if_neg hp]
      have h0 : ¬ p < 0 := by omega
      have h1 : ¬ (R.pages.length : Int) ≤ p := by omega
      clear hp
      go_enter Try.func41, Try.ntmps41
      go_wp2
      go_ret
      exact ⟨rfl, rfl⟩
theorem twin_any (A : Option Addr) (n c : Nat) (xs : List UInt8) (w : World) (hr : Rd w A n xs) (hl : n ≤ 4096) :
    Calls Try.prog 43 #[.slice A n c] w fun e w' => ∃ A' c', e = .returned (.slice A' n c') ∧ Hid (w'.ownsRow w.heap.size 5 1 (.slice A' n c') n (cellsOf xs) ∧ Below w.heap.size w w') := by
  have HO := kept (World.ownsRow_made (base := w.heap.size) (e := 5) (size := 1) w #[] 0 (Nat.le_refl _) (Nat.zero_le _) rfl)
  have HR := kept (hr.alloc (.cells #[] 5))
  have HB := kept ((Below.refl w.heap.size w).alloc (Nat.le_refl _) (.cells #[] 5))
  clear hr
  go_enter Try.func43, Try.ntmps43
  go_wp2_with (at_builtin; refine wpList_append_rd (xs := []) rfl _ _ 26 rfl w.heap.size 5 rfl rfl Try.underlying26 (by kernel_rfl) HO.out HR.out (by omega) (by simp) ?_; intro A' c' w1 hown1 hb1; have HO1 := kept hown1; have HB1 := kept hb1; clear hown1 hb1)
  go_ret
  have e : 0 + n = n := by omega
  have h1 := HO1.out
  rw [List.nil_append, e] at h1
  exact ⟨A', c', by simp, kept ⟨h1, HB.out.trans HB1.out⟩⟩
def RSt.did (R : RSt) : RSt := { R with done := R.done + 1, fuse := if 0 < R.fuse then R.fuse - 1 else R.fuse, dead := if R.fuse = 1 then true else R.dead }
theorem RefD.set {w : World} {base r : Nat} {R R' : RSt} (h : RefD w base r R) (hp : R'.pages = R.pages) (hc : R'.cache = R.cache) {w' : World} (hg : Turned w w' (fun i => i = r))
    (hb : ∀ pv cv, Blk w r 52 [pv, cv, .int .i64 R.fuse, .bool R.dead, .int .i64 (R.done : Int)] → Blk w' r 52 [pv, cv, .int .i64 R'.fuse, .bool R'.dead, .int .i64 (R'.done : Int)]) : RefD w' base r R' := by
  obtain ⟨pg, pc, cA, cc, ps, cs, hbk, hbr, hop, hrp, hoc, hrc⟩ := h
  unfold Blk at hbk
  have hne : ∀ i c ty fr, w.heap[i]? = some (.cells c ty fr) → ty ≠ 52 → ¬ i = r := fun i c ty fr hi hty e => by
    subst e; rw [hbk] at hi; simp at hi; exact hty hi.2.1.symm
  refine ⟨pg, pc, cA, cc, ps, cs, ?_, hbr, ?_, ?_, ?_, ?_⟩
  · rw [hp, hc]; exact hb _ _ hbk
  · rw [hp]; exact own_turned hop hg (fun i c fr h => hne i c _ fr h (by decide))
  · rw [hp]; exact hrp.turned hg (fun i c fr h => hne i c _ fr h (by decide))
  · rw [hc]; exact own_turned hoc hg (fun i c fr h => hne i c _ fr h (by decide))
  · rw [hc]; exact hrc.turned hg (fun i c fr h => hne i c _ fr h (by decide))
theorem Turned.cell_r {w w' : World} {r : Nat} (h : Turned w w' (fun i => i = r)) (i : Nat) (u : Value) : Turned w (w'.setCell ⟨r, i, none⟩ u) (fun i => i = r) := h.setCell (fun _ => rfl) u
theorem Turned.ref_of {w w' : World} {base r : Nat} {R : RSt} (h : RefD w base r R) (t : Turned w w' (fun i => i = r)) : Turned w w' (RefK w base) := t.mono fun i _ e => by subst e; exact h.kr
theorem did_any (base r : Nat) (R : RSt) (w : World) (h : RefD w base r R) (hf : -1 ≤ R.fuse) (hf2 : R.fuse ≤ 9223372036854775807) (hd : R.done ≤ 1000000) :
    Calls Try.prog 44 #[.pointer (some ⟨r, 0, none⟩)] w fun e w' => e = .returned (.tuple #[]) ∧ Hid (RefD w' base r R.did ∧ Turned w w' (RefK w base)) := by
  obtain ⟨pg, pc, cA, cc, c0, c1, c2, c3, c4⟩ := h.cells
  have f2 := h.fz 2
  have f3 := h.fz 3
  have f4 := h.fz 4
  have HR := kept h
  have t1 : Turned w (w.setCell ⟨r, 4, none⟩ (.int .i64 ((R.done : Int) + 1))) (fun i => i = r) := (Turned.refl w _).cell_r 4 _
  have e1 : ((R.done + 1 : Nat) : Int) = (R.done : Int) + 1 := by omega
  by_cases h1 : R.fuse = 1
  · have t3 := (t1.cell_r 2 (.int .i64 0)).cell_r 3 (.bool true)
    have H : Hid (RefD (((w.setCell ⟨r, 4, none⟩ (.int .i64 ((R.done : Int) + 1))).setCell ⟨r, 2, none⟩ (.int .i64 0)).setCell ⟨r, 3, none⟩ (.bool true)) base r R.did ∧ Turned w (((w.setCell ⟨r, 4, none⟩ (.int .i64 ((R.done : Int) + 1))).setCell ⟨r, 2, none⟩ (.int .i64 0)).setCell ⟨r, 3, none⟩ (.bool true)) (RefK w base)) :=
      kept ⟨h.set (R' := R.did) rfl rfl t3 (fun pv cv hb => by
        have := ((hb.set_ 4 (.int .i64 ((R.done : Int) + 1))).set_ 2 (.int .i64 0)).set_ 3 (.bool true)
        simp only [RSt.did, h1, e1]
        simpa using this), t3.ref_of h⟩
    rw [h1] at c2
    clear h t1 t3 e1 h1 c0 c1
    go_enter Try.func44, Try.ntmps44
    go_wp2
    go_end0
    exact ⟨rfl, H⟩
  by_cases h0 : 0 < R.fuse
  · have t3 := t1.cell_r 2 (.int .i64 (R.fuse - 1))
    have H : Hid (RefD ((w.setCell ⟨r, 4, none⟩ (.int .i64 ((R.done : Int) + 1))).setCell ⟨r, 2, none⟩ (.int .i64 (R.fuse - 1))) base r R.did ∧ Turned w ((w.setCell ⟨r, 4, none⟩ (.int .i64 ((R.done : Int) + 1))).setCell ⟨r, 2, none⟩ (.int .i64 (R.fuse - 1))) (RefK w base)) :=
      kept ⟨h.set (R' := R.did) rfl rfl t3 (fun pv cv hb => by
        have := (hb.set_ 4 (.int .i64 ((R.done : Int) + 1))).set_ 2 (.int .i64 (R.fuse - 1))
        simp only [RSt.did, h1, h0, e1, if_true, if_false]
        simpa using this), t3.ref_of h⟩
    have hz : (R.fuse - 1 == 0) = false := by simp; omega
    have hm : 1 ≤ R.fuse := by omega
    clear h t1 t3 e1 h1 c0 c1
    go_enter Try.func44, Try.ntmps44
    go_wp2
    go_end0
    exact ⟨rfl, H⟩
  · have H : Hid (RefD (w.setCell ⟨r, 4, none⟩ (.int .i64 ((R.done : Int) + 1))) base r R.did ∧ Turned w (w.setCell ⟨r, 4, none⟩ (.int .i64 ((R.done : Int) + 1))) (RefK w base)) :=
      kept ⟨h.set (R' := R.did) rfl rfl t1 (fun pv cv hb => by
        have := hb.set_ 4 (.int .i64 ((R.done : Int) + 1))
        simp only [RSt.did, h1, h0, e1, if_false]
        simpa using this), t1.ref_of h⟩
    clear h t1 e1 h1 c0 c1
    go_enter Try.func44, Try.ntmps44
    go_wp2
    go_end0
    exact ⟨rfl, H⟩
end Go.Proofs.Ytfmljiidgaoihaa
