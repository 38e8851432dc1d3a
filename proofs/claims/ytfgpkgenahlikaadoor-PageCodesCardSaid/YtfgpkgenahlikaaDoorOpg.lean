/-
  An argument of type page.Page, opened: its cells, and what it reads as.
-/
import Derived.Test.YtfgpkgenahlikaaDoorPg
import Derived.Deep.Slices
import Derived.Deep.Fields
import Derived.SizedLaws
namespace Go.Proofs.YtfgpkgenahlikaaDoor
open Go.ChangeShapes Go.WideShapes Go.ChangeAt Go.RowKit Go.Deep
set_option linter.unusedVariables false

section
variable {H : Type} {enc : TypeId × Value → H} {W : World} {fuel : Nat}
abbrev Tr (enc : TypeId × Value → H) (W : World) (fuel : Nat) (t : TypeId) (v : Value) (y : DataW H × List MemPlace) : Prop := DataW.trod enc Tryd.prog W 0 (fun _ => true) true fuel t [v] = some y
/-- All slices in it are within the form's own reach. -/
def Wt (d : DataW H) (t : TypeId) : Prop := ∀ n ∈ d.weights Tryd.prog t, n ≤ reachBytes
theorem wt_all {e : TypeId} : ∀ (es : List (DataW H)) (i : Nat) (d : DataW H), es[i]? = some d → ∀ n ∈ d.weights Tryd.prog e, n ∈ DataW.weightsAll Tryd.prog e es
  | x :: r, 0, d, h, n, hn => by
    obtain rfl := Option.some.inj h
    simp [DataW.weightsAll, hn]
  | x :: r, i + 1, d, h, n, hn => by
    have := wt_all r i d (by simpa using h) n hn
    simp [DataW.weightsAll, this]
  | [], i, d, h, n, hn => by simp at h
theorem wt_slice {t e : TypeId} {es sp : List (DataW H)} (ht : Tryd.prog.underlying t = some (.slice e)) (h : Wt (.slice es sp) t) : es.length * Tryd.prog.bytesOf e ≤ reachBytes ∧ ∀ (i : Nat) (d : DataW H), es[i]? = some d → Wt d e := by
  refine ⟨?_, fun i d hd n hn => h n ?_⟩
  · have := h ((es.length + sp.length) * Tryd.prog.bytesOf e) (by simp [DataW.weights, ht])
    rw [Nat.add_mul] at this
    omega
  · simp only [DataW.weights, ht, List.mem_cons, List.mem_append]
    exact .inr (.inl (wt_all es i d hd n hn))
theorem wt_struct {t : TypeId} {fs : Array Field} {ps : List (DataW H)} (ht : Tryd.prog.underlying t = some (.struct fs)) (h : Wt (.agg ps) t) {j : Nat} {f : Field} {d : DataW H} (hf : fs[j]? = some f) (hd : ps[j]? = some d) : Wt d f.type := fun n hn => h n (by
  simp only [DataW.weights, ht]
  exact DataW.weights_mem_each (j := j) (t := f.type) (d := d) (by simp [hf]) hd n hn)
theorem reach47 {n m : Nat} (h : n * m ≤ reachBytes) (hm : 1 ≤ m) : n ≤ 140737488351232 := by
  have : n * 1 ≤ n * m := Nat.mul_le_mul_left n hm
  simp only [reachBytes] at h
  omega
theorem bytes_of {v : Value} {y : DataW H × List MemPlace} (hw : Wt y.1 25) (h : Tr enc W fuel 25 v y) : ∃ (A : Option Addr) (n c : Nat) (xs : List UInt8), v = .slice A n c ∧ Rd W A n xs ∧ n ≤ c ∧ n ≤ 140737488351232 := by
  have h' : DataW.trod enc Tryd.prog W 0 (fun _ => true) true fuel 25 [v] = some y := h
  rcases open_ints Tryd.underlying25 Tryd.underlying5 (by kernel_rfl) h' with ⟨hcs, _⟩ | ⟨a, len, cap, zs, hcs, _, hl0, _, hz0, hy, _⟩
  · obtain rfl : v = .slice none 0 0 := by simpa using hcs
    exact ⟨none, 0, 0, [], rfl, Rd.nil_ _ _, Nat.le_refl _, Nat.zero_le _⟩
  · obtain rfl : v = .slice (some a) len cap := by simpa using hcs
    obtain ⟨xs, hr, h1, h2, _⟩ := opened_bytes (A := some a) (n := len) (c := cap) Tryd.underlying25 Tryd.underlying5 (by kernel_rfl) ⟨fuel, h'⟩
    rw [hy] at hw
    have h3 := (wt_slice Tryd.underlying25 hw).1
    simp only [if_true] at hz0
    have h4 : (lits (H := H) IntKind.u8 (zs.take len)).length = len := by simp [lits]; omega
    rw [h4] at h3
    exact ⟨some a, len, cap, xs, rfl, hr, h1, reach47 h3 (by rw [show Tryd.prog.bytesOf 5 = 1 by kernel_rfl]; omega)⟩
theorem int_of {v : Value} {y : DataW H × List MemPlace} (h : Tr enc W fuel 3 v y) : ∃ x : Int, v = .int .i64 x := by
  obtain ⟨x, e, _, _⟩ := DataW.trod_int Tryd.underlying3 h
  exact ⟨x, by simpa using e⟩
theorem u64_of {v : Value} {y : DataW H × List MemPlace} (h : Tr enc W fuel 22 v y) : ∃ x : Int, v = .int .u64 x ∧ 0 ≤ x ∧ x < 18446744073709551616 := by
  obtain ⟨x, e, _, hw⟩ := DataW.trod_int Tryd.underlying22 h
  have hr : 0 ≤ x ∧ x ≤ 18446744073709551615 := by simpa [Lit.wf, IntKind.min, IntKind.max, IntKind.signed, IntKind.bits] using hw
  exact ⟨x, by simpa using e, hr.1, by omega⟩
theorem spot_none {a : Addr} {v : Value} (h : W.cell? (a.add 0) = some v) : a = ⟨a.block, a.off, none⟩ := by
  have hs := World.cell?_spot h
  obtain ⟨b, o, s⟩ := a
  cases s with
  | none => rfl
  | some s =>
    simp [Addr.add] at hs
theorem nums_of {v : Value} {y : DataW H × List MemPlace} (hw : Wt y.1 26) (h : Tr enc W fuel 26 v y) : ∃ (A : Option Addr) (n c : Nat) (I : List Int), v = .slice A n c ∧ RdNums W A n I ∧ n ≤ 140737488351232 := by
  have h' : DataW.trod enc Tryd.prog W 0 (fun _ => true) true fuel 26 [v] = some y := h
  rcases open_ints Tryd.underlying26 Tryd.underlying3 (by kernel_rfl) h' with ⟨hcs, _⟩ | ⟨a, len, cap, zs, hcs, _, hl, hm, hz, hy, hc, _⟩
  · obtain rfl : v = .slice none 0 0 := by simpa using hcs
    exact ⟨none, 0, 0, [], rfl, RdNums.nil_ _ _, Nat.zero_le _⟩
  · obtain rfl : v = .slice (some a) len cap := by simpa using hcs
    simp only [if_true] at hz
    rw [hy] at hw
    have h3 := (wt_slice Tryd.underlying26 hw).1
    have h4 : (lits (H := H) IntKind.i64 (zs.take len)).length = len := by simp [lits]; omega
    rw [h4] at h3
    refine ⟨some a, len, cap, zs.take len, rfl, ⟨by simp; omega, fun h0 => ?_, fun b o e k hk => ?_⟩, reach47 h3 (by rw [show Tryd.prog.bytesOf 3 = 8 by kernel_rfl]; omega)⟩
    · have := spot_none (hc 0 (by omega))
      exact ⟨a.block, a.off, by rw [← this]⟩
    · obtain rfl := Option.some.inj e
      have hk' : k < len ∧ k < zs.length := by simp at hk; omega
      have := hc k hk'.2
      rw [add_at] at this
      rw [this, List.getElem_take, List.getD_eq_getElem?_getD, List.getElem?_eq_getElem hk'.2]
      rfl
theorem fields_of {t : TypeId} {fs : Array Field} (hs : Tryd.prog.underlying t = some (.struct fs)) (hone : oneCellFields Tryd.prog fs = true) {cs : List Value} {x : DataW H × List MemPlace} (hw : Wt x.1 t) (h : DataW.trod enc Tryd.prog W 0 (fun _ => true) true fuel t cs = some x) :
    ∃ m, ∀ (j : Nat) (f : Field) (hj : j < cs.length), fs[j]? = some f → ∃ y : DataW H × List MemPlace, Wt y.1 f.type ∧ Tr enc W m f.type cs[j] y := by
  obtain ⟨xs, m, _, hx, hcl, hxl, hg⟩ := DataW.trod_struct hs h
  rw [hx] at hw
  refine ⟨m, fun j f hj hf => ?_⟩
  obtain ⟨ho, hk⟩ := hone_of hone j f hf
  have hjf : j < fs.size := (Array.getElem?_eq_some_iff.1 hf).1
  have h1 := hg j f hf
  rw [ho, hk] at h1
  have e : (cs.drop j).take 1 = [cs[j]] := by
    rw [List.drop_eq_getElem_cons hj]
    rfl
  rw [e] at h1
  exact ⟨xs[j]'(by omega), wt_struct hs hw hf (by simp [show j < xs.length by omega]), h1.trans (List.getElem?_eq_getElem (by omega))⟩
theorem item_of {cs : List Value} {x : DataW H × List MemPlace} (hw : Wt x.1 67) (hl : cs.length = 4) (h : DataW.trod enc Tryd.prog W 0 (fun _ => true) true fuel 67 cs = some x) :
    ∃ (L : LayI) (y : Itm), cs = [.slice L.ka L.kn L.kc, .slice L.va L.vn L.vc, .int .i64 L.size, .int .i64 L.more] ∧ RdIt W L y := by
  match cs, hl with
  | [c0, c1, c2, c3], _ =>
    obtain ⟨m, hf⟩ := fields_of Tryd.underlying67 (by kernel_rfl) hw h
    obtain ⟨y0, q0, g0⟩ := hf 0 _ (by simp) rfl
    obtain ⟨y1, q1, g1⟩ := hf 1 _ (by simp) rfl
    obtain ⟨y2, q2, g2⟩ := hf 2 _ (by simp) rfl
    obtain ⟨y3, q3, g3⟩ := hf 3 _ (by simp) rfl
    obtain ⟨ka, kn, kc, xk, e0, r0, l0, m0⟩ := bytes_of q0 g0
    obtain ⟨va, vn, vc, xv, e1, r1, l1, m1⟩ := bytes_of q1 g1
    obtain ⟨sz, e2⟩ := int_of g2
    obtain ⟨mo, e3⟩ := int_of g3
    simp only [List.getElem_cons_zero, List.getElem_cons_succ] at e0 e1 e2 e3
    subst e0 e1 e2 e3
    exact ⟨⟨ka, kn, kc, va, vn, vc, sz, mo⟩, ⟨xk, xv, sz, mo⟩, rfl, r0, r1, rfl, rfl, by show kn ≤ _; omega, by show vn ≤ _; omega⟩
theorem kid_of {cs : List Value} {x : DataW H × List MemPlace} (hw : Wt x.1 69) (hl : cs.length = 2) (h : DataW.trod enc Tryd.prog W 0 (fun _ => true) true fuel 69 cs = some x) :
    ∃ (L : LayK) (y : Kd), cs = [.slice L.ka L.kn L.kc, .int .i64 L.page] ∧ RdKd W L y := by
  match cs, hl with
  | [c0, c1], _ =>
    obtain ⟨m, hf⟩ := fields_of Tryd.underlying69 (by kernel_rfl) hw h
    obtain ⟨y0, q0, g0⟩ := hf 0 _ (by simp) rfl
    obtain ⟨y1, q1, g1⟩ := hf 1 _ (by simp) rfl
    obtain ⟨ka, kn, kc, xk, e0, r0, l0, m0⟩ := bytes_of q0 g0
    obtain ⟨pg, e1⟩ := int_of g1
    simp only [List.getElem_cons_zero, List.getElem_cons_succ] at e0 e1
    subst e0 e1
    exact ⟨⟨ka, kn, kc, pg⟩, ⟨xk, pg⟩, rfl, r0, rfl, by show kn ≤ _; omega⟩
theorem items_of {v : Value} {y : DataW H × List MemPlace} (hw : Wt y.1 23) (h : Tr enc W fuel 23 v y) : ∃ (A : Option Addr) (n c : Nat) (I : List Itm), v = .slice A n c ∧ RdItems W A n I ∧ n ≤ 140737488351232 := by
  have h' : DataW.trod enc Tryd.prog W 0 (fun _ => true) true fuel 23 [v] = some y := h
  rcases open_slice Tryd.underlying23 h' with ⟨hcs, _⟩ | ⟨a, len, cap, m, fu, D, Pl, hcs, _, hl, hm, hmm, hy, hr⟩
  · obtain rfl : v = .slice none 0 0 := by simpa using hcs
    exact ⟨none, 0, 0, [], rfl, RdItems.nil_ _ _, Nat.zero_le _⟩
  · obtain rfl : v = .slice (some a) len cap := by simpa using hcs
    simp only [if_true] at hmm
    subst hmm
    rw [hy] at hw
    have hws := wt_slice Tryd.underlying23 hw
    have hlen : len ≤ 140737488351232 := by have := hws.1; rw [List.length_map, List.length_range] at this; exact reach47 this (by rw [show Tryd.prog.bytesOf 67 = 64 by kernel_rfl]; omega)
    have ce : Tryd.prog.cellsOf 67 = 4 := by kernel_rfl
    have each : ∀ i, ∃ q : LayI × Itm, i < len → RdIt W q.1 q.2 ∧ W.cell? (a.add (i * 4)) = some (.slice q.1.ka q.1.kn q.1.kc) ∧ W.cell? (a.add (i * 4 + 1)) = some (.slice q.1.va q.1.vn q.1.vc) ∧ W.cell? (a.add (i * 4 + 2)) = some (.int .i64 q.1.size) ∧ W.cell? (a.add (i * 4 + 3)) = some (.int .i64 q.1.more) := fun i => by
      by_cases hi : i < len
      · obtain ⟨cs', hc, htr⟩ := hr i (by omega)
        rw [ce] at hc
        obtain ⟨_, hcl, hat⟩ := World.cells?_some hc
        obtain ⟨L, z, e, hz⟩ := item_of (x := (D i, Pl i)) (hws.2 i (D i) (by simp [hi])) hcl htr
        subst e
        have h0 := hat 0 (by omega)
        have h1 := hat 1 (by omega)
        have h2 := hat 2 (by omega)
        have h3 := hat 3 (by omega)
        rw [Go.Proofs.YtfgpkgenahlikaaDoor.add_add] at h0 h1 h2 h3
        exact ⟨(L, z), fun _ => ⟨hz, h0, h1, h2, h3⟩⟩
      · exact ⟨(⟨none, 0, 0, none, 0, 0, 0, 0⟩, ⟨[], [], 0, 0⟩), fun h => absurd h hi⟩
    obtain ⟨q, hq⟩ := Classical.axiomOfChoice each
    refine ⟨some a, len, _, (List.range len).map fun i => (q i).2, rfl, ⟨by simp, fun h0 => ?_, fun b o e k hk => ?_⟩, hlen⟩
    · have := spot_none (by simpa using (hq 0 h0).2.1)
      exact ⟨a.block, a.off, by rw [← this]⟩
    · obtain rfl := Option.some.inj e
      have hk' : k < len := by simpa using hk
      obtain ⟨h0, h1, h2, h3, h4⟩ := hq k hk'
      rw [add_at] at h1 h2 h3 h4
      refine ⟨(q k).1, ?_, h1, h2, h3, h4⟩
      simpa using h0
theorem kids_of {v : Value} {y : DataW H × List MemPlace} (hw : Wt y.1 24) (h : Tr enc W fuel 24 v y) : ∃ (A : Option Addr) (n c : Nat) (I : List Kd), v = .slice A n c ∧ RdKids W A n I ∧ n ≤ 140737488351232 := by
  have h' : DataW.trod enc Tryd.prog W 0 (fun _ => true) true fuel 24 [v] = some y := h
  rcases open_slice Tryd.underlying24 h' with ⟨hcs, _⟩ | ⟨a, len, cap, m, fu, D, Pl, hcs, _, hl, hm, hmm, hy, hr⟩
  · obtain rfl : v = .slice none 0 0 := by simpa using hcs
    exact ⟨none, 0, 0, [], rfl, RdKids.nil_ _ _, Nat.zero_le _⟩
  · obtain rfl : v = .slice (some a) len cap := by simpa using hcs
    simp only [if_true] at hmm
    subst hmm
    rw [hy] at hw
    have hws := wt_slice Tryd.underlying24 hw
    have hlen : len ≤ 140737488351232 := by have := hws.1; rw [List.length_map, List.length_range] at this; exact reach47 this (by rw [show Tryd.prog.bytesOf 69 = 32 by kernel_rfl]; omega)
    have ce : Tryd.prog.cellsOf 69 = 2 := by kernel_rfl
    have each : ∀ i, ∃ q : LayK × Kd, i < len → RdKd W q.1 q.2 ∧ W.cell? (a.add (i * 2)) = some (.slice q.1.ka q.1.kn q.1.kc) ∧ W.cell? (a.add (i * 2 + 1)) = some (.int .i64 q.1.page) := fun i => by
      by_cases hi : i < len
      · obtain ⟨cs', hc, htr⟩ := hr i (by omega)
        rw [ce] at hc
        obtain ⟨_, hcl, hat⟩ := World.cells?_some hc
        obtain ⟨L, z, e, hz⟩ := kid_of (x := (D i, Pl i)) (hws.2 i (D i) (by simp [hi])) hcl htr
        subst e
        have h0 := hat 0 (by omega)
        have h1 := hat 1 (by omega)
        rw [Go.Proofs.YtfgpkgenahlikaaDoor.add_add] at h0 h1
        exact ⟨(L, z), fun _ => ⟨hz, h0, h1⟩⟩
      · exact ⟨(⟨none, 0, 0, 0⟩, ⟨[], 0⟩), fun h => absurd h hi⟩
    obtain ⟨q, hq⟩ := Classical.axiomOfChoice each
    refine ⟨some a, len, _, (List.range len).map fun i => (q i).2, rfl, ⟨by simp, fun h0 => ?_, fun b o e k hk => ?_⟩, hlen⟩
    · have := spot_none (by simpa using (hq 0 h0).2.1)
      exact ⟨a.block, a.off, by rw [← this]⟩
    · obtain rfl := Option.some.inj e
      have hk' : k < len := by simpa using hk
      obtain ⟨h0, h1, h2⟩ := hq k hk'
      rw [add_at] at h1 h2
      refine ⟨(q k).1, ?_, h1, h2⟩
      simpa using h0
set_option maxRecDepth 100000 in
theorem opened_page {r : Reach} {b0 : Nat} {v : Value} {d : DataW H} {p : List MemPlace} (hw : Wt d 28) (hv : Value.okWide Tryd.prog W r b0 28 v) (h : DataW.Trod enc Tryd.prog W 0 (fun _ => true) true 28 v d p) : ∃ (l : Lay) (P : Pg), v = l.val ∧ RdPg W l P := by
  obtain ⟨cs, rfl, hsz⟩ := okWide_struct Tryd.underlying28 hv
  obtain ⟨l⟩ := cs
  have h7 : l.length = 7 := hsz.trans (by kernel_rfl)
  obtain ⟨fuel, hf⟩ := h
  have hf : DataW.trod enc Tryd.prog W 0 (fun _ => true) true fuel 28 l = some (d, p) := by simpa [Value.cells] using hf
  obtain ⟨m, hg⟩ := fields_of Tryd.underlying28 (by kernel_rfl) hw hf
  match l, h7 with
  | [c0, c1, c2, c3, c4, c5, c6], _ =>
    obtain ⟨y0, q0, g0⟩ := hg 0 _ (by simp) rfl
    obtain ⟨y1, q1, g1⟩ := hg 1 _ (by simp) rfl
    obtain ⟨y2, q2, g2⟩ := hg 2 _ (by simp) rfl
    obtain ⟨y3, q3, g3⟩ := hg 3 _ (by simp) rfl
    obtain ⟨y4, q4, g4⟩ := hg 4 _ (by simp) rfl
    obtain ⟨y5, q5, g5⟩ := hg 5 _ (by simp) rfl
    obtain ⟨y6, q6, g6⟩ := hg 6 _ (by simp) rfl
    obtain ⟨kind, e0⟩ := int_of g0
    obtain ⟨txn, e1, t0, t1⟩ := u64_of g1
    obtain ⟨next, e2⟩ := int_of g2
    obtain ⟨a1, n1, k1, I, e3, r3, b3⟩ := items_of q3 g3
    obtain ⟨a2, n2, k2, J, e4, r4, b4⟩ := kids_of q4 g4
    obtain ⟨a3, n3, k3, D, e5, r5, l5, b5⟩ := bytes_of q5 g5
    obtain ⟨a4, n4, k4, N, e6, r6, b6⟩ := nums_of q6 g6
    simp only [List.getElem_cons_zero, List.getElem_cons_succ] at e0 e1 e2 e3 e4 e5 e6
    subst e0 e1 e2 e3 e4 e5 e6
    exact ⟨⟨kind, txn, next, a1, n1, k1, a2, n2, k2, a3, n3, k3, a4, n4, k4⟩, ⟨kind, txn, next, I, J, D, N⟩, rfl, rfl, rfl, rfl, r3, r4, r5, r6, t0, t1, by show n1 ≤ _; omega, by show n2 ≤ _; omega, by show n3 ≤ _; omega, by show n4 ≤ _; omega⟩
end
end Go.Proofs.YtfgpkgenahlikaaDoor
