/-
  Texts laid together: Sge.
-/
import Derived.Test.YtepmamfbhocjjaaBTwn
import Derived.Test.YtepmamfbhocjjaaBTu
import Derived.Test.YtepmamfbhocjjaaBRsw
section
/-
  A slice of records as it came in, and as a call has made it; an argument of type []api.KV, and of type api.Query, opened.
-/
namespace Go.Proofs.Ytepmamfbhocjjaa
open Go.ChangeShapes Go.WideShapes Go.ChangeAt Go.RowKit Go.Deep
set_option linter.unusedVariables false
set_option linter.unusedSimpArgs false

/-- The slice at A reads as these records, each with the place where its key and value lie. -/
structure RdKs (w : World) (A : Option Addr) (n : Nat) (ps : List (LayV × Kv)) : Prop where
  ln : ps.length = n
  at_ : ∀ (i : Nat) (h : i < ps.length), ∃ b o, A = some ⟨b, o, none⟩ ∧ (w.cell? ⟨b, o + i * 6, none⟩ = some (.slice ps[i].1.ka ps[i].1.kn ps[i].1.kc) ∧ w.cell? ⟨b, o + i * 6 + 1, none⟩ = some (.slice ps[i].1.va ps[i].1.vn ps[i].1.vc) ∧ w.cell? ⟨b, o + i * 6 + 2, none⟩ = some (.int .i64 ps[i].2.c) ∧ w.cell? ⟨b, o + i * 6 + 3, none⟩ = some (.int .i64 ps[i].2.m) ∧ w.cell? ⟨b, o + i * 6 + 4, none⟩ = some (.int .i64 ps[i].2.v) ∧ w.cell? ⟨b, o + i * 6 + 5, none⟩ = some (.int .i64 ps[i].2.l))
  rd : ∀ p ∈ ps, RdV w p.1 p.2
section
variable {w w' : World} {A : Option Addr} {n : Nat} {ps : List (LayV × Kv)}
theorem RdKs.keeps (h : RdKs w A n ps) (k : Keeps w w') : RdKs w' A n ps := ⟨h.ln, fun i hi => by
  obtain ⟨b, o, e, h0, h1, h2, h3, h4, h5⟩ := h.at_ i hi
  exact ⟨b, o, e, k.cell_ h0, k.cell_ h1, k.cell_ h2, k.cell_ h3, k.cell_ h4, k.cell_ h5⟩, fun p hp => (h.rd p hp).keeps k⟩
theorem RdKs.below (h : RdKs w A n ps) (hb : Below w.heap.size w w') : RdKs w' A n ps := h.keeps (Keeps.of_below hb)
theorem RdKs.nil (w : World) (A : Option Addr) : RdKs w A 0 [] := ⟨rfl, fun i hi => absurd hi (Nat.not_lt_zero _), fun p hp => absurd hp List.not_mem_nil⟩
theorem RdKs.take (h : RdKs w A n ps) (k : Nat) (hk : k ≤ n) : RdKs w A k (ps.take k) := ⟨by rw [List.length_take, h.ln]; omega, fun i hi => by
  have hi' : i < ps.length := by rw [List.length_take] at hi; omega
  simp only [List.getElem_take]
  exact h.at_ i hi', fun p hp => h.rd p (List.mem_of_mem_take hp)⟩
/-- A row of the call's own. -/
theorem RdKs.of_own {base c : Nat} (h : w.ownsRow base 37 6 (.slice A n c) n (ps.flatMap fun p => cellsV p.1 p.2)) (hr : ∀ p ∈ ps, RdV w p.1 p.2) : RdKs w A n ps := by
  have hl := h.1
  rw [flat_len (fun p : LayV × Kv => cellsV p.1 p.2) 6 (fun _ => rfl)] at hl
  have hn : ps.length = n := by omega
  refine ⟨hn, fun i hi => ?_, hr⟩
  obtain ⟨g, rfl, _, _, _, _, hc⟩ := gown_at h (by omega)
  have hx : ∀ r v, (cellsV ps[i].1 ps[i].2)[r]? = some v → r < 6 → w.cell? ⟨g, i * 6 + r, none⟩ = some v := fun r v hv hr => hc _ _ (by rw [flat_at (fun p : LayV × Kv => cellsV p.1 p.2) 6 (fun _ => rfl) ps i hi r hr]; exact hv)
  refine ⟨g, 0, rfl, ?_, ?_, ?_, ?_, ?_, ?_⟩
  · rw [Nat.zero_add]; exact hx 0 _ rfl (by omega)
  · rw [Nat.zero_add]; exact hx 1 _ rfl (by omega)
  · rw [Nat.zero_add]; exact hx 2 _ rfl (by omega)
  · rw [Nat.zero_add]; exact hx 3 _ rfl (by omega)
  · rw [Nat.zero_add]; exact hx 4 _ rfl (by omega)
  · rw [Nat.zero_add]; exact hx 5 _ rfl (by omega)
end
section
variable {H : Type} {enc : TypeId × Value → H} {W : World}
theorem kvs_of {v : Value} {y : DataW H × List MemPlace} {fuel : Nat} (hw : Wt y.1 25) (h' : DataW.trod enc Try.prog W 0 (fun _ => true) true fuel 25 [v] = some y) : ∃ (A : Option Addr) (n c : Nat) (ps : List (LayV × Kv)), v = .slice A n c ∧ RdKs W A n ps ∧ n ≤ c ∧ c ≤ maxLen ∧ n ≤ 140737488351232 := by
  rcases open_slice Try.underlying25 h' with ⟨hcs, _⟩ | ⟨a, len, cap, m, fu, D, Pl, hcs, _, hl, hm, hmm, hy, hr⟩
  · obtain rfl : v = .slice none 0 0 := by simpa using hcs
    exact ⟨none, 0, 0, [], rfl, RdKs.nil _ _, Nat.le_refl _, Nat.zero_le _, Nat.zero_le _⟩
  · obtain rfl : v = .slice (some a) len cap := by simpa using hcs
    simp only [if_true] at hmm
    subst hmm
    rw [hy] at hw
    have hws := wt_slice Try.underlying25 hw
    have hlen : len ≤ 140737488351232 := by have := hws.1; rw [List.length_map, List.length_range] at this; exact reach47 this (by rw [show Try.prog.bytesOf 37 = 80 by kernel_rfl]; omega)
    have ce : Try.prog.cellsOf 37 = 6 := by kernel_rfl
    have each : ∀ i, ∃ q : LayV × Kv, i < len → RdV W q.1 q.2 ∧ W.cell? (a.add (i * 6)) = some (.slice q.1.ka q.1.kn q.1.kc) ∧ W.cell? (a.add (i * 6 + 1)) = some (.slice q.1.va q.1.vn q.1.vc) ∧ W.cell? (a.add (i * 6 + 2)) = some (.int .i64 q.2.c) ∧ W.cell? (a.add (i * 6 + 3)) = some (.int .i64 q.2.m) ∧ W.cell? (a.add (i * 6 + 4)) = some (.int .i64 q.2.v) ∧ W.cell? (a.add (i * 6 + 5)) = some (.int .i64 q.2.l) := fun i => by
      by_cases hi : i < len
      · obtain ⟨cs', hc, htr⟩ := hr i (by omega)
        rw [ce] at hc
        obtain ⟨_, hcl, hat⟩ := World.cells?_some hc
        obtain ⟨L, z, e, hz⟩ := kv_of (x := (D i, Pl i)) (hws.2 i (D i) (by simp [hi])) hcl htr
        subst e
        have h0 := hat 0 (by omega)
        have h1 := hat 1 (by omega)
        have h2 := hat 2 (by omega)
        have h3 := hat 3 (by omega)
        have h4 := hat 4 (by omega)
        have h5 := hat 5 (by omega)
        rw [Go.Proofs.Ytepmamfbhocjjaa.add_add] at h0 h1 h2 h3 h4 h5
        exact ⟨(L, z), fun _ => ⟨hz, h0, h1, h2, h3, h4, h5⟩⟩
      · exact ⟨(⟨none, 0, 0, none, 0, 0⟩, zeroKv), fun h => absurd h hi⟩
    obtain ⟨q, hq⟩ := Classical.axiomOfChoice each
    refine ⟨some a, len, _, (List.range len).map q, rfl, ⟨by simp, fun k hk => ?_, fun p hp => ?_⟩, hl, hm, hlen⟩
    · have hk' : k < len := by simpa using hk
      obtain ⟨h0, h1, h2, h3, h4, h5, h6⟩ := hq k hk'
      have hz := (hq 0 (by omega)).2.1
      obtain ⟨b, o, s⟩ := a
      have hs : s = none := by
        have := World.cell?_spot hz
        simpa [Addr.add] using this
      subst hs
      rw [gadd_at] at h1 h2 h3 h4 h5 h6
      simp only [List.getElem_map, List.getElem_range]
      exact ⟨b, o, rfl, h1, h2, h3, h4, h5, h6⟩
    · obtain ⟨i, hi, rfl⟩ := List.mem_map.1 hp
      exact (hq i (List.mem_range.1 hi)).1
theorem opened_kvs {v : Value} {d : DataW H} {p : List MemPlace} (hw : Wt d 25) (h : DataW.Trod enc Try.prog W 0 (fun _ => true) true 25 v d p) (hs : ∃ A n c, v = .slice A n c) : ∃ (A : Option Addr) (n c : Nat) (ps : List (LayV × Kv)), v = .slice A n c ∧ RdKs W A n ps ∧ n ≤ c ∧ c ≤ maxLen ∧ n ≤ 140737488351232 := by
  obtain ⟨A, n, c, rfl⟩ := hs
  obtain ⟨fuel, hf⟩ := h
  exact kvs_of (y := (d, p)) hw (by simpa [Value.cells] using hf)
set_option maxRecDepth 100000 in
theorem opened_query {r : Reach} {b0 : Nat} {v : Value} {d : DataW H} {p : List MemPlace} (hw : Wt d 24) (hv : Value.okWide Try.prog W r b0 24 v) (h : DataW.Trod enc Try.prog W 0 (fun _ => true) true 24 v d p) : ∃ (L : LayQ) (q : Qy), v = vq L q := by
  obtain ⟨cs, rfl, hsz⟩ := okWide_struct Try.underlying24 hv
  obtain ⟨l⟩ := cs
  have h12 : l.length = 12 := hsz.trans (by kernel_rfl)
  obtain ⟨fuel, hf⟩ := h
  have hf : DataW.trod enc Try.prog W 0 (fun _ => true) true fuel 24 l = some (d, p) := by simpa [Value.cells] using hf
  obtain ⟨m, hg⟩ := fields_of Try.underlying24 (by kernel_rfl) hw hf
  match l, h12 with
  | [c0, c1, c2, c3, c4, c5, c6, c7, c8, c9, c10, c11], _ =>
    obtain ⟨y0, q0, g0⟩ := hg 0 _ (by simp) rfl
    obtain ⟨y1, q1, g1⟩ := hg 1 _ (by simp) rfl
    obtain ⟨y2, q2, g2⟩ := hg 2 _ (by simp) rfl
    obtain ⟨y3, q3, g3⟩ := hg 3 _ (by simp) rfl
    obtain ⟨y4, q4, g4⟩ := hg 4 _ (by simp) rfl
    obtain ⟨y5, q5, g5⟩ := hg 5 _ (by simp) rfl
    obtain ⟨y6, q6, g6⟩ := hg 6 _ (by simp) rfl
    obtain ⟨y7, q7, g7⟩ := hg 7 _ (by simp) rfl
    obtain ⟨y8, q8, g8⟩ := hg 8 _ (by simp) rfl
    obtain ⟨y9, q9, g9⟩ := hg 9 _ (by simp) rfl
    obtain ⟨y10, q10, g10⟩ := hg 10 _ (by simp) rfl
    obtain ⟨y11, q11, g11⟩ := hg 11 _ (by simp) rfl
    obtain ⟨ka, kn, kc, xk, e0, _⟩ := bytes_of q0 g0
    obtain ⟨ea, en, ec, xe, e1, _⟩ := bytes_of q1 g1
    obtain ⟨at_, e2, _⟩ := i64_of g2
    obtain ⟨li, e3, _⟩ := i64_of g3
    obtain ⟨so, e4⟩ := int_of g4
    obtain ⟨b5, e5, _⟩ := DataW.trod_bool Try.underlying4 (x := y5) (by simpa using g5)
    obtain ⟨b6, e6, _⟩ := DataW.trod_bool Try.underlying4 (x := y6) (by simpa using g6)
    obtain ⟨b7, e7, _⟩ := DataW.trod_bool Try.underlying4 (x := y7) (by simpa using g7)
    obtain ⟨m0, e8, _⟩ := i64_of g8
    obtain ⟨m1, e9, _⟩ := i64_of g9
    obtain ⟨c0', e10, _⟩ := i64_of g10
    obtain ⟨c1', e11, _⟩ := i64_of g11
    simp at e0 e1 e2 e3 e4 e5 e6 e7 e8 e9 e10 e11
    subst e0 e1 e2 e3 e4 e5 e6 e7 e8 e9 e10 e11
    exact ⟨⟨ka, kn, kc, ea, en, ec, at_⟩, ⟨so, li, m0, m1, c0', c1', b5, b6, b7⟩, rfl⟩
end
end Go.Proofs.Ytepmamfbhocjjaa
end
