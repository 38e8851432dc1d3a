/-
  terrierref03.Disk: Read, Write.
-/
import Derived.Test.YtfmljiidgaoihaaRfb
import Derived.Test.YtfmljiidgaoihaaRfl
import Derived.Deep.RegionLaw
import Derived.Test.YtfmljiidgaoihaaDy
namespace Go.Proofs.Ytfmljiidgaoihaa
open Go.ChangeShapes Go.WideShapes Go.ChangeAt Go.RowKit
set_option linter.unusedVariables false

theorem rread_no (base r : Nat) (R : RSt) (p : Int) (w : World) (h : RefD w base r R) (hc : rhasE R p ≠ 0) :
    Calls Try.prog 24 #[.pointer (some ⟨r, 0, none⟩), .int .i64 p] w fun e w' => e = .returned (.tuple #[.slice none 0 0, .int .i64 (rhasE R p)]) ∧ w = w' := by
  have H := kept (rcheck_any base r R p w h)
  have hb : (rhasE R p != 0) = true := by simp [hc]
  clear h hc
  generalize rhasE R p = c at H hb ⊢
  go_enter Try.func24, Try.ntmps24
  go_wp2_with (first | (go_at_call 41; (with_reducible refine (H.out).mono ?_); rintro e w' ⟨rfl, rfl⟩))
  go_ret2
  exact ⟨rfl, rfl⟩
theorem Sim.few' {S : St} {R : RSt} (h : Sim S R) (hd : S.done ≤ 10000) : R.cache.length ≤ 100000 := by have := h.few; rw [h.done] at this; omega
theorem rread_ok (base r : Nat) (S : St) (R : RSt) (p : Int) (w : World) (h : RefD w base r R) (hs : Sim S R) (hf : S.fuse ≠ 0) (hp0 : 0 ≤ p) (hp : p < (S.pages.length : Int)) (hd : S.done ≤ 10000) :
    Calls Try.prog 24 #[.pointer (some ⟨r, 0, none⟩), .int .i64 p] w fun e w' => ∃ A c, e = .returned (.tuple #[.slice A 256 c, .int .i64 0]) ∧ Hid (Rd w' A 256 (S.page p) ∧ Below w.heap.size w w') := by
  have hz : rhasE R p = 0 := by rw [hs.hasE, if_neg hf, if_neg (by omega)]
  have H := kept (rcheck_any base r R p w h)
  rw [hz] at H
  obtain ⟨q, rfl⟩ := Int.eq_ofNat_of_zero_le hp0
  have hq : q < R.pages.length := by rw [hs.pages]; omega
  have HF := hs.find (p := q) (by omega)
  obtain ⟨pg, pc, cA, cc, c0, c1, c3, hpg, hen⟩ := h.opened
  rcases first_ix R.cache (q : Int) with ⟨i, hi, k1, k2, k3⟩ | ⟨k2, k3⟩
  · have HA := kept (at_found base r R (q : Int) i w h hi k1 k2 (hs.few' hd))
    obtain ⟨g, v, rfl, z1, z2, b, c, rfl, hc, hr⟩ := hen i hi
    rw [k3] at HF
    have HX : Hid (R.cache[i].2 = S.page (q : Int)) := kept HF
    have HT := kept (twin_any (some ⟨b, 0, none⟩) 256 c _ w hr (by omega))
    have hin : (i : Int) < (R.cache.length : Int) := by omega
    have hsm := hs.few' hd
    clear HF hen hpg h k1 k2 k3 z1 hr hf hz hs hd
    go_enter Try.func24, Try.ntmps24
    go_wp2_with (first | (go_at_call 41; (with_reducible refine (H.out).mono ?_); rintro e w' ⟨rfl, rfl⟩) | (go_at_call 42; (with_reducible refine (HA.out).mono ?_); rintro e w' ⟨rfl, rfl⟩) | (go_at_call 43; (with_reducible refine (HT.out).mono ?_); rintro e w2 ⟨A2, c2, rfl, h2⟩))
    go_ret2
    exact ⟨A2, c2, rfl, kept ⟨HX.out ▸ Rd.of_own h2.out.1, h2.out.2⟩⟩
  · have HA := kept (at_none base r R (q : Int) w h k2 (hs.few' hd))
    obtain ⟨v, z1, b, c, rfl, hc, hr⟩ := hpg q hq
    rw [k3] at HF
    have HX : Hid (R.pages[q] = S.page (q : Int)) := kept (by rw [← HF]; simp [hq])
    have HT := kept (twin_any (some ⟨b, 0, none⟩) 256 c _ w hr (by omega))
    have hqi : (q : Int) < (R.pages.length : Int) := by omega
    clear HF hen hpg h k2 k3 hr hf hz hs hd
    go_enter Try.func24, Try.ntmps24
    go_wp2_with (first | (go_at_call 41; (with_reducible refine (H.out).mono ?_); rintro e w' ⟨rfl, rfl⟩) | (go_at_call 42; (with_reducible refine (HA.out).mono ?_); rintro e w' ⟨rfl, rfl⟩) | (go_at_call 43; (with_reducible refine (HT.out).mono ?_); rintro e w2 ⟨A2, c2, rfl, h2⟩))
    go_ret2
    exact ⟨A2, c2, rfl, kept ⟨HX.out ▸ Rd.of_own h2.out.1, h2.out.2⟩⟩

/-! ### Write -/
theorem rwrite_no (base r : Nat) (R : RSt) (p : Int) (A : Option Addr) (n cp : Nat) (w : World) (h : RefD w base r R) (hc : rhasE R p ≠ 0) :
    Calls Try.prog 23 #[.pointer (some ⟨r, 0, none⟩), .int .i64 p, .slice A n cp] w fun e w' => e = .returned (.int .i64 (rhasE R p)) ∧ w = w' := by
  have H := kept (rcheck_any base r R p w h)
  have hb : (rhasE R p != 0) = true := by simp [hc]
  clear h hc
  generalize rhasE R p = c at H hb ⊢
  go_enter Try.func23, Try.ntmps23
  go_wp2_with (first | (go_at_call 41; (with_reducible refine (H.out).mono ?_); rintro e w' ⟨rfl, rfl⟩))
  go_ret
  exact ⟨rfl, rfl⟩
theorem rwrite_form (base r : Nat) (R : RSt) (p : Int) (A : Option Addr) (n cp : Nat) (w : World) (h : RefD w base r R) (hc : rhasE R p = 0) (hn : n ≠ 256) :
    Calls Try.prog 23 #[.pointer (some ⟨r, 0, none⟩), .int .i64 p, .slice A n cp] w fun e w' => e = .returned (.int .i64 4) ∧ w = w' := by
  have H := kept (rcheck_any base r R p w h)
  rw [hc] at H
  have hb : ((n : Int) != 256) = true := by simp; omega
  clear h hc hn
  go_enter Try.func23, Try.ntmps23
  go_wp2_with (first | (go_at_call 41; (with_reducible refine (H.out).mono ?_); rintro e w' ⟨rfl, rfl⟩))
  go_ret
  exact ⟨rfl, rfl⟩
theorem ents_set (cs : List (Int × Value)) (i : Nat) (hi : i < cs.length) (u : Value) : ents (cs.set i (cs[i].1, u)) = (ents cs).set (i * 2 + 1) u := by
  induction cs generalizing i with
  | nil => simp at hi
  | cons c cs ih =>
    have e : ents (c :: cs) = .int .i64 c.1 :: c.2 :: ents cs := rfl
    cases i with
    | zero => rw [List.set_cons_zero]; rfl
    | succ i =>
      rw [List.set_cons_succ]
      have hi' : i < cs.length := by simpa using hi
      have e3 : ents (c :: cs.set i ((c :: cs)[i + 1].1, u)) = .int .i64 c.1 :: c.2 :: ents (cs.set i (cs[i].1, u)) := rfl
      rw [e3, ih i hi', e]
      have e2 : (i + 1) * 2 + 1 = i * 2 + 1 + 1 + 1 := by omega
      rw [e2]
      rfl
/-- A cell of a row of one's own is written. -/
theorem own_set {w : World} {base : Nat} {e : TypeId} {size n : Nat} {g c : Nat} {xs : List Value} (h : w.ownsRow base e size (.slice (some ⟨g, 0, none⟩) n c) n xs) {k : Nat} (hk : k < n * size) (u : Value) :
    (w.setCell ⟨g, k, none⟩ u).ownsRow base e size (.slice (some ⟨g, 0, none⟩) n c) n (xs.set k u) := by
  refine ⟨by rw [List.length_set]; exact h.1, ?_⟩
  rcases h.2 with ⟨h0, _⟩ | ⟨g', cap, cur, hv, hb, hg, h1, h2, h3, h4⟩
  · cases h0
  · injection hv with hA _ hcap
    injection hA with hA
    injection hA with hA
    subst hA
    subst hcap
    refine .inr ⟨g, c, cur.setIfInBounds k u, rfl, hb, by simp [World.setCell, Array.getElem?_modify, hg], h1, h2, by simpa using h3, ?_⟩
    rw [← h4, Array.toList_setIfInBounds, List.take_set]
theorem own_frozen {w : World} {base : Nat} {e : TypeId} {size n : Nat} {g c : Nat} {xs : List Value} (h : w.ownsRow base e size (.slice (some ⟨g, 0, none⟩) n c) n xs) (k : Nat) : w.frozen? ⟨g, k, none⟩ = false := by
  rcases h.2 with ⟨h0, _⟩ | ⟨g', cap, cur, hv, hb, hg, _⟩
  · cases h0
  · injection hv with hA
    injection hA with hA
    injection hA with hA
    subst hA
    exact frozen_of_row w g k cur e hg
theorem own_kind {w : World} {base : Nat} {e : TypeId} {size n : Nat} {g c : Nat} {xs : List Value} (h : w.ownsRow base e size (.slice (some ⟨g, 0, none⟩) n c) n xs) : base ≤ g ∧ ∃ cur, w.heap[g]? = some (.cells cur e (0, 0)) := by
  rcases h.2 with ⟨h0, _⟩ | ⟨g', cap, cur, hv, hb, hg, _⟩
  · cases h0
  · injection hv with hA
    injection hA with hA
    injection hA with hA
    subst hA
    exact ⟨hb, cur, hg⟩
theorem rowV_of_own {w : World} {base : Nat} {v : Value} {xs : List UInt8} (h : w.ownsRow base 5 1 v 256 (cellsOf xs)) : RowV w v xs := by
  rcases h.2 with ⟨_, h0⟩ | ⟨g, cap, cur, hv, hb, hg, h1, _⟩
  · omega
  · subst hv
    exact ⟨g, cap, cur, _, rfl, h1, hg, Rd.of_own h⟩
/-- An entry's page is laid anew. -/
theorem RefD.put_old {w : World} {base r : Nat} {R : RSt} (h : RefD w base r R) {i : Nat} (hi : i < R.cache.length) {g : Nat} {c' : Nat} (hA : w.cell? ⟨r, 1, none⟩ = some (.slice (some ⟨g, 0, none⟩) R.cache.length c')) {v : Value} {xs : List UInt8} (hv : RowV w v xs) :
    RefD (w.setCell ⟨g, i * 2 + 1, none⟩ v) base r { R with cache := R.cache.set i (R.cache[i].1, xs) } ∧ Turned w (w.setCell ⟨g, i * 2 + 1, none⟩ v) (RefK w base) ∧ w.frozen? ⟨g, i * 2 + 1, none⟩ = false := by
  obtain ⟨pg, pc, cA, cc, ps, cs, hb, hbr, hop, hrp, hoc, hrc⟩ := h
  have hA' := hb.cell 1
  rw [hA] at hA'
  simp only [List.getElem?_cons_succ, List.getElem?_cons_zero, Option.some.injEq, Value.slice.injEq, true_and] at hA'
  obtain ⟨rfl, rfl⟩ := hA'
  have hic : i < cs.length := by rw [hrc.1]; exact hi
  obtain ⟨hgb, cur, hg⟩ := own_kind hoc
  have t : Turned w (w.setCell ⟨g, i * 2 + 1, none⟩ v) (fun j => j = g) := (Turned.refl w (fun j => j = g)).setCell (T := fun j => j = g) (p := ⟨g, i * 2 + 1, none⟩) (fun _ => rfl) _
  have hne : ∀ j c ty fr, w.heap[j]? = some (.cells c ty fr) → ty ≠ 90 → ¬ j = g := fun j c ty fr hj hty e => by subst e; rw [hg] at hj; simp at hj; exact hty hj.2.1.symm
  refine ⟨⟨pg, pc, some ⟨g, 0, none⟩, c', ps, cs.set i (cs[i].1, v), ?_, hbr, own_turned hop t (fun j c fr hj => hne j c _ fr hj (by decide)), hrp.turned t (fun j c fr hj => hne j c _ fr hj (by decide)), ?_, ?_⟩, ?_, own_frozen hoc _⟩
  · simp only [List.length_set]
    exact t.blk hb (hne r _ _ _ hb (by decide))
  · simp only [List.length_set]
    rw [ents_set cs i hic]
    exact own_set hoc (by omega) v
  · refine ⟨by simp [hrc.1], fun j h1 h2 => ?_⟩
    have hj1 : j < cs.length := by simpa using h1
    have hj2 : j < R.cache.length := by simpa using h2
    simp only [List.getElem_set]
    by_cases hij : i = j
    · subst hij
      simp only [if_true]
      exact ⟨(hrc.2 i hic hi).1, hv.turned t (fun j c fr hj => hne j c _ fr hj (by decide))⟩
    · simp only [hij, if_false]
      exact ⟨(hrc.2 j hj1 hj2).1, (hrc.2 j hj1 hj2).2.turned t (fun j c fr hj => hne j c _ fr hj (by decide))⟩
  · exact t.mono fun j _ e => by subst e; exact ⟨hgb, _, _, _, hg, .inr (.inr rfl)⟩

theorem last_get {α : Type} (l : List α) (a : α) (j : Nat) (hj : j = l.length) (h : j < (l ++ [a]).length) : (l ++ [a])[j] = a := by subst hj; simp
/-- A new entry, its memory grown or not. -/
theorem RefD.put_new {w w1 w2 : World} {base r : Nat} {R : RSt} {p : Int} {xs : List UInt8} {v : Value} {pg pc : Nat} {cA : Option Addr} {cc : Nat} {ps : List Value} {cs : List (Int × Value)} (hb : Blk w r 52 [.slice (some ⟨pg, 0, none⟩) R.pages.length pc, .slice cA R.cache.length cc, .int .i64 R.fuse, .bool R.dead, .int .i64 (R.done : Int)]) (hbr : base ≤ r)
    (hop : w.ownsRow base 26 1 (.slice (some ⟨pg, 0, none⟩) R.pages.length pc) R.pages.length ps) (hrp : RowsP w ps R.pages) (hoc : w.ownsRow base 90 2 (.slice cA R.cache.length cc) R.cache.length (ents cs)) (hrc : RowsC w cs R.cache)
    {A : Option Addr} {c : Nat} (hb1 : Below w.heap.size w w1) (hv : RowV w1 v xs) (hown2 : w2.ownsRow base 90 2 (.slice A (R.cache.length + 1) c) (R.cache.length + 1) (ents cs ++ [.int .i64 p, v]))
    (hg : w1.grownBy w2 (Value.slice cA R.cache.length cc).ownBlock) :
    RefD (w2.setCell ⟨r, 1, none⟩ (.slice A (R.cache.length + 1) c)) base r { R with cache := R.cache ++ [(p, xs)] } ∧ Turned w (w2.setCell ⟨r, 1, none⟩ (.slice A (R.cache.length + 1) c)) (RefK w base) ∧ w2.cell? ⟨r, 1, none⟩ = some (.slice cA R.cache.length cc) ∧ w2.frozen? ⟨r, 1, none⟩ = false := by
  have hkr : RefK w base r := ⟨hbr, _, _, _, hb, .inl rfl⟩
  -- what the memory grown has turned
  have hrow : ∀ j, (Value.slice cA R.cache.length cc).ownBlock = some j → base ≤ j ∧ ∃ cur, w.heap[j]? = some (.cells cur 90 (0, 0)) := by
    intro j hj
    rcases hoc.2 with ⟨h0, _⟩ | ⟨g', cap, cur, hv', hbg, hg', _⟩
    · rw [h0] at hj; cases hj
    · rw [hv'] at hj; cases hj; exact ⟨hbg, cur, hg'⟩
  have t2 : Turned w w2 (fun j => ∃ cur, base ≤ j ∧ w.heap[j]? = some (.cells cur 90 (0, 0))) :=
    (Turned.of_below hb1 _).grown hg (fun j _ e => by obtain ⟨h1, cur, h2⟩ := hrow j e; exact ⟨cur, h1, h2⟩)
  have hne : ∀ j c ty fr, w.heap[j]? = some (.cells c ty fr) → ty ≠ 90 → ¬ (∃ cur, base ≤ j ∧ w.heap[j]? = some (.cells cur 90 (0, 0))) := fun j c ty fr hj hty ⟨cur, _, e⟩ => by rw [e] at hj; simp at hj; exact hty hj.2.1.symm
  have hb2 : Blk w2 r 52 _ := t2.blk hb (hne r _ _ _ hb (by decide))
  have t3 : Turned w2 (w2.setCell ⟨r, 1, none⟩ (.slice A (R.cache.length + 1) c)) (fun j => j = r) := (Turned.refl w2 (fun j => j = r)).setCell (T := fun j => j = r) (p := ⟨r, 1, none⟩) (fun _ => rfl) _
  have hne3 : ∀ j c ty fr, w2.heap[j]? = some (.cells c ty fr) → ty ≠ 52 → ¬ j = r := fun j c ty fr hj hty e => by subst e; unfold Blk at hb2; rw [hb2] at hj; simp at hj; exact hty hj.2.1.symm
  have hv2 : RowV w2 v xs := by
    obtain ⟨b, cb, cs', fr, rfl, hcb, hbb, hrd⟩ := hv
    refine RowV.keep ⟨b, cb, cs', fr, rfl, hcb, hbb, hrd⟩ fun b' c' cs'' fr' e hb'' => hg.block b' (Array.getElem?_eq_some_iff.1 hb'').1 fun e2 => ?_
    obtain ⟨_, cur, h2⟩ := hrow b' e2.symm
    rw [hb1.block b' (Array.getElem?_eq_some_iff.1 h2).1, h2] at hb''
    simp at hb''
  refine ⟨⟨pg, pc, A, c, ps, cs ++ [(p, v)], ?_, hbr, own_turned (own_turned hop t2 (fun j c fr hj => hne j c _ fr hj (by decide))) t3 (fun j c fr hj => hne3 j c _ fr hj (by decide)),
    (hrp.turned t2 (fun j c fr hj => hne j c _ fr hj (by decide))).turned t3 (fun j c fr hj => hne3 j c _ fr hj (by decide)), ?_, ?_⟩, ?_⟩
  · have := hb2.set_ 1 (.slice A (R.cache.length + 1) c)
    simpa using this
  · have := own_turned hown2 t3 (fun j c fr hj => hne3 j c _ fr hj (by decide))
    rw [ents_append]
    simpa [ents] using this
  · refine ⟨by simp [hrc.1], fun j h1 h2 => ?_⟩
    have hrc3 := (hrc.turned t2 (fun j c fr hj => hne j c _ fr hj (by decide))).turned t3 (fun j c fr hj => hne3 j c _ fr hj (by decide))
    have hv3 := hv2.turned t3 (fun j c fr hj => hne3 j c _ fr hj (by decide))
    by_cases hj : j < cs.length
    · have hj2 : j < R.cache.length := by rw [← hrc.1]; exact hj
      simp only [List.getElem_append_left hj, List.getElem_append_left hj2]
      exact hrc3.2 j hj hj2
    · have e1 : j = cs.length := by simp at h1; omega
      rw [last_get cs _ j e1 h1, last_get R.cache _ j (e1.trans hrc.1) h2]
      exact ⟨rfl, hv3⟩
  · have tk : Turned w w2 (RefK w base) := t2.mono fun j _ ⟨cur, h1, h2⟩ => ⟨h1, _, _, _, h2, .inr (.inr rfl)⟩
    exact ⟨tk.setCell (p := ⟨r, 1, none⟩) (fun _ => hkr) _, hb2.cell 1, hb2.frozen 1⟩

theorem Sim.put_old {S : St} {R : RSt} (h : Sim S R) {p : Int} {xs : List UInt8} {i : Nat} (hi : i < R.cache.length) (hk : R.cache[i].1 = p) (hf : ∀ j (hj : j < R.cache.length), j < i → R.cache[j].1 ≠ p) :
    Sim { S with cache := fun y => if y = p then some xs else S.cache y } { R with cache := R.cache.set i (R.cache[i].1, xs) } := by
  refine ⟨h.pages, h.done, ?_, fun y => ?_, h.dead, h.fuse, h.lo, h.hi, by simpa using h.few⟩
  · have : (R.cache.set i (R.cache[i].1, xs)).map (·.1) = R.cache.map (·.1) := by
      rw [List.map_set]
      apply List.ext_getElem (by simp)
      intro j h1 h2
      rw [List.getElem_set]
      split
      · rename_i e; subst e; simp
      · rfl
    show ((R.cache.set i (R.cache[i].1, xs)).map (·.1)).Nodup
    rw [this]; exact h.keys
  · show rfind (R.cache.set i (R.cache[i].1, xs)) y = _
    rw [hk, rfind_set R.cache p xs i hi hk hf y, h.cache]
theorem Sim.put_new {S : St} {R : RSt} (h : Sim S R) {p : Int} {xs : List UInt8} (hf : ∀ j (hj : j < R.cache.length), R.cache[j].1 ≠ p) (hfew : R.cache.length + 1 ≤ R.done) :
    Sim { S with cache := fun y => if y = p then some xs else S.cache y } { R with cache := R.cache ++ [(p, xs)] } := by
  refine ⟨h.pages, h.done, ?_, fun y => ?_, h.dead, h.fuse, h.lo, h.hi, by simpa using hfew⟩
  · show ((R.cache ++ [(p, xs)]).map (·.1)).Nodup
    rw [List.map_append]
    refine List.nodup_append.2 ⟨h.keys, by simp, fun a ha b hb => ?_⟩
    simp at hb
    subst hb
    obtain ⟨e, he, rfl⟩ := List.mem_map.1 ha
    obtain ⟨j, hj, rfl⟩ := List.getElem_of_mem he
    exact hf j hj
  · show rfind (R.cache ++ [(p, xs)]) y = _
    rw [rfind_append R.cache p xs hf y, h.cache]
set_option maxRecDepth 100000 in
set_option maxHeartbeats 1000000 in
theorem rwrite_old (base r : Nat) (S : St) (R : RSt) (p : Int) (i : Nat) (A : Option Addr) (cp : Nat) (xs : List UInt8) (w : World) (h : RefD w base r R) (hs : Sim S R) (hc : rhasE R p = 0) (hi : i < R.cache.length) (hk : R.cache[i].1 = p) (hfi : ∀ j (hj : j < R.cache.length), j < i → R.cache[j].1 ≠ p)
    (hr : Rd w A 256 xs) (hd : S.done ≤ 10000) :
    Calls Try.prog 23 #[.pointer (some ⟨r, 0, none⟩), .int .i64 p, .slice A 256 cp] w fun e w' => e = .returned (.int .i64 0) ∧ Hid (RefD w' base r ({ R with cache := R.cache.set i (R.cache[i].1, xs) } : RSt).did ∧ Turned w w' (RefK w base)) := by
  have H := kept (rcheck_any base r R p w h)
  rw [hc] at H
  have HA := kept (at_found base r R p i w h hi hk hfi (hs.few' hd))
  have HD := kept h
  have HRD := kept hr
  obtain ⟨pg, pc, cA, cc, c0, c1, c3, hpg, hen⟩ := h.opened
  obtain ⟨g, v, rfl, z1, z2, hrow⟩ := hen i hi
  have hsm := hs.few' hd
  have hin : (i : Int) < (R.cache.length : Int) := by omega
  have hB0 : Below w.heap.size w w.drew := (Below.refl _ w).drew
  have HDI : Hid (-1 ≤ R.fuse ∧ R.fuse ≤ 9223372036854775807 ∧ R.done ≤ 1000000) := kept ⟨hs.lo, hs.hi, by rw [hs.done]; omega⟩
  have hgl : g < w.heap.size := World.block_lt_of_cell? w _ z1
  have HGL := kept hgl
  have HRL := kept (World.block_lt_of_cell? w _ c0)
  clear hen hpg h hk hfi hr hc hd hs hrow c3 hgl
  go_enter Try.func23, Try.ntmps23
  go_wp2_with (first | (go_at_call 41; (with_reducible refine (H.out).mono ?_); rintro e w' ⟨rfl, rfl⟩) | (go_at_call 42; (with_reducible refine (HA.out).mono ?_); rintro e w' ⟨rfl, rfl⟩))
  go_region_with (go_at_call 43; (with_reducible refine (twin_any _ _ _ _ _ (HRD.out.drew) (by omega)).mono ?_); rintro e w1 ⟨A1, k1, rfl, h1⟩; have HO1 := h1; have HB1 : Hid (Below w.heap.size w w1) := kept (hB0.trans h1.out.2); have d1 : w1.cell? ⟨r, 1, none⟩ = some (.slice (some ⟨g, 0, none⟩) R.cache.length cc) := (HB1.out.cell (p := ⟨r, 1, none⟩) HRL.out).trans c1; have y2 : w1.cell? ⟨g, i * 2 + 1, none⟩ = some v := (HB1.out.cell (p := ⟨g, i * 2 + 1, none⟩) HGL.out).trans z2; have HP : Hid (RefD (w1.setCell ⟨g, i * 2 + 1, none⟩ (.slice A1 256 k1)) base r { R with cache := R.cache.set i (R.cache[i].1, xs) } ∧ Turned w1 (w1.setCell ⟨g, i * 2 + 1, none⟩ (.slice A1 256 k1)) (RefK w1 base) ∧ w1.frozen? ⟨g, i * 2 + 1, none⟩ = false) := kept ((HD.out.below HB1.out).put_old hi d1 (rowV_of_own h1.out.1)); have y3 : w1.frozen? ⟨g, i * 2 + 1, none⟩ = false := HP.out.2.2; clear h1)
  all_goals
    have HC := kept (did_any base r _ _ HP.out.1 HDI.out.1 HDI.out.2.1 HDI.out.2.2)
    have HT2 : Hid (Turned w (w1.setCell ⟨g, i * 2 + 1, none⟩ (.slice A1 256 k1)) (RefK w base)) := kept (((Turned.of_below HB1.out (RefK w base))).ref_trans HP.out.2.1)
    go_wp2_with (first | (go_at_call 44; (with_reducible refine (HC.out).mono ?_); rintro e w3 ⟨rfl, h3⟩))
    go_ret
    exact ⟨rfl, kept ⟨h3.out.1, HT2.out.ref_trans h3.out.2⟩⟩

theorem alloc_le (w : World) (o : Obj) : w.heap.size ≤ (w.alloc o).heap.size := by simp
theorem new_cells (w : World) (t : TypeId) (cs : List Value) : ∀ j u, cs[j]? = some u → (w.alloc (.cells cs.toArray t)).cell? ((⟨w.heap.size, 0, none⟩ : Addr).add j) = some u := fun j u hj => by
  rw [Addr.add_mid, Nat.zero_add, cell_of_row _ _ j cs.toArray t (0, 0) (heap_alloc_new w _)]
  simpa using hj
/-- append, as one step of a region that draws its order. -/
theorem step_append_mine {P : Program} {w : World} {ops : Array Oper} {o : Oper} {a : Act} {K : Act → World → Prop} {Q : Exit → Act → World → Prop} {E : Prop} (hgd : o.guard = none) (s x : Operand) (t : TypeId)
    (ho : o.op = .call { callee := .builtin .append, args := #[s, x], argTypes := #[t, t] })
    (base : Nat) (e : TypeId) (size bytes : Nat) (ht : P.underlying t = some (.slice e)) {z : Value} (hinfo : (P.info? e).map (fun i => (i.zero, i.size, i.bytes)) = some (some z, size, bytes)) (hzs : z.cells.size = size) (hsz : 0 < size)
    (A : Option Addr) (n c : Nat) (xs : List Value) (hs : a.eval s = .slice A n c) (hown : w.ownsRow base e size (.slice A n c) n xs)
    (ad : Addr) (m k : Nat) (news : List Value) (hx : a.eval x = .slice (some ad) m k) (hl : news.length = m * size) (hm : 0 < m) (hnews : ∀ j u, news[j]? = some u → w.cell? (ad.add j) = some u) (h1 : ∀ u ∈ news, u.oneCell' = true)
    (h63 : n + m ≤ maxLen) (hbytes : (n + m) * bytes ≤ 140737488355328) (hbase : base ≤ w.heap.size)
    (h : ∀ A' c' w', w'.ownsRow base e size (.slice A' (n + m) c') (n + m) (xs ++ news) → w.grownBy w' (Value.slice A n c).ownBlock → K (a.put o.dst (.slice A' (n + m) c')) w') :
    if Region.wanted o (yielded ops a.tmps) = true then Oper.wp P o a w K Q else E := by
  rw [if_pos (by simp [Region.wanted, hgd])]
  obtain ⟨i, hi, hz, hsize, hby⟩ := info_parts hinfo
  refine wp_append_own w s x t ho base e i z size bytes ht hi hz hsize hby hzs hsz _ n xs hs hown ad m k news hx hl hnews h1 h63 hbytes hbase fun v' w' h2 h3 _ => ?_
  rcases h2.2 with ⟨_, h0⟩ | ⟨g, cap, cur, hv, _⟩
  · omega
  · subst hv
    exact h _ _ _ h2 h3
set_option maxRecDepth 100000 in
set_option maxHeartbeats 1000000 in
theorem rwrite_new (base r : Nat) (S : St) (R : RSt) (p : Int) (A : Option Addr) (cp : Nat) (xs : List UInt8) (w : World) (h : RefD w base r R) (hs : Sim S R) (hc : rhasE R p = 0) (hfi : ∀ j (hj : j < R.cache.length), R.cache[j].1 ≠ p)
    (hr : Rd w A 256 xs) (hd : S.done ≤ 10000) :
    Calls Try.prog 23 #[.pointer (some ⟨r, 0, none⟩), .int .i64 p, .slice A 256 cp] w fun e w' => e = .returned (.int .i64 0) ∧ Hid (RefD w' base r ({ R with cache := R.cache ++ [(p, xs)] } : RSt).did ∧ Turned w w' (RefK w base)) := by
  have H := kept (rcheck_any base r R p w h)
  rw [hc] at H
  have HA := kept (at_none base r R p w h hfi (hs.few' hd))
  have HRD := kept hr
  have hsm := hs.few' hd
  have hB0 : Below w.heap.size w w.drew := (Below.refl _ w).drew
  have HDI : Hid (-1 ≤ R.fuse ∧ R.fuse ≤ 9223372036854775807 ∧ R.done ≤ 1000000) := kept ⟨hs.lo, hs.hi, by rw [hs.done]; omega⟩
  obtain ⟨pg, pc, cA, cc, ps, cs, hb, hbr, hop, hrp, hoc, hrc⟩ := h
  have c1 : w.cell? ⟨r, 1, none⟩ = some (.slice cA R.cache.length cc) := hb.cell 1
  have HRL := kept hb.lt
  have HBS : Hid (base ≤ w.heap.size) := kept (Nat.le_trans hbr (Nat.le_of_lt hb.lt))
  have HBB := kept hb
  have HBR := kept hbr
  have HOP := kept hop
  have HRP := kept hrp
  have HOC := kept hoc
  have HRC := kept hrc
  clear hfi hr hc hd hs hb hbr hop hrp hoc hrc
  go_enter Try.func23, Try.ntmps23
  go_wp2_with (first | (go_at_call 41; (with_reducible refine (H.out).mono ?_); rintro e w' ⟨rfl, rfl⟩) | (go_at_call 42; (with_reducible refine (HA.out).mono ?_); rintro e w' ⟨rfl, rfl⟩))
  obtain ⟨n, hn⟩ : ∃ n, R.cache.length = n := ⟨_, rfl⟩
  have HN := kept hn
  have HON : Hid (w.ownsRow base 90 2 (.slice cA n cc) n (ents cs)) := kept (by rw [← hn]; exact HOC.out)
  rw [hn] at c1 hsm
  clear hn
  go_region_law (first
    | (go_simp; go_at_call 43; (with_reducible refine (twin_any _ _ _ _ _ (HRD.out.drew) (by omega)).mono ?_); rintro e w1 ⟨A1, k1, rfl, h1⟩; have HB1 : Hid (Below w.heap.size w w1) := kept (hB0.trans h1.out.2); have d1 : w1.cell? ⟨r, 1, none⟩ = some (.slice cA n cc) := (HB1.out.cell (p := ⟨r, 1, none⟩) HRL.out).trans c1; have d2 : ∀ o, (w1.alloc o).cell? ⟨r, 1, none⟩ = some (.slice cA n cc) := fun o => (World.cell?_alloc_lt w1 o ⟨r, 1, none⟩ (Nat.lt_of_lt_of_le HRL.out HB1.out.size)).trans d1)
    | (refine step_append_mine rfl _ _ 50 rfl base 90 2 32 Try.underlying50 (z := .agg #[.int .i64 0, .slice none 0 0]) (by kernel_rfl) rfl (by omega) cA n cc (ents cs) rfl (own_turned HON.out (Turned.of_below (below_on ((Below.refl _ w1).alloc (Nat.le_refl _) _) HB1.out) (fun _ => False)) (fun _ _ _ _ => id)) ⟨w1.heap.size, 0, none⟩ 1 1 [.int .i64 p, .slice A1 256 k1] rfl rfl (by omega) (new_cells w1 90 [.int .i64 p, .slice A1 256 k1]) (fun u hu => by simp at hu; rcases hu with rfl | rfl <;> rfl) (by unfold maxLen; omega) (by omega) (Nat.le_trans HBS.out (Nat.le_trans HB1.out.size (alloc_le _ _))) ?_; intro A2 c2 w2 hown2 hg2; have HP : Hid (RefD (w2.setCell ⟨r, 1, none⟩ (.slice A2 (R.cache.length + 1) c2)) base r { R with cache := R.cache ++ [(p, xs)] } ∧ Turned w (w2.setCell ⟨r, 1, none⟩ (.slice A2 (R.cache.length + 1) c2)) (RefK w base) ∧ w2.cell? ⟨r, 1, none⟩ = some (.slice cA R.cache.length cc) ∧ w2.frozen? ⟨r, 1, none⟩ = false) := kept (RefD.put_new HBB.out HBR.out HOP.out HRP.out HOC.out HRC.out (below_on ((Below.refl _ w1).alloc (Nat.le_refl _) (.cells #[.int .i64 p, .slice A1 256 k1] 90)) HB1.out) ((rowV_of_own h1.out.1).turned (Turned.of_below ((Below.refl _ w1).alloc (Nat.le_refl _) _) (fun _ => False)) (fun _ _ _ _ => id)) (by rw [HN.out]; exact hown2) (by rw [HN.out]; exact hg2)); have y1 : w2.cell? ⟨r, 1, none⟩ = some (.slice cA n cc) := (by have := HP.out.2.2.1; rwa [HN.out] at this); have y2 : w2.frozen? ⟨r, 1, none⟩ = false := HP.out.2.2.2; clear hown2 hg2))
  all_goals
    have HPN : Hid (RefD (w2.setCell ⟨r, 1, none⟩ (.slice A2 (n + 1) c2)) base r { R with cache := R.cache ++ [(p, xs)] } ∧ Turned w (w2.setCell ⟨r, 1, none⟩ (.slice A2 (n + 1) c2)) (RefK w base)) := kept (by have := HP.out; rw [HN.out] at this; exact ⟨this.1, this.2.1⟩)
    have HC := kept (did_any base r _ _ HPN.out.1 HDI.out.1 HDI.out.2.1 HDI.out.2.2)
    go_wp2_with (first | (go_at_call 44; (with_reducible refine (HC.out).mono ?_); rintro e w3 ⟨rfl, h3⟩))
    go_ret
    exact ⟨rfl, kept ⟨h3.out.1, HPN.out.2.ref_trans h3.out.2⟩⟩
end Go.Proofs.Ytfmljiidgaoihaa
