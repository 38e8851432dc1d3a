/- Rfc Rfd Rfe Rff -/
import Derived.Test.YtcapcobkildmcaaGreatDoorBDa
import Derived.Deep.RegionLaw
import Derived.Test.YtcapcobkildmcaaGreatDoorBDy
import Derived.Deep.RegionHeld3
section
namespace Go.Proofs.YtcapcobkildmcaaGreatDoor
open Go.ChangeShapes Go.WideShapes Go.ChangeAt Go.RowKit
set_option linter.unusedVariables false
set_option linter.unusedSimpArgs false
set_option maxRecDepth 100000
set_option maxHeartbeats 16000000
theorem Sim.few' {S : St} {R : RSt} (h : Sim S R) (hd : S.done ≤ 10000) : R.cache.length ≤ 100000 := by have := h.few; rw [h.done] at this; omega
theorem rwrite_no (base r : Nat) (R : RSt) (p : Int) (A : Option Addr) (n cp : Nat) (w : World) (h : RefD w base r R) (hc : rhasE R p ≠ 0) :
 Calls Tryz.prog 38 #[.pointer (some ⟨r, 0, none⟩), .int .i64 p, .slice A n cp] w fun e w' => e = .returned (.int .i64 (rhasE R p)) ∧ w = w' := by
 have H := kept (rcheck_any base r R p w h); have hb : (rhasE R p != 0) = true := by simp [hc]
 clear h hc; generalize rhasE R p = c at H hb ⊢; go_enter Tryz.func38, Tryz.ntmps38; go_wp2_with (first | (go_at_call 87; (with_reducible refine (H.out).mono ?_); rintro e w' ⟨rfl, rfl⟩))
 go_ret; exact ⟨rfl, rfl⟩
theorem ents_set (cs : List (Int × Value)) (i : Nat) (hi : i < cs.length) (u : Value) : ents (cs.set i (cs[i].1, u)) = (ents cs).set (i * 2 + 1) u := by
 induction cs generalizing i with
 | nil => simp at hi
 | cons c cs ih =>
   have e : ents (c :: cs) = .int .i64 c.1 :: c.2 :: ents cs := rfl; cases i with
   | zero => rw [List.set_cons_zero]; rfl
   | succ i =>
     rw [List.set_cons_succ]; have hi' : i < cs.length := by simpa using hi
     have e3 : ents (c :: cs.set i ((c :: cs)[i + 1].1, u)) = .int .i64 c.1 :: c.2 :: ents (cs.set i (cs[i].1, u)) := rfl; rw [e3, ih i hi', e]; have e2 : (i + 1) * 2 + 1 = i * 2 + 1 + 1 + 1 := by omega
     rw [e2]; rfl
theorem own_set {w : World} {base : Nat} {e : TypeId} {size n : Nat} {g c : Nat} {xs : List Value} (h : w.ownsRow base e size (.slice (some ⟨g, 0, none⟩) n c) n xs) {k : Nat} (hk : k < n * size) (u : Value) :
 (w.setCell ⟨g, k, none⟩ u).ownsRow base e size (.slice (some ⟨g, 0, none⟩) n c) n (xs.set k u) := by
 refine ⟨by rw [List.length_set]; exact h.1, ?_⟩; rcases h.2 with ⟨h0, _⟩ | ⟨g', cap, cur, hv, hb, hg, h1, h2, h3, h4⟩
 · cases h0
 · injection hv with hA _ hcap
   injection hA with hA
   injection hA with hA
   subst hA; subst hcap; refine .inr ⟨g, c, cur.setIfInBounds k u, rfl, hb, by simp [World.setCell, Array.getElem?_modify, hg], h1, h2, by simpa using h3, ?_⟩; rw [← h4, Array.toList_setIfInBounds, List.take_set]
theorem own_frozen {w : World} {base : Nat} {e : TypeId} {size n : Nat} {g c : Nat} {xs : List Value} (h : w.ownsRow base e size (.slice (some ⟨g, 0, none⟩) n c) n xs) (k : Nat) : w.frozen? ⟨g, k, none⟩ = false := by
 rcases h.2 with ⟨h0, _⟩ | ⟨g', cap, cur, hv, hb, hg, _⟩
 · cases h0
 · injection hv with hA
   injection hA with hA
   injection hA with hA
   subst hA; exact frozen_of_row w g k cur e hg
theorem rown_kind {w : World} {base : Nat} {e : TypeId} {size n : Nat} {g c : Nat} {xs : List Value} (h : w.ownsRow base e size (.slice (some ⟨g, 0, none⟩) n c) n xs) : base ≤ g ∧ ∃ cur, w.heap[g]? = some (.cells cur e (0, 0)) := by
 rcases h.2 with ⟨h0, _⟩ | ⟨g', cap, cur, hv, hb, hg, _⟩
 · cases h0
 · injection hv with hA
   injection hA with hA
   injection hA with hA
   subst hA; exact ⟨hb, cur, hg⟩
theorem rowV_of_own {w : World} {base : Nat} {v : Value} {xs : List UInt8} (h : w.ownsRow base 5 1 v 256 (cellsOf xs)) : RowV w v xs := by
 rcases h.2 with ⟨_, h0⟩ | ⟨g, cap, cur, hv, hb, hg, h1, _⟩
 · omega
 · subst hv; exact ⟨g, cap, cur, _, rfl, h1, hg, Rd.of_own h⟩
theorem RefD.put_old {w : World} {base r : Nat} {R : RSt} (h : RefD w base r R) {i : Nat} (hi : i < R.cache.length) {g : Nat} {c' : Nat} (hA : w.cell? ⟨r, 1, none⟩ = some (.slice (some ⟨g, 0, none⟩) R.cache.length c')) {v : Value} {xs : List UInt8} (hv : RowV w v xs) :
 RefD (w.setCell ⟨g, i * 2 + 1, none⟩ v) base r { R with cache := R.cache.set i (R.cache[i].1, xs) } ∧ Turned w (w.setCell ⟨g, i * 2 + 1, none⟩ v) (RefK w base) ∧ w.frozen? ⟨g, i * 2 + 1, none⟩ = false := by
 obtain ⟨pg, pc, cA, cc, ps, cs, hb, hbr, hop, hrp, hoc, hrc⟩ := h; have hA' := hb.cell 1; rw [hA] at hA'; simp only [List.getElem?_cons_succ, List.getElem?_cons_zero, Option.some.injEq, Value.slice.injEq, true_and] at hA'; obtain ⟨rfl, rfl⟩ := hA'; have hic : i < cs.length := by rw [hrc.1]; exact hi
 obtain ⟨hgb, cur, hg⟩ := rown_kind hoc; have t : Turned w (w.setCell ⟨g, i * 2 + 1, none⟩ v) (fun j => j = g) := (Turned.refl w (fun j => j = g)).setCell (T := fun j => j = g) (p := ⟨g, i * 2 + 1, none⟩) (fun _ => rfl) _; have hne : ∀ j c ty fr, w.heap[j]? = some (.cells c ty fr) → ty ≠ 200 → ¬ j = g := fun j c ty fr hj hty e => by subst e; rw [hg] at hj; simp at hj; exact hty hj.2.1.symm
 refine ⟨⟨pg, pc, some ⟨g, 0, none⟩, c', ps, cs.set i (cs[i].1, v), ?_, hbr, own_turned hop t (fun j c fr hj => hne j c _ fr hj (by decide)), hrp.turned t (fun j c fr hj => hne j c _ fr hj (by decide)), ?_, ?_⟩, ?_, own_frozen hoc _⟩
 · simp only [List.length_set]; exact t.blk hb (hne r _ _ _ hb (by decide))
 · simp only [List.length_set]; rw [ents_set cs i hic]; exact own_set hoc (by omega) v
 · refine ⟨by simp [hrc.1], fun j h1 h2 => ?_⟩; have hj1 : j < cs.length := by simpa using h1
   have hj2 : j < R.cache.length := by simpa using h2
   simp only [List.getElem_set]; by_cases hij : i = j
   · subst hij; simp only [if_true]; exact ⟨(hrc.2 i hic hi).1, hv.turned t (fun j c fr hj => hne j c _ fr hj (by decide))⟩
   · simp only [hij, if_false]; exact ⟨(hrc.2 j hj1 hj2).1, (hrc.2 j hj1 hj2).2.turned t (fun j c fr hj => hne j c _ fr hj (by decide))⟩
 · exact t.mono fun j _ e => by subst e; exact ⟨hgb, _, _, _, hg, .inr (.inr rfl)⟩
theorem last_get {α : Type} (l : List α) (a : α) (j : Nat) (hj : j = l.length) (h : j < (l ++ [a]).length) : (l ++ [a])[j] = a := by subst hj; simp
theorem RefD.put_new {w w1 w2 : World} {base r : Nat} {R : RSt} {p : Int} {xs : List UInt8} {v : Value} {pg pc : Nat} {cA : Option Addr} {cc : Nat} {ps : List Value} {cs : List (Int × Value)} (hb : Blk w r 188 [.slice (some ⟨pg, 0, none⟩) R.pages.length pc, .slice cA R.cache.length cc, .int .i64 R.fuse, .bool R.dead, .int .i64 (R.done : Int)]) (hbr : base ≤ r)
 (hop : w.ownsRow base 46 1 (.slice (some ⟨pg, 0, none⟩) R.pages.length pc) R.pages.length ps) (hrp : RowsP w ps R.pages) (hoc : w.ownsRow base 200 2 (.slice cA R.cache.length cc) R.cache.length (ents cs)) (hrc : RowsC w cs R.cache)
 {A : Option Addr} {c : Nat} (hb1 : Below w.heap.size w w1) (hv : RowV w1 v xs) (hown2 : w2.ownsRow base 200 2 (.slice A (R.cache.length + 1) c) (R.cache.length + 1) (ents cs ++ [.int .i64 p, v]))
 (hg : w1.grownBy w2 (Value.slice cA R.cache.length cc).ownBlock) :
 RefD (w2.setCell ⟨r, 1, none⟩ (.slice A (R.cache.length + 1) c)) base r { R with cache := R.cache ++ [(p, xs)] } ∧ Turned w (w2.setCell ⟨r, 1, none⟩ (.slice A (R.cache.length + 1) c)) (RefK w base) ∧ w2.cell? ⟨r, 1, none⟩ = some (.slice cA R.cache.length cc) ∧ w2.frozen? ⟨r, 1, none⟩ = false := by
 have hkr : RefK w base r := ⟨hbr, _, _, _, hb, .inl rfl⟩
 -- what the memory grown has turned
 have hrow : ∀ j, (Value.slice cA R.cache.length cc).ownBlock = some j → base ≤ j ∧ ∃ cur, w.heap[j]? = some (.cells cur 200 (0, 0)) := by
  intro j hj; rcases hoc.2 with ⟨h0, _⟩ | ⟨g', cap, cur, hv', hbg, hg', _⟩
  · rw [h0] at hj; cases hj
  · rw [hv'] at hj; cases hj; exact ⟨hbg, cur, hg'⟩
 have t2 : Turned w w2 (fun j => ∃ cur, base ≤ j ∧ w.heap[j]? = some (.cells cur 200 (0, 0))) :=
  (Turned.of_below hb1 _).grown hg (fun j _ e => by obtain ⟨h1, cur, h2⟩ := hrow j e; exact ⟨cur, h1, h2⟩)
 have hne : ∀ j c ty fr, w.heap[j]? = some (.cells c ty fr) → ty ≠ 200 → ¬ (∃ cur, base ≤ j ∧ w.heap[j]? = some (.cells cur 200 (0, 0))) := fun j c ty fr hj hty ⟨cur, _, e⟩ => by rw [e] at hj; simp at hj; exact hty hj.2.1.symm
 have hb2 : Blk w2 r 188 _ := t2.blk hb (hne r _ _ _ hb (by decide)); have t3 : Turned w2 (w2.setCell ⟨r, 1, none⟩ (.slice A (R.cache.length + 1) c)) (fun j => j = r) := (Turned.refl w2 (fun j => j = r)).setCell (T := fun j => j = r) (p := ⟨r, 1, none⟩) (fun _ => rfl) _; have hne3 : ∀ j c ty fr, w2.heap[j]? = some (.cells c ty fr) → ty ≠ 188 → ¬ j = r := fun j c ty fr hj hty e => by subst e; unfold Blk at hb2; rw [hb2] at hj; simp at hj; exact hty hj.2.1.symm
 have hv2 : RowV w2 v xs := by
  obtain ⟨b, cb, cs', fr, rfl, hcb, hbb, hrd⟩ := hv; refine RowV.keep ⟨b, cb, cs', fr, rfl, hcb, hbb, hrd⟩ fun b' c' cs'' fr' e hb'' => hg.block b' (Array.getElem?_eq_some_iff.1 hb'').1 fun e2 => ?_
  obtain ⟨_, cur, h2⟩ := hrow b' e2.symm; rw [hb1.block b' (Array.getElem?_eq_some_iff.1 h2).1, h2] at hb''; simp at hb''
 refine ⟨⟨pg, pc, A, c, ps, cs ++ [(p, v)], ?_, hbr, own_turned (own_turned hop t2 (fun j c fr hj => hne j c _ fr hj (by decide))) t3 (fun j c fr hj => hne3 j c _ fr hj (by decide)),
  (hrp.turned t2 (fun j c fr hj => hne j c _ fr hj (by decide))).turned t3 (fun j c fr hj => hne3 j c _ fr hj (by decide)), ?_, ?_⟩, ?_⟩
 · have := hb2.set_ 1 (.slice A (R.cache.length + 1) c); simpa using this
 · have := own_turned hown2 t3 (fun j c fr hj => hne3 j c _ fr hj (by decide)); rw [ents_append]; simpa [ents] using this
 · refine ⟨by simp [hrc.1], fun j h1 h2 => ?_⟩; have hrc3 := (hrc.turned t2 (fun j c fr hj => hne j c _ fr hj (by decide))).turned t3 (fun j c fr hj => hne3 j c _ fr hj (by decide)); have hv3 := hv2.turned t3 (fun j c fr hj => hne3 j c _ fr hj (by decide)); by_cases hj : j < cs.length
   · have hj2 : j < R.cache.length := by rw [← hrc.1]; exact hj
     simp only [List.getElem_append_left hj, List.getElem_append_left hj2]; exact hrc3.2 j hj hj2
   · have e1 : j = cs.length := by simp at h1; omega
     rw [last_get cs _ j e1 h1, last_get R.cache _ j (e1.trans hrc.1) h2]; exact ⟨rfl, hv3⟩
 · have tk : Turned w w2 (RefK w base) := t2.mono fun j _ ⟨cur, h1, h2⟩ => ⟨h1, _, _, _, h2, .inr (.inr rfl)⟩
   exact ⟨tk.setCell (p := ⟨r, 1, none⟩) (fun _ => hkr) _, hb2.cell 1, hb2.frozen 1⟩
theorem Sim.put_old {S : St} {R : RSt} (h : Sim S R) {p : Int} {xs : List UInt8} {i : Nat} (hi : i < R.cache.length) (hk : R.cache[i].1 = p) (hf : ∀ j (hj : j < R.cache.length), j < i → R.cache[j].1 ≠ p) :
 Sim { S with cache := fun y => if y = p then some xs else S.cache y } { R with cache := R.cache.set i (R.cache[i].1, xs) } := by
 refine ⟨h.pages, h.done, ?_, fun y => ?_, h.dead, h.fuse, h.lo, h.hi, by simpa using h.few⟩
 · have : (R.cache.set i (R.cache[i].1, xs)).map (·.1) = R.cache.map (·.1) := by
    rw [List.map_set]; apply List.ext_getElem (by simp); intro j h1 h2; rw [List.getElem_set]
    split
    · rename_i e; subst e; simp
    · rfl
   show ((R.cache.set i (R.cache[i].1, xs)).map (·.1)).Nodup; rw [this]; exact h.keys
 · show rfind (R.cache.set i (R.cache[i].1, xs)) y = _; rw [hk, rfind_set R.cache p xs i hi hk hf y, h.cache]
theorem Sim.put_new {S : St} {R : RSt} (h : Sim S R) {p : Int} {xs : List UInt8} (hf : ∀ j (hj : j < R.cache.length), R.cache[j].1 ≠ p) (hfew : R.cache.length + 1 ≤ R.done) :
 Sim { S with cache := fun y => if y = p then some xs else S.cache y } { R with cache := R.cache ++ [(p, xs)] } := by
 refine ⟨h.pages, h.done, ?_, fun y => ?_, h.dead, h.fuse, h.lo, h.hi, by simpa using hfew⟩
 · show ((R.cache ++ [(p, xs)]).map (·.1)).Nodup; rw [List.map_append]; refine List.nodup_append.2 ⟨h.keys, by simp, fun a ha b hb => ?_⟩; simp at hb; subst hb; obtain ⟨e, he, rfl⟩ := List.mem_map.1 ha; obtain ⟨j, hj, rfl⟩ := List.getElem_of_mem he; exact hf j hj
 · show rfind (R.cache ++ [(p, xs)]) y = _; rw [rfind_append R.cache p xs hf y, h.cache]
theorem rwrite_old (base r : Nat) (S : St) (R : RSt) (p : Int) (i : Nat) (A : Option Addr) (cp : Nat) (xs : List UInt8) (w : World) (h : RefD w base r R) (hs : Sim S R) (hc : rhasE R p = 0) (hi : i < R.cache.length) (hk : R.cache[i].1 = p) (hfi : ∀ j (hj : j < R.cache.length), j < i → R.cache[j].1 ≠ p)
 (hr : Rd w A 256 xs) (hd : S.done ≤ 10000) :
 Calls Tryz.prog 38 #[.pointer (some ⟨r, 0, none⟩), .int .i64 p, .slice A 256 cp] w fun e w' => e = .returned (.int .i64 0) ∧ Hid (RefD w' base r ({ R with cache := R.cache.set i (R.cache[i].1, xs) } : RSt).did ∧ Turned w w' (RefK w base)) := by
 have H := kept (rcheck_any base r R p w h); rw [hc] at H; have HA := kept (at_found base r R p i w h hi hk hfi (hs.few' hd)); have HD := kept h; have HRD := kept hr; obtain ⟨pg, pc, cA, cc, c0, c1, c3, hpg, hen⟩ := h.opened; obtain ⟨g, v, rfl, z1, z2, hrow⟩ := hen i hi; have hsm := hs.few' hd; have hin : (i : Int) < (R.cache.length : Int) := by omega
 have hB0 : Below w.heap.size w w.drew := (Below.refl _ w).drew; have HDI : Hid (-1 ≤ R.fuse ∧ R.fuse ≤ 9223372036854775807 ∧ R.done ≤ 1000000) := kept ⟨hs.lo, hs.hi, by rw [hs.done]; omega⟩; have hgl : g < w.heap.size := World.block_lt_of_cell? w _ z1; have HGL := kept hgl; have HRL := kept (World.block_lt_of_cell? w _ c0); clear hen hpg h hk hfi hr hc hd hs hrow c3 hgl; go_enter Tryz.func38, Tryz.ntmps38; go_wp2_with (first | (go_at_call 87; (with_reducible refine (H.out).mono ?_); rintro e w' ⟨rfl, rfl⟩) | (go_at_call 88; (with_reducible refine (HA.out).mono ?_); rintro e w' ⟨rfl, rfl⟩))
 go_region_with (go_at_call 89; (with_reducible refine (ptwin_any _ _ _ _ _ (HRD.out.drew) (by omega)).mono ?_); rintro e w1 ⟨A1, k1, rfl, h1⟩; have HO1 := h1; have HB1 : Hid (Below w.heap.size w w1) := kept (hB0.trans h1.out.2); have d1 : w1.cell? ⟨r, 1, none⟩ = some (.slice (some ⟨g, 0, none⟩) R.cache.length cc) := (HB1.out.cell (p := ⟨r, 1, none⟩) HRL.out).trans c1; have y2 : w1.cell? ⟨g, i * 2 + 1, none⟩ = some v := (HB1.out.cell (p := ⟨g, i * 2 + 1, none⟩) HGL.out).trans z2; have HP : Hid (RefD (w1.setCell ⟨g, i * 2 + 1, none⟩ (.slice A1 256 k1)) base r { R with cache := R.cache.set i (R.cache[i].1, xs) } ∧ Turned w1 (w1.setCell ⟨g, i * 2 + 1, none⟩ (.slice A1 256 k1)) (RefK w1 base) ∧ w1.frozen? ⟨g, i * 2 + 1, none⟩ = false) := kept ((HD.out.below HB1.out).put_old hi d1 (rowV_of_own h1.out.1)); have y3 : w1.frozen? ⟨g, i * 2 + 1, none⟩ = false := HP.out.2.2; clear h1)
 all_goals
  have HC := kept (did_any base r _ _ HP.out.1 HDI.out.1 HDI.out.2.1 HDI.out.2.2); have HT2 : Hid (Turned w (w1.setCell ⟨g, i * 2 + 1, none⟩ (.slice A1 256 k1)) (RefK w base)) := kept (((Turned.of_below HB1.out (RefK w base))).ref_trans HP.out.2.1); go_wp2_with (first | (go_at_call 90; (with_reducible refine (HC.out).mono ?_); rintro e w3 ⟨rfl, h3⟩))
  go_ret; exact ⟨rfl, kept ⟨h3.out.1, HT2.out.ref_trans h3.out.2⟩⟩
theorem alloc_le (w : World) (o : Obj) : w.heap.size ≤ (w.alloc o).heap.size := by simp
theorem new_cells (w : World) (t : TypeId) (cs : List Value) : ∀ j u, cs[j]? = some u → (w.alloc (.cells cs.toArray t)).cell? ((⟨w.heap.size, 0, none⟩ : Addr).add j) = some u := fun j u hj => by
 rw [Addr.add_mid, Nat.zero_add, cell_of_row _ _ j cs.toArray t (0, 0) (heap_alloc_new w _)]; simpa using hj
theorem step_append_mine {P : Program} {w : World} {ops : Array Oper} {o : Oper} {a : Act} {K : Act → World → Prop} {Q : Exit → Act → World → Prop} {E : Prop} (hgd : o.guard = none) (s x : Operand) (t : TypeId)
 (ho : o.op = .call { callee := .builtin .append, args := #[s, x], argTypes := #[t, t] })
 (base : Nat) (e : TypeId) (size bytes : Nat) (ht : P.underlying t = some (.slice e)) {z : Value} (hinfo : (P.info? e).map (fun i => (i.zero, i.size, i.bytes)) = some (some z, size, bytes)) (hzs : z.cells.size = size) (hsz : 0 < size)
 (A : Option Addr) (n c : Nat) (xs : List Value) (hs : a.eval s = .slice A n c) (hown : w.ownsRow base e size (.slice A n c) n xs)
 (ad : Addr) (m k : Nat) (news : List Value) (hx : a.eval x = .slice (some ad) m k) (hl : news.length = m * size) (hm : 0 < m) (hnews : ∀ j u, news[j]? = some u → w.cell? (ad.add j) = some u) (h1 : ∀ u ∈ news, u.oneCell' = true)
 (h63 : n + m ≤ maxLen) (hbytes : (n + m) * bytes ≤ 140737488355328) (hbase : base ≤ w.heap.size)
 (h : ∀ A' c' w', w'.ownsRow base e size (.slice A' (n + m) c') (n + m) (xs ++ news) → w.grownBy w' (Value.slice A n c).ownBlock → K (a.put o.dst (.slice A' (n + m) c')) w') :
 if Region.wanted o (yielded ops a.tmps) = true then Oper.wp P o a w K Q else E := by
 rw [if_pos (by simp [Region.wanted, hgd])]; obtain ⟨i, hi, hz, hsize, hby⟩ := info_parts hinfo; refine wp_append_own w s x t ho base e i z size bytes ht hi hz hsize hby hzs hsz _ n xs hs hown ad m k news hx hl hnews h1 h63 hbytes hbase fun v' w' h2 h3 _ => ?_
 rcases h2.2 with ⟨_, h0⟩ | ⟨g, cap, cur, hv, _⟩
 · omega
 · subst hv; exact h _ _ _ h2 h3
theorem rwrite_new (base r : Nat) (S : St) (R : RSt) (p : Int) (A : Option Addr) (cp : Nat) (xs : List UInt8) (w : World) (h : RefD w base r R) (hs : Sim S R) (hc : rhasE R p = 0) (hfi : ∀ j (hj : j < R.cache.length), R.cache[j].1 ≠ p)
 (hr : Rd w A 256 xs) (hd : S.done ≤ 10000) :
 Calls Tryz.prog 38 #[.pointer (some ⟨r, 0, none⟩), .int .i64 p, .slice A 256 cp] w fun e w' => e = .returned (.int .i64 0) ∧ Hid (RefD w' base r ({ R with cache := R.cache ++ [(p, xs)] } : RSt).did ∧ Turned w w' (RefK w base)) := by
 have H := kept (rcheck_any base r R p w h); rw [hc] at H; have HA := kept (at_none base r R p w h hfi (hs.few' hd)); have HRD := kept hr; have hsm := hs.few' hd; have hB0 : Below w.heap.size w w.drew := (Below.refl _ w).drew; have HDI : Hid (-1 ≤ R.fuse ∧ R.fuse ≤ 9223372036854775807 ∧ R.done ≤ 1000000) := kept ⟨hs.lo, hs.hi, by rw [hs.done]; omega⟩; obtain ⟨pg, pc, cA, cc, ps, cs, hb, hbr, hop, hrp, hoc, hrc⟩ := h; have c1 : w.cell? ⟨r, 1, none⟩ = some (.slice cA R.cache.length cc) := hb.cell 1; have HRL := kept hb.lt; have HBS : Hid (base ≤ w.heap.size) := kept (Nat.le_trans hbr (Nat.le_of_lt hb.lt)); have HBB := kept hb; have HBR := kept hbr; have HOP := kept hop; have HRP := kept hrp; have HOC := kept hoc; have HRC := kept hrc; clear hfi hr hc hd hs hb hbr hop hrp hoc hrc; go_enter Tryz.func38, Tryz.ntmps38; go_wp2_with (first | (go_at_call 87; (with_reducible refine (H.out).mono ?_); rintro e w' ⟨rfl, rfl⟩) | (go_at_call 88; (with_reducible refine (HA.out).mono ?_); rintro e w' ⟨rfl, rfl⟩))
 obtain ⟨n, hn⟩ : ∃ n, R.cache.length = n := ⟨_, rfl⟩
 have HN := kept hn; have HON : Hid (w.ownsRow base 200 2 (.slice cA n cc) n (ents cs)) := kept (by rw [← hn]; exact HOC.out); rw [hn] at c1 hsm; clear hn
 go_region_law (first
  | (go_simp; go_at_call 89; (with_reducible refine (ptwin_any _ _ _ _ _ (HRD.out.drew) (by omega)).mono ?_); rintro e w1 ⟨A1, k1, rfl, h1⟩; have HB1 : Hid (Below w.heap.size w w1) := kept (hB0.trans h1.out.2); have d1 : w1.cell? ⟨r, 1, none⟩ = some (.slice cA n cc) := (HB1.out.cell (p := ⟨r, 1, none⟩) HRL.out).trans c1; have d2 : ∀ o, (w1.alloc o).cell? ⟨r, 1, none⟩ = some (.slice cA n cc) := fun o => (World.cell?_alloc_lt w1 o ⟨r, 1, none⟩ (Nat.lt_of_lt_of_le HRL.out HB1.out.size)).trans d1)
  | (refine step_append_mine rfl _ _ 186 rfl base 200 2 32 Tryz.underlying186 (z := .agg #[.int .i64 0, .slice none 0 0]) (by kernel_rfl) rfl (by omega) cA n cc (ents cs) rfl (own_turned HON.out (Turned.of_below (below_on ((Below.refl _ w1).alloc (Nat.le_refl _) _) HB1.out) (fun _ => False)) (fun _ _ _ _ => id)) ⟨w1.heap.size, 0, none⟩ 1 1 [.int .i64 p, .slice A1 256 k1] rfl rfl (by omega) (new_cells w1 200 [.int .i64 p, .slice A1 256 k1]) (fun u hu => by simp at hu; rcases hu with rfl | rfl <;> rfl) (by unfold maxLen; omega) (by omega) (Nat.le_trans HBS.out (Nat.le_trans HB1.out.size (alloc_le _ _))) ?_; intro A2 c2 w2 hown2 hg2; have HP : Hid (RefD (w2.setCell ⟨r, 1, none⟩ (.slice A2 (R.cache.length + 1) c2)) base r { R with cache := R.cache ++ [(p, xs)] } ∧ Turned w (w2.setCell ⟨r, 1, none⟩ (.slice A2 (R.cache.length + 1) c2)) (RefK w base) ∧ w2.cell? ⟨r, 1, none⟩ = some (.slice cA R.cache.length cc) ∧ w2.frozen? ⟨r, 1, none⟩ = false) := kept (RefD.put_new HBB.out HBR.out HOP.out HRP.out HOC.out HRC.out (below_on ((Below.refl _ w1).alloc (Nat.le_refl _) (.cells #[.int .i64 p, .slice A1 256 k1] 200)) HB1.out) ((rowV_of_own h1.out.1).turned (Turned.of_below ((Below.refl _ w1).alloc (Nat.le_refl _) _) (fun _ => False)) (fun _ _ _ _ => id)) (by rw [HN.out]; exact hown2) (by rw [HN.out]; exact hg2)); have y1 : w2.cell? ⟨r, 1, none⟩ = some (.slice cA n cc) := (by have := HP.out.2.2.1; rwa [HN.out] at this); have y2 : w2.frozen? ⟨r, 1, none⟩ = false := HP.out.2.2.2; clear hown2 hg2))
 all_goals
  have HPN : Hid (RefD (w2.setCell ⟨r, 1, none⟩ (.slice A2 (n + 1) c2)) base r { R with cache := R.cache ++ [(p, xs)] } ∧ Turned w (w2.setCell ⟨r, 1, none⟩ (.slice A2 (n + 1) c2)) (RefK w base)) := kept (by have := HP.out; rw [HN.out] at this; exact ⟨this.1, this.2.1⟩); have HC := kept (did_any base r _ _ HPN.out.1 HDI.out.1 HDI.out.2.1 HDI.out.2.2); go_wp2_with (first | (go_at_call 90; (with_reducible refine (HC.out).mono ?_); rintro e w3 ⟨rfl, h3⟩))
  go_ret; exact ⟨rfl, kept ⟨h3.out.1, HPN.out.2.ref_trans h3.out.2⟩⟩
def RLeft (w : World) (base r : Nat) (S : St) (w' : World) : Prop := ∃ R, RefD w' base r R ∧ Sim S R ∧ Turned w w' (RefK w base)
theorem rwrite_any (base r : Nat) (S : St) (R : RSt) (p : Int) (A : Option Addr) (cp : Nat) (xs : List UInt8) (w : World) (h : RefD w base r R) (hs : Sim S R) (hr : Rd w A 256 xs) (hd : S.done ≤ 10000) :
 Calls Tryz.prog 38 #[.pointer (some ⟨r, 0, none⟩), .int .i64 p, .slice A 256 cp] w fun e w' => e = .returned (.int .i64 (writeE S p 256)) ∧ Hid (RLeft w base r (S.tryWrite p xs) w') := by
 have hE := hs.hasE p; unfold writeE St.tryWrite; by_cases hf : S.fuse = 0
 · rw [if_pos hf] at hE; rw [if_pos hf, if_pos hf]; have := rwrite_no base r R p A 256 cp w h (by rw [hE]; omega); rw [hE] at this; exact this.mono fun e w' ⟨a, b⟩ => ⟨a, by subst b; exact kept ⟨R, h, hs, Turned.refl _ _⟩⟩
 rw [if_neg hf] at hE; rw [if_neg hf, if_neg hf]; by_cases hp : p < 0 ∨ (S.pages.length : Int) ≤ p
 · rw [if_pos hp] at hE; rw [if_pos hp, if_pos hp]; have := rwrite_no base r R p A 256 cp w h (by rw [hE]; omega); rw [hE] at this; exact this.mono fun e w' ⟨a, b⟩ => ⟨a, by subst b; exact kept ⟨R, h, hs, Turned.refl _ _⟩⟩
 rw [if_neg hp] at hE; rw [if_neg hp, if_neg hp, if_pos rfl]; rcases first_ix R.cache p with ⟨i, hi, k1, k2, _⟩ | ⟨k2, _⟩
 · exact (rwrite_old base r S R p i A cp xs w h hs hE hi k1 k2 hr hd).mono fun e w' ⟨a, b⟩ => ⟨a, kept ⟨_, b.out.1, (hs.did hf).put_old (R := R.did) (i := i) hi k1 k2, b.out.2⟩⟩
 · exact (rwrite_new base r S R p A cp xs w h hs hE k2 hr hd).mono fun e w' ⟨a, b⟩ => ⟨a, kept ⟨_, b.out.1, (hs.did hf).put_new (R := R.did) (p := p) k2 (Nat.succ_le_succ hs.few), b.out.2⟩⟩
theorem RefD.lay {w : World} {base r : Nat} {R : RSt} (h : RefD w base r R) {i pg c' : Nat} (hi : i < R.pages.length) (hA : w.cell? ⟨r, 0, none⟩ = some (.slice (some ⟨pg, 0, none⟩) R.pages.length c')) {v : Value} {xs : List UInt8} (hv : RowV w v xs) :
 RefD (w.setCell ⟨pg, i, none⟩ v) base r { R with pages := R.pages.set i xs } ∧ Turned w (w.setCell ⟨pg, i, none⟩ v) (RefK w base) ∧ w.frozen? ⟨pg, i, none⟩ = false ∧ pg ≠ r := by
 obtain ⟨pg', pc, cA, cc, ps, cs, hb, hbr, hop, hrp, hoc, hrc⟩ := h; have hA' := hb.cell 0; rw [hA] at hA'; simp only [List.getElem?_cons_zero, Option.some.injEq, Value.slice.injEq, Addr.mk.injEq, true_and, and_true] at hA'; obtain ⟨rfl, rfl⟩ := hA'; have hic : i < ps.length := by rw [hrp.1]; exact hi
 obtain ⟨hgb, cur, hg⟩ := rown_kind hop; have t : Turned w (w.setCell ⟨pg, i, none⟩ v) (fun j => j = pg) := (Turned.refl w (fun j => j = pg)).setCell (T := fun j => j = pg) (p := ⟨pg, i, none⟩) (fun _ => rfl) _; have hne : ∀ j c ty fr, w.heap[j]? = some (.cells c ty fr) → ty ≠ 46 → ¬ j = pg := fun j c ty fr hj hty e => by subst e; rw [hg] at hj; simp at hj; exact hty hj.2.1.symm
 refine ⟨⟨pg, c', cA, cc, ps.set i v, cs, ?_, hbr, ?_, ?_, own_turned hoc t (fun j c fr hj => hne j c _ fr hj (by decide)), hrc.turned t (fun j c fr hj => hne j c _ fr hj (by decide))⟩, ?_, own_frozen hop _, fun e => hne r _ _ _ hb (by decide) e.symm⟩
 · simp only [List.length_set]; exact t.blk hb (hne r _ _ _ hb (by decide))
 · simp only [List.length_set]; exact own_set hop (by omega) v
 · refine ⟨by simp [hrp.1], fun j h1 h2 => ?_⟩; have hj1 : j < ps.length := by simpa using h1
   have hj2 : j < R.pages.length := by simpa using h2
   simp only [List.getElem_set]; by_cases hij : i = j
   · subst hij; simp only [if_true]; exact hv.turned t (fun j c fr hj => hne j c _ fr hj (by decide))
   · simp only [hij, if_false]; exact (hrp.2 j hj1 hj2).turned t (fun j c fr hj => hne j c _ fr hj (by decide))
 · exact t.mono fun j _ e => by subst e; exact ⟨hgb, _, _, _, hg, .inr (.inl rfl)⟩
theorem RefD.clear {w : World} {base r : Nat} {R : RSt} (h : RefD w base r R) : RefD (w.setCell ⟨r, 1, none⟩ (.slice none 0 0)) base r { R with cache := [] } ∧ Turned w (w.setCell ⟨r, 1, none⟩ (.slice none 0 0)) (RefK w base) := by
 have hkr := h.kr; obtain ⟨pg, pc, cA, cc, ps, cs, hb, hbr, hop, hrp, hoc, hrc⟩ := h; have t : Turned w (w.setCell ⟨r, 1, none⟩ (.slice none 0 0)) (fun j => j = r) := (Turned.refl w (fun j => j = r)).setCell (T := fun j => j = r) (p := ⟨r, 1, none⟩) (fun _ => rfl) _; have hne : ∀ j c ty fr, w.heap[j]? = some (.cells c ty fr) → ty ≠ 188 → ¬ j = r := fun j c ty fr hj hty e => by subst e; unfold Blk at hb; rw [hb] at hj; simp at hj; exact hty hj.2.1.symm
 refine ⟨⟨pg, pc, none, 0, ps, [], ?_, hbr, own_turned hop t (fun j c fr hj => hne j c _ fr hj (by decide)), hrp.turned t (fun j c fr hj => hne j c _ fr hj (by decide)), ⟨rfl, .inl ⟨rfl, rfl⟩⟩, ⟨rfl, fun j h1 => absurd h1 (by simp)⟩⟩, t.mono fun j _ e => by subst e; exact hkr⟩; have := hb.set_ 1 (.slice none 0 0); simpa using this
def layAll (F : Int → List UInt8 → List UInt8 → List UInt8) (l : List (Int × List UInt8)) (ps : List (List UInt8)) : List (List UInt8) := l.foldl (fun ps e => ps.set e.1.toNat (F e.1 e.2 (ps.getD e.1.toNat []))) ps
theorem layAll_snoc (F : Int → List UInt8 → List UInt8 → List UInt8) (l : List (Int × List UInt8)) (e : Int × List UInt8) (ps : List (List UInt8)) : layAll F (l ++ [e]) ps = (layAll F l ps).set e.1.toNat (F e.1 e.2 ((layAll F l ps).getD e.1.toNat [])) := by simp [layAll, List.foldl_append]
theorem layAll_length (F : Int → List UInt8 → List UInt8 → List UInt8) (l : List (Int × List UInt8)) : ∀ ps, (layAll F l ps).length = ps.length := by
 induction l with
 | nil => intro ps; rfl
 | cons e l ih => intro ps; show (layAll F l _).length = _; rw [ih]; simp
theorem layAll_at (F : Int → List UInt8 → List UInt8 → List UInt8) (l : List (Int × List UInt8)) : ∀ (ps : List (List UInt8)), (l.map (·.1)).Nodup → (∀ e ∈ l, 0 ≤ e.1) → ∀ i, i < ps.length →
 (layAll F l ps).getD i [] = match rfind l (i : Int) with | some xs => F i xs (ps.getD i []) | none => ps.getD i [] := by
 induction l with
 | nil => intro ps _ _ i _; rfl
 | cons e l ih =>
   intro ps hn h0 i hi; have hn' : (l.map (·.1)).Nodup := (List.nodup_cons.1 hn).2; have hne : e.1 ∉ l.map (·.1) := (List.nodup_cons.1 hn).1; show (layAll F l (ps.set e.1.toNat (F e.1 e.2 (ps.getD e.1.toNat [])))).getD i [] = _; rw [ih _ hn' (fun x hx => h0 x (by simp [hx])) i (by simpa using hi), rfind_cons]; have he0 := h0 e (by simp); by_cases hei : e.1 = (i : Int)
   · rw [if_pos hei]; have e1 : e.1.toNat = i := by omega
     have e2 : rfind l (i : Int) = none := by
      rcases first_ix l (i : Int) with ⟨j, hj, k1, _, _⟩ | ⟨_, k3⟩
      · exact absurd (List.mem_map.2 ⟨l[j], List.getElem_mem hj, k1.trans hei.symm⟩) hne
      · exact k3
     rw [e2, e1, hei]; simp [List.getD_eq_getElem?_getD, hi]
   · rw [if_neg hei]; have e1 : e.1.toNat ≠ i := by omega
     have e3 : (ps.set e.1.toNat (F e.1 e.2 (ps.getD e.1.toNat []))).getD i [] = ps.getD i [] := by simp [List.getD_eq_getElem?_getD, e1]
     rw [e3]
theorem layAll_laid {S : St} {R : RSt} (h : Sim S R) (ho : S.ok) (F : Int → List UInt8 → List UInt8 → List UInt8) (new : Nat → List UInt8) (hF : ∀ i xs, S.cache (i : Nat) = some xs → F i xs (S.pages.getD i []) = new i) : layAll F R.cache R.pages = S.laidAll new := by
 apply List.ext_getElem (by rw [layAll_length, h.pages]; exact (laid_length S new _).symm); intro i h1 h2; have hi : i < R.pages.length := by rwa [layAll_length] at h1
 have h0 : ∀ e ∈ R.cache, 0 ≤ e.1 := fun e he => by
  have hm : (rfind R.cache e.1).isSome = true := (rfind_mem R.cache e.1).2 (by obtain ⟨j, hj, rfl⟩ := List.getElem_of_mem he; exact ⟨j, hj, rfl⟩); rw [h.cache] at hm; obtain ⟨xs, hx⟩ := Option.isSome_iff_exists.1 hm; exact (ho.2.2.1 _ _ hx).1
 have := layAll_at F R.cache R.pages h.keys h0 i hi; rw [List.getD_eq_getElem?_getD, List.getElem?_eq_getElem h1, Option.getD_some] at this; rw [this, h.cache, h.pages]; simp only [St.laidAll, laid, List.getElem_map, List.getElem_range]; cases hc : S.cache (i : Int) with
 | none => rw [if_neg (by simp)]
 | some xs => rw [if_pos ⟨trivial, rfl⟩]; exact hF i xs hc
theorem RefD.opened2 {w : World} {base r : Nat} {R : RSt} (h : RefD w base r R) : ∃ pg pc cA cc, w.cell? ⟨r, 0, none⟩ = some (.slice (some ⟨pg, 0, none⟩) R.pages.length pc) ∧ w.cell? ⟨r, 1, none⟩ = some (.slice cA R.cache.length cc) ∧ w.cell? ⟨r, 3, none⟩ = some (.bool R.dead) ∧
 (∀ i (hi : i < R.pages.length), ∃ v, w.cell? ⟨pg, i, none⟩ = some v ∧ RowV w v R.pages[i]) ∧
 ∀ i (hi : i < R.cache.length), ∃ g v, cA = some ⟨g, 0, none⟩ ∧ w.cell? ⟨g, i * 2, none⟩ = some (.int .i64 R.cache[i].1) ∧ w.cell? ⟨g, i * 2 + 1, none⟩ = some v ∧ RowV w v R.cache[i].2 := by
 obtain ⟨pg, pc, cA, cc, ps, cs, hb, hbr, hop, hrp, hoc, hrc⟩ := h; refine ⟨pg, pc, cA, cc, hb.cell 0, hb.cell 1, hb.cell 3, fun i hi => ?_, fun i hi => ?_⟩
 · have hl : i < ps.length := by rw [hrp.1]; exact hi
   have hc := hop.cells (g := pg) rfl i ps[i] (List.getElem?_eq_getElem hl); rw [Addr.add_mid, Nat.zero_add] at hc; exact ⟨_, hc, hrp.2 i hl hi⟩
 · have hl : i < cs.length := by rw [hrc.1]; exact hi
   rcases hoc.2 with ⟨_, h0⟩ | ⟨g, cap, cur, hv, _⟩
   · omega
   · injection hv with hA
     subst hA; obtain ⟨e1, e2⟩ := ents_get cs hl; have hc := hoc.cells (g := g) rfl (i * 2) _ e1; have hc' := hoc.cells (g := g) rfl (i * 2 + 1) _ e2; rw [Addr.add_mid, Nat.zero_add] at hc hc'; obtain ⟨k1, hrow⟩ := hrc.2 i hl hi; rw [k1] at hc; exact ⟨g, _, rfl, hc, hc', hrow⟩
def F0 : Int → List UInt8 → List UInt8 → List UInt8 := fun _ x _ => x
def RHead (w : World) (base r : Nat) (R : RSt) (F : Int → List UInt8 → List UInt8 → List UInt8) (cA : Option Addr) (cc k : Nat) (wr : World) : Prop :=
 RefD wr base r { R with pages := layAll F (R.cache.take k) R.pages } ∧ Turned w wr (RefK w base) ∧ wr.cell? ⟨r, 1, none⟩ = some (.slice cA R.cache.length cc)
theorem RHead.entry {w wr : World} {base r : Nat} {R : RSt} {F : Int → List UInt8 → List UInt8 → List UInt8} {cA : Option Addr} {cc k : Nat} (h : RHead w base r R F cA cc k wr) (hk : k < R.cache.length) {n : Nat} (hn : R.pages.length = n) (hkey : 0 ≤ R.cache[k].1 ∧ R.cache[k].1 < (n : Int)) :
 ∃ q pg pc g b c v0, R.cache[k].1 = ((q : Nat) : Int) ∧ q < n ∧ cA = some ⟨g, 0, none⟩ ∧ wr.cell? ⟨g, k * 2, none⟩ = some (.int .i64 (q : Int)) ∧ wr.cell? ⟨g, k * 2 + 1, none⟩ = some (.slice (some ⟨b, 0, none⟩) 256 c) ∧ RowV wr (.slice (some ⟨b, 0, none⟩) 256 c) R.cache[k].2 ∧
   wr.cell? ⟨r, 0, none⟩ = some (.slice (some ⟨pg, 0, none⟩) n pc) ∧ wr.cell? ⟨pg, q, none⟩ = some v0 ∧ RowV wr v0 ((layAll F (R.cache.take k) R.pages).getD q []) ∧ 256 ≤ c := by
 obtain ⟨h1, h2, h3⟩ := h; obtain ⟨pg, pc, cA', cc', c0, c1, _, hpg, hen⟩ := h1.opened2; have hl : (layAll F (R.cache.take k) R.pages).length = n := by rw [layAll_length]; exact hn
 obtain ⟨g, v, hA, z1, z2, hrow⟩ := hen k hk; have c1' : wr.cell? ⟨r, 1, none⟩ = some (.slice cA' R.cache.length cc') := c1; rw [h3] at c1'; simp only [Option.some.injEq, Value.slice.injEq, true_and] at c1'; obtain ⟨e1, _⟩ := c1'; obtain ⟨q, hq⟩ := Int.eq_ofNat_of_zero_le hkey.1; have hqn : q < n := by have := hkey.2; omega
 obtain ⟨v0, y1, y2⟩ := hpg q (by rw [hl]; exact hqn); have hrow' := hrow; obtain ⟨b, c, _, _, rfl, hc, _, _⟩ := hrow; rw [hl] at c0; have z1' : wr.cell? ⟨g, k * 2, none⟩ = some (.int .i64 R.cache[k].1) := z1; rw [hq] at z1'; refine ⟨q, pg, pc, g, b, c, v0, hq, hqn, e1.trans hA, z1', z2, hrow', c0, y1, ?_, hc⟩; rw [List.getD_eq_getElem?_getD, List.getElem?_eq_getElem (by rw [hl]; exact hqn)]; exact y2
theorem RHead.step {w wr w1 : World} {base r : Nat} {R : RSt} {F : Int → List UInt8 → List UInt8 → List UInt8} {cA : Option Addr} {cc k : Nat} (h : RHead w base r R F cA cc k wr) (hk : k < R.cache.length) {n q pg pc : Nat} (hn : R.pages.length = n) (hq : R.cache[k].1 = (q : Int)) (hqn : q < n)
 (hb : Below wr.heap.size wr w1) (c0 : wr.cell? ⟨r, 0, none⟩ = some (.slice (some ⟨pg, 0, none⟩) n pc)) {v : Value} (hv : RowV w1 v (F (q : Int) R.cache[k].2 ((layAll F (R.cache.take k) R.pages).getD q []))) :
 RHead w base r R F cA cc (k + 1) (w1.setCell ⟨pg, q, none⟩ v) ∧ w1.frozen? ⟨pg, q, none⟩ = false ∧ pg ≠ r := by
 obtain ⟨h1, h2, h3⟩ := h; have hl : (layAll F (R.cache.take k) R.pages).length = n := by rw [layAll_length]; exact hn
 have h1' := h1.below hb; have hr1 : r < wr.heap.size := World.block_lt_of_cell? wr _ c0; have c0' : w1.cell? ⟨r, 0, none⟩ = some (.slice (some ⟨pg, 0, none⟩) (layAll F (R.cache.take k) R.pages).length pc) := by rw [hl]; exact (hb.cell (p := ⟨r, 0, none⟩) hr1).trans c0
 obtain ⟨y1, y2, y3, y4⟩ := h1'.lay (i := q) (by rw [hl]; exact hqn) c0' hv; refine ⟨⟨?_, (h2.ref_trans (Turned.of_below hb _)).ref_trans y2, ?_⟩, y3, y4⟩
 · rw [List.take_succ_eq_append_getElem hk, layAll_snoc, hq, Int.toNat_natCast]; exact y1
 · rw [World.cell?_setCell_other w1 ⟨pg, q, none⟩ ⟨r, 1, none⟩ v (fun e => y4 (by injection e))]; exact (hb.cell (p := ⟨r, 1, none⟩) hr1).trans h3
theorem RHead.drew {w wr : World} {base r : Nat} {R : RSt} {F : Int → List UInt8 → List UInt8 → List UInt8} {cA : Option Addr} {cc k : Nat} (h : RHead w base r R F cA cc k wr) : RHead w base r R F cA cc k wr.drew := ⟨h.1.drew, h.2.1.drew, h.2.2⟩
theorem rsync_no (base r : Nat) (R : RSt) (w : World) (h : RefD w base r R) (hd : R.dead = true) :
 Calls Tryz.prog 40 #[.pointer (some ⟨r, 0, none⟩)] w fun e w' => e = .returned (.int .i64 10) ∧ w = w' := by
 obtain ⟨pg, pc, cA, cc, c0, c1, c2, c3, c4⟩ := h.cells; rw [hd] at c3; clear h c0 c1 c2 c4 hd; go_enter Tryz.func40, Tryz.ntmps40; go_wp2; go_ret; exact ⟨rfl, rfl⟩
theorem Sim.keyed {S : St} {R : RSt} (h : Sim S R) (ho : S.ok) {k : Nat} (hk : k < R.cache.length) : 0 ≤ R.cache[k].1 ∧ R.cache[k].1 < (R.pages.length : Int) := by
 have hm : (rfind R.cache R.cache[k].1).isSome = true := (rfind_mem R.cache R.cache[k].1).2 ⟨k, hk, rfl⟩; rw [h.cache] at hm; obtain ⟨xs, hx⟩ := Option.isSome_iff_exists.1 hm; rw [h.pages]; exact ⟨(ho.2.2.1 _ _ hx).1, (ho.2.2.1 _ _ hx).2.1⟩
theorem rsync_ok (base r : Nat) (S : St) (R : RSt) (w : World) (h : RefD w base r R) (hs : Sim S R) (ho : S.ok) (hd : R.dead = false) (hdn : S.done ≤ 10000) :
 Calls Tryz.prog 40 #[.pointer (some ⟨r, 0, none⟩)] w fun e w' => e = .returned (.int .i64 0) ∧ Hid (RefD w' base r ({ R with pages := layAll F0 R.cache R.pages, cache := [] } : RSt).did ∧ Turned w w' (RefK w base)) := by
 obtain ⟨pg, pc, cA, cc, c0, c1, c2, c3, c4⟩ := h.cells; rw [hd] at c3; have H0 : Hid (RHead w base r R F0 cA cc 0 w) := kept ⟨by simpa [layAll] using h, Turned.refl _ _, c1⟩; have HKEY : Hid (∀ k (hk : k < R.cache.length), 0 ≤ R.cache[k].1 ∧ R.cache[k].1 < (R.pages.length : Int)) := kept (fun k hk => hs.keyed ho hk); have hsm := hs.few' hdn; have HDI : Hid (-1 ≤ R.fuse ∧ R.fuse ≤ 9223372036854775807 ∧ R.done ≤ 1000000) := kept ⟨hs.lo, hs.hi, by rw [hs.done]; omega⟩; obtain ⟨m, hm⟩ : ∃ m, R.pages.length = m := ⟨_, rfl⟩
 have HM := kept hm; obtain ⟨n, hn⟩ : ∃ n, R.cache.length = n := ⟨_, rfl⟩
 have HN := kept hn; rw [hn] at c1 hsm; clear h hs ho hd hdn c0 c2 c4 hm hn; go_enter Tryz.func40, Tryz.ntmps40; go_wp2; go_loopw [14] (fun i wr => ∃ k : Nat, k ≤ n ∧ i = .int .i64 (k : Int) ∧ Hid (RHead w base r R F0 cA cc k wr)) (fun i _ => n - (intOf i).toNat)
 case atStart => exact ⟨0, Nat.zero_le _, rfl, H0⟩
 case round =>
  obtain ⟨k, hkn, rfl, HR⟩ := hrel; by_cases hlt : k < n
  · have hk' : k < R.cache.length := by rw [HN.out]; exact hlt
    obtain ⟨q, pg, pc, g, b, c, v0, hq, hqn, rfl, z1, z2, hrow, y0, y1, hrow0, _⟩ := HR.out.entry hk' HM.out (by have := HKEY.out k hk'; rw [HM.out] at this; exact this); have HQ := kept hq; have HROW := kept hrow; have Y0 := kept y0; have Y1 := kept y1; clear hq hrow hrow0 y0 y1; go_wp2; have hbl : Below wr.heap.size wr (wr.alloc (.cells #[.int .i64 (q : Int), .slice (some ⟨b, 0, none⟩) 256 c] 200)) := (Below.refl _ wr).alloc (Nat.le_refl _) _; have hblk := Blk.new wr 200 #[.int .i64 (q : Int), .slice (some ⟨b, 0, none⟩) 256 c]; generalize (wr.alloc (.cells #[.int .i64 (q : Int), .slice (some ⟨b, 0, none⟩) 256 c] 200)) = w1 at hbl hblk ⊢; have HBL := kept hbl; have x0 : w1.cell? ⟨wr.heap.size, 0, none⟩ = some (.int .i64 (q : Int)) := hblk.cell 0; have x1 : w1.cell? ⟨wr.heap.size, 1, none⟩ = some (.slice (some ⟨b, 0, none⟩) 256 c) := hblk.cell 1; have u0 : w1.cell? ⟨r, 0, none⟩ = some (.slice (some ⟨pg, 0, none⟩) m pc) := (hbl.cell (p := ⟨r, 0, none⟩) (World.block_lt_of_cell? wr _ Y0.out)).trans Y0.out; have u1 : w1.cell? ⟨pg, q, none⟩ = some v0 := (hbl.cell (p := ⟨pg, q, none⟩) (World.block_lt_of_cell? wr _ Y1.out)).trans Y1.out; have HST : Hid (RHead w base r R F0 (some ⟨g, 0, none⟩) cc (k + 1) (w1.setCell ⟨pg, q, none⟩ (.slice (some ⟨b, 0, none⟩) 256 c)) ∧ w1.frozen? ⟨pg, q, none⟩ = false ∧ pg ≠ r) := kept (HR.out.step hk' HM.out HQ.out hqn HBL.out Y0.out (HROW.out.turned (Turned.of_below HBL.out (fun _ => False)) (fun _ _ _ _ => id))); have u2 : w1.frozen? ⟨pg, q, none⟩ = false := HST.out.2.1; have hqm : (q : Int) < (m : Int) := by omega
    clear hbl hblk z1 z2; refine wp_region_still_tail 9 (by kernel_rfl) (by kernel_rfl) ?_; simp only [List.take_succ_cons, List.take_zero, List.drop_succ_cons, List.drop_zero]
    iterate 9 still_step
    refine wpStill_nil ?_
    change wpList _ _ _ _ _ w1.drew
    go_wp2; go_roundw
    case rel => exact ⟨k + 1, by omega, by go_num, kept HST.out.1.drew⟩
    case measure => simp [intOf]; omega
  · obtain rfl : k = n := by omega
    have HCL := kept (HR.out.1.clear); have v1 := HR.out.2.2; have v2 := HR.out.1.fz 1; have HC := kept (did_any base r _ _ HCL.out.1 HDI.out.1 HDI.out.2.1 HDI.out.2.2); have HTT := kept HR.out.2.1; go_wp2_with (first | (go_at_call 90; (with_reducible refine (HC.out).mono ?_); rintro e w3 ⟨rfl, h3⟩))
    go_ret; have e : R.cache.take k = R.cache := List.take_of_length_le (by rw [HN.out]; exact Nat.le_refl _); have h4 := h3.out; rw [e] at h4; exact ⟨rfl, kept ⟨h4.1, (HTT.out.ref_trans HCL.out.2).ref_trans h4.2⟩⟩
end Go.Proofs.YtcapcobkildmcaaGreatDoor
end
