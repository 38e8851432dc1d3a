/- Da Di Rfa Rfb Rfl -/
import Derived.Test.YtcapcobkildmcaaGreatDoorBDs
import Derived.Test.YtcapcobkildmcaaGreatDoorBRows3
import Derived.RegionCalls
import Derived.Deep.RegionWith
section
namespace Go.Proofs.YtcapcobkildmcaaGreatDoor
open Go.ChangeShapes Go.WideShapes Go.ChangeAt Go.RowKit
set_option linter.unusedVariables false
set_option linter.unusedSimpArgs false
set_option maxRecDepth 100000
set_option maxHeartbeats 16000000
structure Ac where
 k : Int
 p : Int
 n : Int
 x : Int
def St.tryWrite (S : St) (p : Int) (xs : List UInt8) : St := if S.fuse = 0 then S else if p < 0 ∨ (S.pages.length : Int) ≤ p then S else S.write p xs
def St.trySync (S : St) : St := if S.fuse = 0 then S else S.sync
def Left (w : World) (d : Dk) (S : St) (w' : World) : Prop := Dsk w' d S ∧ Turned w w' d.own
theorem Left.refl {w : World} {d : Dk} {S : St} (h : Dsk w d S) : Left w d S w := ⟨h, Turned.refl _ _⟩
theorem Left.of_dsk {w w' : World} {d : Dk} {S : St} (h : Dsk w d S) (hb : Below w.heap.size w w') : Left w d S w' := ⟨h.below hb, Turned.of_below hb _⟩
def writeE (S : St) (p : Int) (n : Nat) : Int := if S.fuse = 0 then 10 else if p < 0 ∨ (S.pages.length : Int) ≤ p then 2 else if n = 256 then 0 else 4
theorem write_any (d : Dk) (S : St) (p : Int) (A : Option Addr) (cp : Nat) (xs : List UInt8) (w : World) (h : Dsk w d S) (hr : Rd w A 256 xs) (hd : S.done ≤ 1000000) :
 Calls Tryz.prog 29 #[.pointer (some ⟨d.r, 0, none⟩), .int .i64 p, .slice A 256 cp] w fun e w' => e = .returned (.int .i64 (writeE S p 256)) ∧ Hid (Left w d (S.tryWrite p xs) w') := by
 unfold writeE St.tryWrite; by_cases hf : S.fuse = 0
 · rw [if_pos hf, if_pos hf]; exact (write_no d p 10 A 256 cp w (by omega) (has_dead d S p w h hf)).mono fun e w' ⟨a, b⟩ => ⟨a, by subst b; exact Left.refl h⟩
 · rw [if_neg hf, if_neg hf]; by_cases hp : p < 0 ∨ (S.pages.length : Int) ≤ p
   · rw [if_pos hp, if_pos hp]; exact (write_no d p 2 A 256 cp w (by omega) (has_range d S p w h hf hp)).mono fun e w' ⟨a, b⟩ => ⟨a, by subst b; exact Left.refl h⟩
   · rw [if_neg hp, if_neg hp, if_pos rfl]; exact (write_ok d S p A cp xs w h hf (by omega) (by omega) hr hd).mono fun e w' ⟨a, b⟩ => ⟨a, b.out⟩
def syncE (S : St) : Int := if S.fuse = 0 then 10 else 0
theorem sync_any (d : Dk) (S : St) (w : World) (h : Dsk w d S) (hd : S.done ≤ 1000000) :
 Calls Tryz.prog 39 #[.pointer (some ⟨d.r, 0, none⟩)] w fun e w' => e = .returned (.int .i64 (syncE S)) ∧ Hid (Left w d S.trySync w') := by
 unfold syncE St.trySync; by_cases hf : S.fuse = 0
 · rw [if_pos hf, if_pos hf]; exact (sync_no d S w h hf).mono fun e w' ⟨a, b⟩ => ⟨a, by subst b; exact Left.refl h⟩
 · rw [if_neg hf, if_neg hf]; exact (sync_ok d S w h hf hd).mono fun e w' ⟨a, b⟩ => ⟨a, b.out⟩
theorem Dsk.page_len {w : World} {d : Dk} {S : St} (h : Dsk w d S) {p : Nat} (hp : p < S.pages.length) : (S.page (p : Int)).length = 256 := by
 unfold St.page; cases hc : S.cache (p : Int) with
 | some xs => exact (h.1.2.2.1 _ _ hc).2.2
 | none =>
   show (S.pages.getD (Int.toNat (p : Int)) []).length = 256; rw [Int.toNat_natCast, List.getD_eq_getElem?_getD, List.getElem?_eq_getElem hp]; exact h.2.2.1.len hp
theorem own_new {w : World} {base : Nat} {e : TypeId} {A : Option Addr} {n c : Nat} {xs : List Value} (h : w.ownsRow base e 1 (.slice A n c) n xs) : ∀ a, A = some a → base ≤ a.block := by
 intro a e; rcases h.2 with ⟨h0, _⟩ | ⟨g, cap, cur, hv, hb, _⟩
 · injection h0 with h0; rw [h0] at e; cases e
 · injection hv with hA; rw [hA] at e; cases e; exact hb
structure RSt where
 pages : List (List UInt8)
 cache : List (Int × List UInt8)
 fuse : Int
 dead : Bool
 done : Nat
def RowV (w : World) (v : Value) (xs : List UInt8) : Prop := ∃ b c cs fr, v = .slice (some ⟨b, 0, none⟩) 256 c ∧ 256 ≤ c ∧ w.heap[b]? = some (.cells cs 5 fr) ∧ Rd w (some ⟨b, 0, none⟩) 256 xs
def RowsP (w : World) (ps : List Value) (pages : List (List UInt8)) : Prop := ps.length = pages.length ∧ ∀ i (h : i < ps.length) (h' : i < pages.length), RowV w ps[i] pages[i]
def RowsC (w : World) (cs : List (Int × Value)) (cache : List (Int × List UInt8)) : Prop := cs.length = cache.length ∧ ∀ i (h : i < cs.length) (h' : i < cache.length), cs[i].1 = cache[i].1 ∧ RowV w cs[i].2 cache[i].2
def ents (cs : List (Int × Value)) : List Value := cs.flatMap fun e => [.int .i64 e.1, e.2]
theorem ents_append (cs ds : List (Int × Value)) : ents (cs ++ ds) = ents cs ++ ents ds := by simp [ents]
theorem ents_get (cs : List (Int × Value)) {i : Nat} (h : i < cs.length) : (ents cs)[i * 2]? = some (.int .i64 cs[i].1) ∧ (ents cs)[i * 2 + 1]? = some cs[i].2 := by
 induction cs generalizing i with
 | nil => simp at h
 | cons c cs ih =>
   have e : ents (c :: cs) = .int .i64 c.1 :: c.2 :: ents cs := rfl; rw [e]; cases i with
   | zero => exact ⟨rfl, rfl⟩
   | succ i =>
     have := ih (i := i) (by simpa using h); have e2 : (i + 1) * 2 = i * 2 + 1 + 1 := by omega
     rw [e2]; simpa using this
def RefD (w : World) (base r : Nat) (R : RSt) : Prop :=
 ∃ pg pc cA cc ps cs, Blk w r 188 [.slice (some ⟨pg, 0, none⟩) R.pages.length pc, .slice cA R.cache.length cc, .int .i64 R.fuse, .bool R.dead, .int .i64 (R.done : Int)] ∧ base ≤ r ∧
   w.ownsRow base 46 1 (.slice (some ⟨pg, 0, none⟩) R.pages.length pc) R.pages.length ps ∧ RowsP w ps R.pages ∧
   w.ownsRow base 200 2 (.slice cA R.cache.length cc) R.cache.length (ents cs) ∧ RowsC w cs R.cache
def RefK (w : World) (base i : Nat) : Prop := base ≤ i ∧ ∃ c t fr, w.heap[i]? = some (.cells c t fr) ∧ (t = 188 ∨ t = 46 ∨ t = 200)
section
variable {w w' : World} {base r : Nat} {R : RSt}
theorem RowV.keep {v : Value} {xs : List UInt8} (h : RowV w v xs) (hk : ∀ b c cs fr, v = .slice (some ⟨b, 0, none⟩) 256 c → w.heap[b]? = some (.cells cs 5 fr) → w'.heap[b]? = w.heap[b]?) : RowV w' v xs := by
 obtain ⟨b, c, cs, fr, rfl, hc, hb, hr⟩ := h; have e := hk b c cs fr rfl hb; refine ⟨b, c, cs, fr, rfl, hc, e.trans hb, hr.1, fun h0 => ?_⟩; obtain ⟨a, ea, hcs⟩ := hr.2 h0; cases ea; refine ⟨_, rfl, fun j hj => ?_⟩; rw [World.cell?_of_block (w := w) (by rw [add_block]; exact e)]; exact hcs j hj
theorem RowV.turned {T : Nat → Prop} {v : Value} {xs : List UInt8} (h : RowV w v xs) (t : Turned w w' T) (hn : ∀ i c fr, w.heap[i]? = some (.cells c 5 fr) → ¬ T i) : RowV w' v xs :=
 h.keep fun b c cs fr _ hb => t.block b (Array.getElem?_eq_some_iff.1 hb).1 (hn b cs fr hb)
theorem RowsP.turned {T : Nat → Prop} {ps : List Value} {pages : List (List UInt8)} (h : RowsP w ps pages) (t : Turned w w' T) (hn : ∀ i c fr, w.heap[i]? = some (.cells c 5 fr) → ¬ T i) : RowsP w' ps pages :=
 ⟨h.1, fun i h1 h2 => (h.2 i h1 h2).turned t hn⟩
theorem RowsC.turned {T : Nat → Prop} {cs : List (Int × Value)} {cache : List (Int × List UInt8)} (h : RowsC w cs cache) (t : Turned w w' T) (hn : ∀ i c fr, w.heap[i]? = some (.cells c 5 fr) → ¬ T i) : RowsC w' cs cache :=
 ⟨h.1, fun i h1 h2 => ⟨(h.2 i h1 h2).1, (h.2 i h1 h2).2.turned t hn⟩⟩
theorem own_turned {T : Nat → Prop} {e : TypeId} {size n : Nat} {v : Value} {xs : List Value} (h : w.ownsRow base e size v n xs) (t : Turned w w' T) (hn : ∀ i c fr, w.heap[i]? = some (.cells c e fr) → ¬ T i) : w'.ownsRow base e size v n xs := by
 refine ⟨h.1, ?_⟩; rcases h.2 with h0 | ⟨g, cap, cur, hv, hb, hg, r⟩
 · exact .inl h0
 · exact .inr ⟨g, cap, cur, hv, hb, (t.block g (Array.getElem?_eq_some_iff.1 hg).1 (hn g cur _ hg)).trans hg, r⟩
theorem RefD.turned {T : Nat → Prop} (h : RefD w base r R) (t : Turned w w' T) (hn : ∀ i c ty fr, w.heap[i]? = some (.cells c ty fr) → (ty = 188 ∨ ty = 46 ∨ ty = 200 ∨ ty = 5) → ¬ T i) : RefD w' base r R := by
 obtain ⟨pg, pc, cA, cc, ps, cs, hb, hbr, hop, hrp, hoc, hrc⟩ := h; exact ⟨pg, pc, cA, cc, ps, cs, t.blk hb (hn r _ _ _ hb (.inl rfl)), hbr, own_turned hop t (fun i c fr h => hn i c _ fr h (.inr (.inl rfl))), hrp.turned t (fun i c fr h => hn i c _ fr h (.inr (.inr (.inr rfl)))),
  own_turned hoc t (fun i c fr h => hn i c _ fr h (.inr (.inr (.inl rfl)))), hrc.turned t (fun i c fr h => hn i c _ fr h (.inr (.inr (.inr rfl))))⟩
theorem RefD.below (h : RefD w base r R) (hb : Below w.heap.size w w') : RefD w' base r R := h.turned (Turned.of_below hb (fun _ => False)) (fun _ _ _ _ _ _ => id)
theorem RefD.drew (h : RefD w base r R) : RefD w.drew base r R := h.below ((Below.refl _ w).drew)
theorem RefD.disk {d : Dk} {S : St} (h : RefD w base r R) (hd : Dsk w d S) (t : Turned w w' d.own) : RefD w' base r R := h.turned t fun i c ty fr hi hty ho => by
 obtain ⟨_, hr, ⟨cur, hg, _⟩, k, _, hm⟩ := hd; obtain ⟨es, cl, hm⟩ := hm.kind; unfold Blk at hr; rcases ho with rfl | rfl | rfl
 · rw [hr] at hi; simp at hi; obtain ⟨_, rfl, _⟩ := hi; revert hty; decide
 · rw [hg] at hi; simp at hi; obtain ⟨_, rfl, _⟩ := hi; revert hty; decide
 · rw [hm] at hi; simp at hi
theorem Dsk.ref {d : Dk} {S : St} (hd : Dsk w d S) (t : Turned w w' (RefK w base)) : Dsk w' d S := hd.turned t fun i ho hk => by
 obtain ⟨_, c, ty, fr, hi, hty⟩ := hk; obtain ⟨_, hr, ⟨cur, hg, _⟩, k, _, hm⟩ := hd; obtain ⟨es, cl, hm⟩ := hm.kind; unfold Blk at hr; rcases ho with rfl | rfl | rfl
 · rw [hr] at hi; simp at hi; obtain ⟨_, rfl, _⟩ := hi; revert hty; decide
 · rw [hg] at hi; simp at hi; obtain ⟨_, rfl, _⟩ := hi; revert hty; decide
 · rw [hm] at hi; simp at hi
theorem Blk.ref {b : Nat} {t : TypeId} {cs : List Value} (hb : Blk w b t cs) (h : t ≠ 188 ∧ t ≠ 46 ∧ t ≠ 200) (tu : Turned w w' (RefK w base)) : Blk w' b t cs := tu.blk hb fun hk => by
 obtain ⟨_, c, ty, fr, hi, hty⟩ := hk; unfold Blk at hb; rw [hb] at hi; simp at hi; obtain ⟨_, rfl, _⟩ := hi; rcases hty with e | e | e
 · exact h.1 e
 · exact h.2.1 e
 · exact h.2.2 e
theorem Turned.ref_trans {w1 w2 : World} (h : Turned w w1 (RefK w base)) (k : Turned w1 w2 (RefK w1 base)) : Turned w w2 (RefK w base) :=
 ⟨k.os.trans h.os, k.tape.trans h.tape, k.output.trans h.output, Nat.le_trans h.size k.size, fun i hi hn => by
  have e := h.block i hi hn; exact (k.block i (Nat.lt_of_lt_of_le hi h.size) (fun ⟨h1, c, t, fr, h2, h3⟩ => hn ⟨h1, c, t, fr, e ▸ h2, h3⟩)).trans e⟩
theorem RefD.kr (h : RefD w base r R) : RefK w base r := by obtain ⟨_, _, _, _, _, _, hb, hbr, _⟩ := h; exact ⟨hbr, _, _, _, hb, .inl rfl⟩
theorem RefD.cells (h : RefD w base r R) : ∃ pg pc cA cc, w.cell? ⟨r, 0, none⟩ = some (.slice (some ⟨pg, 0, none⟩) R.pages.length pc) ∧ w.cell? ⟨r, 1, none⟩ = some (.slice cA R.cache.length cc) ∧ w.cell? ⟨r, 2, none⟩ = some (.int .i64 R.fuse) ∧ w.cell? ⟨r, 3, none⟩ = some (.bool R.dead) ∧ w.cell? ⟨r, 4, none⟩ = some (.int .i64 (R.done : Int)) := by
 obtain ⟨pg, pc, cA, cc, _, _, hb, _⟩ := h; exact ⟨pg, pc, cA, cc, hb.cell 0, hb.cell 1, hb.cell 2, hb.cell 3, hb.cell 4⟩
theorem RefD.fz (h : RefD w base r R) (i : Nat) : w.frozen? ⟨r, i, none⟩ = false := by obtain ⟨_, _, _, _, _, _, hb, _⟩ := h; exact hb.frozen i
end
def rhasE (R : RSt) (p : Int) : Int := if R.dead = true then 10 else if p < 0 ∨ (R.pages.length : Int) ≤ p then 2 else 0
theorem rcheck_any (base r : Nat) (R : RSt) (p : Int) (w : World) (h : RefD w base r R) :
 Calls Tryz.prog 87 #[.pointer (some ⟨r, 0, none⟩), .int .i64 p] w fun e w' => e = .returned (.int .i64 (rhasE R p)) ∧ w = w' := by
 obtain ⟨pg, pc, cA, cc, c0, c1, c2, c3, c4⟩ := h.cells; unfold rhasE; cases hd : R.dead with
 | true =>
   rw [hd] at c3; simp only [if_true]; clear hd h c0 c1 c2 c4; go_enter Tryz.func87, Tryz.ntmps87; go_wp2; go_ret; exact ⟨rfl, rfl⟩
 | false =>
   rw [hd] at c3; simp only [Bool.false_eq_true, if_false]; clear hd h c1 c2 c4; by_cases hp : p < 0 ∨ (R.pages.length : Int) ≤ p
   · rw [if_pos hp]; by_cases h0 : p < 0
     · clear hp; go_enter Tryz.func87, Tryz.ntmps87; go_wp2; go_ret; exact ⟨rfl, rfl⟩
     · have h1 : (R.pages.length : Int) ≤ p := by omega
       clear hp; go_enter Tryz.func87, Tryz.ntmps87; go_wp2; go_ret; exact ⟨rfl, rfl⟩
   · rw [if_neg hp]; have h0 : ¬ p < 0 := by omega
     have h1 : ¬ (R.pages.length : Int) ≤ p := by omega
     clear hp; go_enter Tryz.func87, Tryz.ntmps87; go_wp2; go_ret; exact ⟨rfl, rfl⟩
theorem ptwin_any (A : Option Addr) (n c : Nat) (xs : List UInt8) (w : World) (hr : Rd w A n xs) (hl : n ≤ 4096) :
 Calls Tryz.prog 89 #[.slice A n c] w fun e w' => ∃ A' c', e = .returned (.slice A' n c') ∧ Hid (w'.ownsRow w.heap.size 5 1 (.slice A' n c') n (cellsOf xs) ∧ Below w.heap.size w w') := by
 have HO := kept (World.ownsRow_made (base := w.heap.size) (e := 5) (size := 1) w #[] 0 (Nat.le_refl _) (Nat.zero_le _) rfl); have HR := kept (hr.alloc (.cells #[] 5)); have HB := kept ((Below.refl w.heap.size w).alloc (Nat.le_refl _) (.cells #[] 5)); clear hr; go_enter Tryz.func89, Tryz.ntmps89; go_wp2_with (at_builtin; refine wpList_append_rd (xs := []) rfl _ _ 46 rfl w.heap.size 5 rfl rfl Tryz.underlying46 (by kernel_rfl) HO.out HR.out (by omega) (by simp) ?_; intro A' c' w1 hown1 hb1; have HO1 := kept hown1; have HB1 := kept hb1; clear hown1 hb1)
 go_ret; have e : 0 + n = n := by omega
 have h1 := HO1.out; rw [List.nil_append, e] at h1; exact ⟨A', c', by simp, kept ⟨h1, HB.out.trans HB1.out⟩⟩
def RSt.did (R : RSt) : RSt := { R with done := R.done + 1, fuse := if 0 < R.fuse then R.fuse - 1 else R.fuse, dead := if R.fuse = 1 then true else R.dead }
theorem RefD.set {w : World} {base r : Nat} {R R' : RSt} (h : RefD w base r R) (hp : R'.pages = R.pages) (hc : R'.cache = R.cache) {w' : World} (hg : Turned w w' (fun i => i = r))
 (hb : ∀ pv cv, Blk w r 188 [pv, cv, .int .i64 R.fuse, .bool R.dead, .int .i64 (R.done : Int)] → Blk w' r 188 [pv, cv, .int .i64 R'.fuse, .bool R'.dead, .int .i64 (R'.done : Int)]) : RefD w' base r R' := by
 obtain ⟨pg, pc, cA, cc, ps, cs, hbk, hbr, hop, hrp, hoc, hrc⟩ := h; unfold Blk at hbk; have hne : ∀ i c ty fr, w.heap[i]? = some (.cells c ty fr) → ty ≠ 188 → ¬ i = r := fun i c ty fr hi hty e => by
  subst e; rw [hbk] at hi; simp at hi; exact hty hi.2.1.symm
 refine ⟨pg, pc, cA, cc, ps, cs, ?_, hbr, ?_, ?_, ?_, ?_⟩
 · rw [hp, hc]; exact hb _ _ hbk
 · rw [hp]; exact own_turned hop hg (fun i c fr h => hne i c _ fr h (by decide))
 · rw [hp]; exact hrp.turned hg (fun i c fr h => hne i c _ fr h (by decide))
 · rw [hc]; exact own_turned hoc hg (fun i c fr h => hne i c _ fr h (by decide))
 · rw [hc]; exact hrc.turned hg (fun i c fr h => hne i c _ fr h (by decide))
theorem Turned.cell_r {w w' : World} {r : Nat} (h : Turned w w' (fun i => i = r)) (i : Nat) (u : Value) : Turned w (w'.setCell ⟨r, i, none⟩ u) (fun i => i = r) := h.setCell (fun _ => rfl) u
theorem Turned.ref_of {w w' : World} {base r : Nat} {R : RSt} (h : RefD w base r R) (t : Turned w w' (fun i => i = r)) : Turned w w' (RefK w base) := t.mono fun i _ e => by subst e; exact h.kr
theorem did_any (base r : Nat) (R : RSt) (w : World) (h : RefD w base r R) (hf : -1 ≤ R.fuse) (hf2 : R.fuse ≤ 9223372036854775807) (hd : R.done ≤ 1000000) :
 Calls Tryz.prog 90 #[.pointer (some ⟨r, 0, none⟩)] w fun e w' => e = .returned (.tuple #[]) ∧ Hid (RefD w' base r R.did ∧ Turned w w' (RefK w base)) := by
 obtain ⟨pg, pc, cA, cc, c0, c1, c2, c3, c4⟩ := h.cells; have f2 := h.fz 2; have f3 := h.fz 3; have f4 := h.fz 4; have HR := kept h; have t1 : Turned w (w.setCell ⟨r, 4, none⟩ (.int .i64 ((R.done : Int) + 1))) (fun i => i = r) := (Turned.refl w _).cell_r 4 _; have e1 : ((R.done + 1 : Nat) : Int) = (R.done : Int) + 1 := by omega
 by_cases h1 : R.fuse = 1
 · have t3 := (t1.cell_r 2 (.int .i64 0)).cell_r 3 (.bool true); have H : Hid (RefD (((w.setCell ⟨r, 4, none⟩ (.int .i64 ((R.done : Int) + 1))).setCell ⟨r, 2, none⟩ (.int .i64 0)).setCell ⟨r, 3, none⟩ (.bool true)) base r R.did ∧ Turned w (((w.setCell ⟨r, 4, none⟩ (.int .i64 ((R.done : Int) + 1))).setCell ⟨r, 2, none⟩ (.int .i64 0)).setCell ⟨r, 3, none⟩ (.bool true)) (RefK w base)) :=
    kept ⟨h.set (R' := R.did) rfl rfl t3 (fun pv cv hb => by
     have := ((hb.set_ 4 (.int .i64 ((R.done : Int) + 1))).set_ 2 (.int .i64 0)).set_ 3 (.bool true); simp only [RSt.did, h1, e1]; simpa using this), t3.ref_of h⟩
   rw [h1] at c2; clear h t1 t3 e1 h1 c0 c1; go_enter Tryz.func90, Tryz.ntmps90; go_wp2
   go_end0
   exact ⟨rfl, H⟩
 by_cases h0 : 0 < R.fuse
 · have t3 := t1.cell_r 2 (.int .i64 (R.fuse - 1)); have H : Hid (RefD ((w.setCell ⟨r, 4, none⟩ (.int .i64 ((R.done : Int) + 1))).setCell ⟨r, 2, none⟩ (.int .i64 (R.fuse - 1))) base r R.did ∧ Turned w ((w.setCell ⟨r, 4, none⟩ (.int .i64 ((R.done : Int) + 1))).setCell ⟨r, 2, none⟩ (.int .i64 (R.fuse - 1))) (RefK w base)) :=
    kept ⟨h.set (R' := R.did) rfl rfl t3 (fun pv cv hb => by
     have := (hb.set_ 4 (.int .i64 ((R.done : Int) + 1))).set_ 2 (.int .i64 (R.fuse - 1)); simp only [RSt.did, h1, h0, e1, if_true, if_false]; simpa using this), t3.ref_of h⟩
   have hz : (R.fuse - 1 == 0) = false := by simp; omega
   have hm : 1 ≤ R.fuse := by omega
   clear h t1 t3 e1 h1 c0 c1; go_enter Tryz.func90, Tryz.ntmps90; go_wp2
   go_end0
   exact ⟨rfl, H⟩
 · have H : Hid (RefD (w.setCell ⟨r, 4, none⟩ (.int .i64 ((R.done : Int) + 1))) base r R.did ∧ Turned w (w.setCell ⟨r, 4, none⟩ (.int .i64 ((R.done : Int) + 1))) (RefK w base)) :=
    kept ⟨h.set (R' := R.did) rfl rfl t1 (fun pv cv hb => by
     have := hb.set_ 4 (.int .i64 ((R.done : Int) + 1)); simp only [RSt.did, h1, h0, e1, if_false]; simpa using this), t1.ref_of h⟩
   clear h t1 e1 h1 c0 c1; go_enter Tryz.func90, Tryz.ntmps90; go_wp2
   go_end0
   exact ⟨rfl, H⟩
def RowAt (w : World) (v : Value) (xs : List UInt8) : Prop := ∃ b c, v = .slice (some ⟨b, 0, none⟩) 256 c ∧ 256 ≤ c ∧ Rd w (some ⟨b, 0, none⟩) 256 xs
theorem RefD.opened {w : World} {base r : Nat} {R : RSt} (h : RefD w base r R) : ∃ pg pc cA cc, w.cell? ⟨r, 0, none⟩ = some (.slice (some ⟨pg, 0, none⟩) R.pages.length pc) ∧ w.cell? ⟨r, 1, none⟩ = some (.slice cA R.cache.length cc) ∧ w.cell? ⟨r, 3, none⟩ = some (.bool R.dead) ∧
 (∀ i (hi : i < R.pages.length), ∃ v, w.cell? ⟨pg, i, none⟩ = some v ∧ RowAt w v R.pages[i]) ∧
 ∀ i (hi : i < R.cache.length), ∃ g v, cA = some ⟨g, 0, none⟩ ∧ w.cell? ⟨g, i * 2, none⟩ = some (.int .i64 R.cache[i].1) ∧ w.cell? ⟨g, i * 2 + 1, none⟩ = some v ∧ RowAt w v R.cache[i].2 := by
 obtain ⟨pg, pc, cA, cc, ps, cs, hb, hbr, hop, hrp, hoc, hrc⟩ := h; refine ⟨pg, pc, cA, cc, hb.cell 0, hb.cell 1, hb.cell 3, fun i hi => ?_, fun i hi => ?_⟩
 · have hl : i < ps.length := by rw [hrp.1]; exact hi
   have hc := hop.cells (g := pg) rfl i ps[i] (List.getElem?_eq_getElem hl); rw [Addr.add_mid, Nat.zero_add] at hc; obtain ⟨b, c, _, _, e, hc2, _, hr⟩ := hrp.2 i hl hi; exact ⟨_, hc, b, c, e, hc2, hr⟩
 · have hl : i < cs.length := by rw [hrc.1]; exact hi
   rcases hoc.2 with ⟨_, h0⟩ | ⟨g, cap, cur, hv, _⟩
   · omega
   · injection hv with hA
     subst hA; obtain ⟨e1, e2⟩ := ents_get cs hl; have hc := hoc.cells (g := g) rfl (i * 2) _ e1; have hc' := hoc.cells (g := g) rfl (i * 2 + 1) _ e2; rw [Addr.add_mid, Nat.zero_add] at hc hc'; obtain ⟨k1, b, c, _, _, e, hc2, _, hr⟩ := hrc.2 i hl hi; rw [k1] at hc; exact ⟨g, _, rfl, hc, hc', b, c, e, hc2, hr⟩
theorem at_found (base r : Nat) (R : RSt) (p : Int) (i : Nat) (w : World) (h : RefD w base r R) (hi : i < R.cache.length) (hk : R.cache[i].1 = p) (hf : ∀ j (hj : j < R.cache.length), j < i → R.cache[j].1 ≠ p) (hl : R.cache.length ≤ 100000) :
 Calls Tryz.prog 88 #[.pointer (some ⟨r, 0, none⟩), .int .i64 p] w fun e w' => e = .returned (.int .i64 (i : Int)) ∧ w = w' := by
 obtain ⟨pg, pc, cA, cc, c0, c1, c3, hpg, hen⟩ := h.opened; have HE := kept hen; have HK : Hid (∀ h : i < R.cache.length, R.cache[i].1 = p) := kept (fun _ => hk); have HF := kept hf; obtain ⟨g, v0, rfl, z1, z2, z3⟩ := hen i hi; clear z1 z2 z3 hen hk hf hpg h c0 c3; obtain ⟨n, hn⟩ : ∃ n, R.cache.length = n := ⟨_, rfl⟩
 rw [hn] at c1; have hin : i < n := by rw [← hn]; exact hi
 have hl' : n ≤ 100000 := by rw [← hn]; exact hl
 have HN := kept hn; clear hn hi hl; go_enter Tryz.func88, Tryz.ntmps88; go_wp2; go_loopw [11] (fun q wr => ∃ k : Nat, k ≤ i ∧ q = .int .i64 (k : Int) ∧ wr = w) (fun q _ => n - (intOf q).toNat)
 case atStart => exact ⟨0, Nat.zero_le _, rfl, rfl⟩
 case round =>
  obtain ⟨k, hki, rfl, rfl⟩ := hrel; have hkn : k < n := by omega
  have hkn' : k < R.cache.length := by rw [HN.out]; exact hkn
  obtain ⟨g', v, eg, k1, _⟩ := HE.out k hkn'; obtain rfl : g = g' := by injection eg with eg; injection eg
  by_cases hlt : k < i
  · have hne : (R.cache[k].1 == p) = false := by simpa using HF.out k hkn' hlt
    clear eg; go_wp2; go_roundw
    case rel => exact ⟨k + 1, by omega, by go_num, trivial⟩
    case measure => simp [intOf]; omega
  · obtain rfl : k = i := by omega
    rw [HK.out hkn'] at k1; clear eg; go_wp2; go_ret; exact ⟨rfl, rfl⟩
theorem at_none (base r : Nat) (R : RSt) (p : Int) (w : World) (h : RefD w base r R) (hf : ∀ j (hj : j < R.cache.length), R.cache[j].1 ≠ p) (hl : R.cache.length ≤ 100000) :
 Calls Tryz.prog 88 #[.pointer (some ⟨r, 0, none⟩), .int .i64 p] w fun e w' => e = .returned (.int .i64 (-1)) ∧ w = w' := by
 obtain ⟨pg, pc, cA, cc, c0, c1, c3, hpg, hen⟩ := h.opened; have HE := kept hen; have HF := kept hf; clear hen hf hpg h c0 c3; generalize hn : R.cache.length = n at c1 hl; have HN := kept hn; clear hn; go_enter Tryz.func88, Tryz.ntmps88; go_wp2; go_loopw [11] (fun q wr => ∃ k : Nat, k ≤ n ∧ q = .int .i64 (k : Int) ∧ wr = w) (fun q _ => n - (intOf q).toNat)
 case atStart => exact ⟨0, Nat.zero_le _, rfl, rfl⟩
 case round =>
  obtain ⟨k, hkn, rfl, rfl⟩ := hrel; by_cases hlt : k < n
  · have hkn' : k < R.cache.length := by rw [HN.out]; exact hlt
    obtain ⟨g, v, rfl, k1, _⟩ := HE.out k hkn'; have hne : (R.cache[k].1 == p) = false := by simpa using HF.out k hkn'
    go_wp2; go_roundw
    case rel => exact ⟨k + 1, by omega, by go_num, trivial⟩
    case measure => simp [intOf]; omega
  · obtain rfl : k = n := by omega
    go_wp2; go_ret; exact ⟨rfl, rfl⟩
def rfind (l : List (Int × List UInt8)) (p : Int) : Option (List UInt8) := (l.find? (fun e => e.1 == p)).map (·.2)
theorem rfind_cons (e : Int × List UInt8) (l : List (Int × List UInt8)) (p : Int) : rfind (e :: l) p = if e.1 = p then some e.2 else rfind l p := by
 unfold rfind; rw [List.find?_cons]; by_cases h : e.1 = p
 · simp [h]
 · have : (e.1 == p) = false := by simpa using h
   rw [this, if_neg h]
theorem first_ix (l : List (Int × List UInt8)) (p : Int) :
 (∃ i, ∃ hi : i < l.length, l[i].1 = p ∧ (∀ j (hj : j < l.length), j < i → l[j].1 ≠ p) ∧ rfind l p = some l[i].2) ∨ ((∀ j (hj : j < l.length), l[j].1 ≠ p) ∧ rfind l p = none) := by
 induction l with
 | nil => exact .inr ⟨fun j hj => absurd hj (by simp), rfl⟩
 | cons e l ih =>
   rw [rfind_cons]; by_cases h : e.1 = p
   · exact .inl ⟨0, by simp, h, fun j hj h0 => absurd h0 (by omega), by rw [if_pos h]; rfl⟩
   · rw [if_neg h]; rcases ih with ⟨i, hi, h1, h2, h3⟩ | ⟨h1, h2⟩
     · refine .inl ⟨i + 1, by simpa using hi, h1, fun j hj hji => ?_, h3⟩; cases j with
       | zero => exact h
       | succ j => exact h2 j (by simpa using hj) (by omega)
     · refine .inr ⟨fun j hj => ?_, h2⟩; cases j with
       | zero => exact h
       | succ j => exact h1 j (by simpa using hj)
theorem rfind_set (l : List (Int × List UInt8)) (p : Int) (xs : List UInt8) (i : Nat) (hi : i < l.length) (hk : l[i].1 = p) (hf : ∀ j (hj : j < l.length), j < i → l[j].1 ≠ p) (y : Int) :
 rfind (l.set i (p, xs)) y = if y = p then some xs else rfind l y := by
 induction l generalizing i with
 | nil => simp at hi
 | cons e l ih =>
   cases i with
   | zero =>
     have hk' : e.1 = p := hk; rw [List.set_cons_zero, rfind_cons, rfind_cons]; by_cases hy : y = p
     · subst hy; simp
     · rw [if_neg hy, if_neg (fun h => hy h.symm), if_neg (fun h => hy (by rw [← h, hk']))]
   | succ i =>
     rw [List.set_cons_succ, rfind_cons, rfind_cons, ih i (by simpa using hi) hk (fun j hj hji => hf (j + 1) (by simpa using hj) (by omega))]; have h0 := hf 0 (by simp) (by omega); have h0' : e.1 ≠ p := h0; by_cases hy : y = p
     · subst hy; rw [if_neg h0', if_pos rfl, if_pos rfl]
     · rw [if_neg hy]; simp only [hy, if_false]
theorem rfind_append (l : List (Int × List UInt8)) (p : Int) (xs : List UInt8) (hf : ∀ j (hj : j < l.length), l[j].1 ≠ p) (y : Int) : rfind (l ++ [(p, xs)]) y = if y = p then some xs else rfind l y := by
 induction l with
 | nil =>
   rw [List.nil_append, rfind_cons]; by_cases hy : y = p
   · subst hy; simp
   · rw [if_neg hy, if_neg (fun h => hy h.symm)]
 | cons e l ih =>
   rw [List.cons_append, rfind_cons, rfind_cons, ih (fun j hj => hf (j + 1) (by simpa using hj))]; have h0 : e.1 ≠ p := hf 0 (by simp); by_cases hy : y = p
   · subst hy; rw [if_neg h0, if_pos rfl, if_pos rfl]
   · rw [if_neg hy]; simp only [hy, if_false]
theorem rfind_mem (l : List (Int × List UInt8)) (y : Int) : (rfind l y).isSome = true ↔ ∃ j, ∃ hj : j < l.length, l[j].1 = y := by
 rcases first_ix l y with ⟨i, hi, h1, _, h3⟩ | ⟨h1, h2⟩
 · rw [h3]; exact ⟨fun _ => ⟨i, hi, h1⟩, fun _ => rfl⟩
 · rw [h2]; exact ⟨fun h => (by cases h), fun ⟨j, hj, e⟩ => absurd e (h1 j hj)⟩
structure Sim (S : St) (R : RSt) : Prop where
 pages : R.pages = S.pages
 done : R.done = S.done
 keys : (R.cache.map (·.1)).Nodup
 cache : ∀ y, rfind R.cache y = S.cache y
 dead : R.dead = decide (S.fuse = 0)
 fuse : S.fuse ≠ 0 → R.fuse = S.fuse
 lo : -1 ≤ R.fuse
 hi : R.fuse ≤ 9223372036854775807
 few : R.cache.length ≤ R.done
theorem Sim.hasE {S : St} {R : RSt} (h : Sim S R) (p : Int) : rhasE R p = if S.fuse = 0 then 10 else if p < 0 ∨ (S.pages.length : Int) ≤ p then 2 else 0 := by
 unfold rhasE; rw [h.dead, h.pages]; simp
theorem Sim.did {S : St} {R : RSt} (h : Sim S R) (hf : S.fuse ≠ 0) : Sim S.count R.did := by
 have hfu := h.fuse hf; have hd : R.dead = false := by rw [h.dead]; simp [hf]
 refine ⟨h.pages, by show R.done + 1 = S.done + 1; rw [h.done], h.keys, h.cache, ?_, ?_, ?_, ?_, Nat.le_succ_of_le h.few⟩
 · show (if R.fuse = 1 then true else R.dead) = decide ((if 0 < S.fuse then S.fuse - 1 else S.fuse) = 0); rw [hfu, hd]; by_cases h1 : S.fuse = 1
   · simp [h1]
   · by_cases h0 : 0 < S.fuse
     · simp only [h1, h0, if_true, if_false]; simp; omega
     · simp only [h1, h0, if_false]; simp [hf]
 · intro h1; show (if 0 < R.fuse then R.fuse - 1 else R.fuse) = (if 0 < S.fuse then S.fuse - 1 else S.fuse); rw [hfu]
 · show -1 ≤ (if 0 < R.fuse then R.fuse - 1 else R.fuse); have := h.lo
   split <;> omega
 · show (if 0 < R.fuse then R.fuse - 1 else R.fuse) ≤ _; have := h.hi
   split <;> omega
theorem Sim.find {S : St} {R : RSt} (h : Sim S R) {p : Nat} (hp : p < S.pages.length) : ((rfind R.cache (p : Int)).getD (R.pages.getD p [])) = S.page (p : Int) := by
 rw [h.cache, h.pages]; unfold St.page; rw [Int.toNat_natCast]
end Go.Proofs.YtcapcobkildmcaaGreatDoor
end
