/- Qw Qx Qy Qz Ta Tb Tc Td Te Tf -/
import Derived.Test.YtblbhhijddcbeaaGreatDoorBQu
import Derived.Test.YtblbhhijddcbeaaGreatDoorBQh
import Derived.Lib.ConvBytes
import Derived.Test.YtblbhhijddcbeaaGreatDoorBCmp
section
namespace Go.Proofs.YtblbhhijddcbeaaGreatDoor
open Go.ChangeShapes Go.WideShapes Go.ChangeAt Go.RowKit
set_option linter.unusedVariables false
set_option linter.unusedSimpArgs false
set_option maxRecDepth 100000
set_option maxHeartbeats 16000000
theorem made_any (z : Nat) (w : World) (h1 : 8 ≤ z) (h2 : z ≤ 1024) (hF : Fours w) :
 Calls Tryz.prog 10 #[.int .i64 (z : Int)] w fun e w' => ∃ p : Pgl, e = .returned (.tuple #[.pointer (some ⟨p.d.r, 0, none⟩), .pointer (some ⟨p.r, 0, none⟩)]) ∧ Hid (Pgr w' p (baseP z) (formatted z) ∧ Below w.heap.size w w' ∧ ∀ j, p.all j → w.heap.size ≤ j) := by
 have HN := kept (new_any z w h1 h2); have HF := kept hF; obtain ⟨f1, f2, f3, f4, f5⟩ := formatted_spec z h1 h2; have HO := f5.opens; have HFM := kept (fun (d : Dk) (W : World) (hd : Dsk W d (fresh z)) (hb : Below w.heap.size w W) => format_any d (fresh z) W hd (by show (0 : Nat) ≤ _; omega) (hF.below hb)); rw [fresh_len, f1] at HFM; have HOP := kept (fun (d : Dk) (W : World) (hd : Dsk W d (formatted z)) (hb : Below w.heap.size w W) => open_ok d (formatted z) W hd (by rw [f2]; decide) (hF.below hb) HO.1); rw [HO.2] at HOP; clear h1 h2 hF f1 f2 f3 f4 f5 HO; go_enter Tryz.func10, Tryz.ntmps10; go_wp2_with fail
 with_reducible refine HN.out.mono ?_
 rintro e w1 ⟨d, rfl, hd, hn, hb1⟩; have HD := kept hd; have HDN := kept hn; have HB1 := kept hb1; have HF1 := kept (HFM.out d w1 hd hb1); clear hd hn hb1; go_wp2_with fail
 with_reducible refine HF1.out.mono ?_
 rintro e w2 ⟨rfl, h2⟩; have HB2 : Hid (Below w.heap.size w w2) := kept (h2.out.2.only_new HB1.out HB1.out.size HDN.out); have HO2 := kept (HOP.out d w2 h2.out.1 HB2.out); go_wp2_with fail
 with_reducible refine HO2.out.mono ?_
 rintro e w3 ⟨p, rfl, h3⟩; go_wp2; go_ret2; refine ⟨p, by rw [h3.out.1]; rfl, kept ⟨h3.out.2.1, HB2.out.trans (h3.out.2.2.1.mono HB2.out.size), fun j hj => ?_⟩⟩; rcases hj with hj | hj
 · exact Nat.le_trans HB2.out.size (h3.out.2.2.2 j hj)
 · rw [h3.out.1] at hj; exact HDN.out j hj
section
variable {B P : PSt} {S : St} {el : Mt} {z : Nat}
theorem bytesAt_some {P : PSt} {S : St} {id : Int} {bs : List UInt8} (h : P.add id = some bs) : bytesAt P S id = bs := by unfold bytesAt; rw [h]
end
section
variable {w : World} {p : Pgl} {B P : PSt} {S : St} {el : Mt}
end
end Go.Proofs.YtblbhhijddcbeaaGreatDoor
end
section
/-
 A pager beside a slice of numbers; what PagerFills does, told of the pager's state.
-/
namespace Go.Proofs.YtblbhhijddcbeaaGreatDoor
open Go.ChangeShapes Go.WideShapes Go.ChangeAt Go.RowKit
set_option linter.unusedVariables false
set_option linter.unusedSimpArgs false
structure Lay2 (a w : World) (p : Pgl) (P : PSt) (S : St) (A : Option Addr) (n c : Nat) (I : List Int) : Prop where
 pg : Pgr w p P S
 own : OwI w A n c I
 ap : ∀ g, blkOf A = some g → ¬ p.all g
 an : ∀ g, blkOf A = some g → a.heap.size ≤ g
 pn : ∀ j, p.all j → a.heap.size ≤ j
 below : Below a.heap.size a w
section
variable {a w w' : World} {p : Pgl} {P P' : PSt} {S S' : St} {A A' : Option Addr} {n c n' c' : Nat} {I I' : List Int}
theorem Lay2.on (h : Lay2 a w p P S A n c I) (hb : Below w.heap.size w w') : Lay2 a w' p P S A n c I :=
 ⟨h.pg.below hb, h.own.below hb, h.ap, h.an, h.pn, h.below.trans (hb.mono h.below.size)⟩
theorem Lay2.grow (h : Lay2 a w p P S A n c I) (ho : OwI w' A' n' c' I') (t : Turned w w' (fun j => blkOf A = some j)) (hg : ∀ g, blkOf A' = some g → blkOf A = some g ∨ w.heap.size ≤ g) : Lay2 a w' p P S A' n' c' I' := by
 refine ⟨h.pg.same t (fun j hj hb => h.ap j hb hj) (fun b hc hb => absurd ((h.own.cl hb).uniq hc) (by decide)), ho, fun g e hj => ?_, fun g e => ?_, h.pn, t.only_new h.below h.below.size (fun i hi => h.an i hi)⟩
 · rcases hg g e with k | k
   · exact h.ap g k hj
   · have := h.pg.lt_all hj; omega
 · rcases hg g e with k | k
   · exact h.an g k
   · exact Nat.le_trans h.below.size k
theorem Lay2.start (h : Pgr w p P S) (hb : Below a.heap.size a w) (hn : ∀ j, p.all j → a.heap.size ≤ j) : Lay2 a w p P S none 0 0 [] :=
 ⟨h, OwI.nil_ _, fun g e => (by cases e), fun g e => (by cases e), hn, hb⟩
end
namespace pagerFills
section
variable {z k : Nat} {xs : List UInt8} {B P : PSt} {S : St} {el : Mt} {I : List Int}
end
end pagerFills
end Go.Proofs.YtblbhhijddcbeaaGreatDoor
end
section
namespace Go.Proofs.YtblbhhijddcbeaaGreatDoor
open Go.ChangeShapes Go.WideShapes Go.ChangeAt Go.RowKit
set_option linter.unusedVariables false
set_option linter.unusedSimpArgs false
set_option maxRecDepth 100000
set_option maxHeartbeats 16000000
structure Agr (K : Nat → Prop) (w w2 : World) : Prop where
 os : w2.os = w.os
 tape : w2.tape = w.tape
 output : w2.output = w.output
 size : w.heap.size ≤ w2.heap.size
 block : ∀ k, K k → w2.heap[k]? = w.heap[k]?
theorem Agr.refl (K : Nat → Prop) (w : World) : Agr K w w := ⟨rfl, rfl, rfl, Nat.le_refl _, fun _ _ => rfl⟩
theorem Agr.trans {K : Nat → Prop} {a b c : World} (h : Agr K a b) (k : Agr K b c) : Agr K a c :=
 ⟨k.os.trans h.os, k.tape.trans h.tape, k.output.trans h.output, Nat.le_trans h.size k.size, fun i hi => (k.block i hi).trans (h.block i hi)⟩
theorem Agr.of_turned {K T : Nat → Prop} {w w2 : World} (t : Turned w w2 T) (hk : ∀ k, K k → k < w.heap.size) (hn : ∀ k, K k → ¬ T k) : Agr K w w2 :=
 ⟨t.os, t.tape, t.output, t.size, fun k h => t.block k (hk k h) (hn k h)⟩
def midW (w w2 : World) (j : Nat) : World := { w with heap := Array.ofFn (n := w.heap.size) fun i => if i.val < j then (w2.heap[i.val]?).getD w.heap[i] else w.heap[i] }
theorem midW_size (w w2 : World) (j : Nat) : (midW w w2 j).heap.size = w.heap.size := by simp [midW]
theorem midW_get (w w2 : World) (j k : Nat) (hk : k < w.heap.size) (hs : w.heap.size ≤ w2.heap.size) : (midW w w2 j).heap[k]? = if k < j then w2.heap[k]? else w.heap[k]? := by
 have h2 : k < w2.heap.size := by omega
 unfold midW; simp only [Array.getElem?_ofFn, hk, dite_true]; by_cases hj : k < j
 · simp [hj, h2]
 · simp [hj, hk]
theorem onl_of_agr {B : Nat} {w w2 : World} (hB : 0 < B) (hBw : B ≤ w.heap.size) (h : Agr (fun k => B ≤ k ∧ k < w.heap.size) w w2) : Onl B w w2 := by
 have h0 : midW w w2 0 = w := by
  have : (midW w w2 0).heap = w.heap := by
   apply Array.ext
   · exact midW_size w w2 0
   · intro i h1 h2; have := midW_get w w2 0 i h2 h.size; rw [if_neg (by omega), Array.getElem?_eq_getElem h1, Array.getElem?_eq_getElem h2] at this; exact Option.some.inj this
  unfold midW at this ⊢; simp only at this; rw [this]
 have key : ∀ j, j ≤ B → Onl B w (midW w w2 j) := by
  intro j
  induction j with
  | zero => intro _; rw [h0]; exact .refl
  | succ j ih =>
    intro hj; refine (ih (by omega)).step (g := j) ⟨rfl, rfl, rfl, by rw [midW_size, midW_size]; exact Nat.le_refl _, fun k hk hne => ?_⟩ (by omega); rw [midW_size] at hk; rw [midW_get _ _ _ _ hk h.size, midW_get _ _ _ _ hk h.size]; by_cases h1 : k < j
    · have h2 : k < j + 1 := by omega
      rw [if_pos h1, if_pos h2]
    · have hjk : k ≠ j := fun e => hne (by rw [e])
      have h2 : ¬ k < j + 1 := by omega
      rw [if_neg h1, if_neg h2]
 refine (key B (Nat.le_refl _)).step (g := 0) ⟨h.os, h.tape, h.output, by rw [midW_size]; exact h.size, fun k hk _ => ?_⟩ hB; rw [midW_size] at hk; rw [midW_get _ _ _ _ hk h.size]; by_cases h1 : k < B
 · rw [if_pos h1]
 · rw [if_neg h1]; exact h.block k ⟨Nat.le_of_not_lt h1, hk⟩
def PgF (K : Nat → Prop) (B : Nat) (w : World) (l : Lay) (P : Pg) : Prop := (∀ k, K k → k < w.heap.size) ∧ ∀ w2, Agr K w w2 → OwPg B w2 l P
theorem PgF.here {K : Nat → Prop} {B : Nat} {w : World} {l : Lay} {P : Pg} (h : PgF K B w l P) : OwPg B w l P := h.2 w (Agr.refl _ _)
theorem PgF.turned {K T : Nat → Prop} {B : Nat} {w w' : World} {l : Lay} {P : Pg} (h : PgF K B w l P) (t : Turned w w' T) (hn : ∀ k, K k → ¬ T k) : PgF K B w' l P :=
 ⟨fun k hk => Nat.lt_of_lt_of_le (h.1 k hk) t.size, fun w2 a => h.2 w2 ((Agr.of_turned t h.1 hn).trans a)⟩
theorem PgF.below {K : Nat → Prop} {B : Nat} {w w' : World} {l : Lay} {P : Pg} (h : PgF K B w l P) (hb : Below w.heap.size w w') : PgF K B w' l P := h.turned (Turned.of_below hb (fun _ => False)) (fun _ _ h => h)
theorem PgF.of_sta {B : Nat} {w : World} {l : Lay} {P : Pg} (h : Sta B w (fun w2 => OwPg B w2 l P)) (hB : 0 < B) (hw : B ≤ w.heap.size) : PgF (fun k => B ≤ k ∧ k < w.heap.size) B w l P :=
 ⟨fun k hk => hk.2, fun w2 a => h w2 (onl_of_agr hB hw a)⟩
theorem sv7C {w : World} {b : Nat} {t : TypeId} {v0 v1 v2 v3 v4 v5 v6 : Value} (h : Blk w b t [v0, v1, v2, v3, v4, v5, v6]) : w.cell? ⟨b, 0, none⟩ = some v0 ∧ w.cell? ⟨b, 1, none⟩ = some v1 ∧ w.cell? ⟨b, 2, none⟩ = some v2 ∧ w.cell? ⟨b, 3, none⟩ = some v3 ∧ w.cell? ⟨b, 4, none⟩ = some v4 ∧ w.cell? ⟨b, 5, none⟩ = some v5 ∧ w.cell? ⟨b, 6, none⟩ = some v6 :=
 ⟨h.cell 0, h.cell 1, h.cell 2, h.cell 3, h.cell 4, h.cell 5, h.cell 6⟩
theorem sv7F {w : World} {b : Nat} {t : TypeId} {cs : List Value} (h : Blk w b t cs) : w.frozen? ⟨b, 0, none⟩ = false ∧ w.frozen? ⟨b, 1, none⟩ = false ∧ w.frozen? ⟨b, 2, none⟩ = false ∧ w.frozen? ⟨b, 3, none⟩ = false ∧ w.frozen? ⟨b, 4, none⟩ = false ∧ w.frozen? ⟨b, 5, none⟩ = false ∧ w.frozen? ⟨b, 6, none⟩ = false :=
 ⟨h.frozen 0, h.frozen 1, h.frozen 2, h.frozen 3, h.frozen 4, h.frozen 5, h.frozen 6⟩
structure Vi (a : World) (r : Nat) (t : TypeId) (R : List Value) (p : Pgl) (P : PSt) (S : St) (A : Option Addr) (n c : Nat) (M : List Int) (w : World) : Prop where
 l2 : Lay2 a w p P S A n c M
 box : Blk w r t (.pointer (some ⟨p.r, 0, none⟩) :: .slice A n c :: R)
 ti : t ≠ 3
 tu : t ≠ 5
 ap : ¬ p.all r
 rn : a.heap.size ≤ r
def viT (r : Nat) (A : Option Addr) (k : Nat) : Prop := k = r ∨ blkOf A = some k
section
variable {a w w' : World} {r : Nat} {t : TypeId} {R : List Value} {p : Pgl} {P : PSt} {S : St} {A A' : Option Addr} {n c n' c' : Nat} {M M' : List Int}
theorem Vi.on (h : Vi a r t R p P S A n c M w) (hb : Below w.heap.size w w') : Vi a r t R p P S A n c M w' := ⟨h.l2.on hb, h.box.below hb h.box.lt, h.ti, h.tu, h.ap, h.rn⟩
theorem Vi.far (h : Vi a r t R p P S A n c M w) {T : Nat → Prop} (tu : Turned w w' T) (h1 : ∀ k, T k → ¬ p.all k ∧ k ≠ r ∧ blkOf A ≠ some k ∧ a.heap.size ≤ k ∧ ¬ Cl w k 5) : Vi a r t R p P S A n c M w' :=
 ⟨⟨h.l2.pg.same tu (fun j hj e => (h1 j e).1 hj) (fun b hc e => (h1 b e).2.2.2.2 hc), h.l2.own.turned tu (fun g e hg => (h1 g hg).2.2.1 e), h.l2.ap, h.l2.an, h.l2.pn, tu.only_new h.l2.below h.l2.below.size (fun i hi => (h1 i hi).2.2.2.1)⟩, tu.blk h.box (fun hj => (h1 r hj).2.1 rfl), h.ti, h.tu, h.ap, h.rn⟩
theorem Vi.lt (h : Vi a r t R p P S A n c M w) : r < w.heap.size := h.box.lt
theorem Vi.grow (h : Vi a r t R p P S A n c M w) (ho : OwI w' A' n' c' M') (tu : Turned w w' (fun j => blkOf A = some j)) (hg : ∀ g, blkOf A' = some g → blkOf A = some g ∨ w.heap.size ≤ g) :
 Vi a r t R p P S A' n' c' M' (w'.setCell ⟨r, 1, none⟩ (.slice A' n' c')) ∧ Turned w (w'.setCell ⟨r, 1, none⟩ (.slice A' n' c')) (viT r A) ∧ w'.cell? ⟨r, 1, none⟩ = some (.slice A n c) ∧ w'.frozen? ⟨r, 1, none⟩ = false := by
 have hL := h.l2.grow ho tu hg; have hb : Blk w' r t (.pointer (some ⟨p.r, 0, none⟩) :: .slice A n c :: R) := tu.blk h.box (fun hj => h.ti (h.box.cl.uniq (h.l2.own.cl hj))); have t1 : Turned w' (w'.setCell ⟨r, 1, none⟩ (.slice A' n' c')) (fun j => j = r) := (Turned.refl w' (fun j => j = r)).setCell (T := fun j => j = r) (p := ⟨r, 1, none⟩) (fun _ => rfl) _; have hne : ∀ g, blkOf A' = some g → g ≠ r := fun g e hr => h.ti ((hr ▸ hb.cl : Cl w' g t).uniq (hL.own.cl e))
 refine ⟨⟨⟨hL.pg.same t1 (fun j hj e => h.ap (e ▸ hj)) (fun b hc e => h.tu ((e ▸ hb.cl : Cl w' b t).uniq hc)), hL.own.turned t1 (fun g e => hne g e), hL.ap, hL.an, hL.pn, t1.only_new hL.below hL.below.size (fun i hi => by rw [hi]; exact h.rn)⟩, ?_, h.ti, h.tu, h.ap, h.rn⟩, ?_, hb.cell 1, hb.frozen 1⟩
 · have := hb.set_ 1 (.slice A' n' c'); simpa using this
 · exact (tu.mono (fun k _ hk => .inr hk)).setCell (p := ⟨r, 1, none⟩) (fun _ => .inl rfl) _
end
def VrA (a w : World) (r : Nat) (t : TypeId) (R : List Value) (p : Pgl) (P : PSt) (S : St) (A : Option Addr) (n : Nat) (M : List Int) (id : Int) (e : Ending) (w' : World) : Prop :=
 ∃ (l : Lay) (A' : Option Addr) (c' : Nat) (K : Nat → Prop) (B : Nat), e = .returned (.tuple #[l.val, .int .i64 (decPg (bytesAt P S id)).2]) ∧ Hid (Vi a r t R p P S A' (n + 1) c' (M ++ [id]) w' ∧ PgF K B w' l (decPg (bytesAt P S id)).1 ∧ Turned w w' (viT r A) ∧ (∀ k, K k → w.heap.size ≤ k ∧ blkOf A' ≠ some k) ∧ ∀ g, blkOf A' = some g → blkOf A = some g ∨ w.heap.size ≤ g)
theorem Turned.trans' {w w1 w2 : World} {T U : Nat → Prop} (h : Turned w w1 T) (k : Turned w1 w2 U) (hn : ∀ j, j < w.heap.size → ¬ U j) : Turned w w2 T :=
 ⟨k.os.trans h.os, k.tape.trans h.tape, k.output.trans h.output, Nat.le_trans h.size k.size, fun i hi ht => (k.block i (Nat.lt_of_lt_of_le hi h.size) (hn i hi)).trans (h.block i hi ht)⟩
theorem vread_any {a w : World} {r : Nat} {t : TypeId} {R : List Value} {p : Pgl} {P : PSt} {S : St} {A : Option Addr} {n c : Nat} {M : List Int} (h : Vi a r t R p P S A n c M w) (id : Int) (hb : finB P.M.size id = true) (hn : n < 1024) (hf : S.fuse ≠ 0) (hF : Fours a) :
 Calls Tryz.prog 96 #[.pointer (some ⟨r, 0, none⟩), .int .i64 id] w (VrA a w r t R p P S A n M id) := by
 have H := kept h; have HPR := kept (fun (W : World) (A' : Option Addr) (n' c' : Nat) (M' : List Int) (hv : Vi a r t R p P S A' n' c' M' W) => pread_any hv.l2.pg id hb hf (hF.below hv.l2.below)); have HB0 := fun o => kept ((Below.refl _ w).alloc (Nat.le_refl _) o)
 have c1 := fun o => ((h.on (HB0 o).out).box.cell 1 : (w.alloc o).cell? ⟨r, 1, none⟩ = some (.slice A n c))
 have hneb : ((n : Int) == 1024) = false := by simp; omega
 have hn1 : n + 1 ≤ 1000000 := by omega
 have hrw := h.lt; clear h hb hf hF; go_enter Tryz.func96, Tryz.ntmps96; go_upto_region 3 with fail
 obtain ⟨W1, hW1⟩ : ∃ W1, W1 = w.alloc (.cells #[.int .i64 0, .int .u64 0, .int .i64 0, .slice none 0 0, .slice none 0 0, .slice none 0 0, .slice none 0 0] 137) := ⟨_, rfl⟩
 have HV1 : Hid (Vi a r t R p P S A n c M W1) := kept (by rw [hW1]; exact H.out.on (HB0 _).out); have HQ1 : Hid (Blk W1 w.heap.size 137 [.int .i64 0, .int .u64 0, .int .i64 0, .slice none 0 0, .slice none 0 0, .slice none 0 0, .slice none 0 0]) := kept (by rw [hW1]; exact Blk.new w 137 #[.int .i64 0, .int .u64 0, .int .i64 0, .slice none 0 0, .slice none 0 0, .slice none 0 0, .slice none 0 0]); have HT1 : Hid (Below w.heap.size w W1) := kept (by rw [hW1]; exact (HB0 _).out); rw [← hW1]; clear hW1 c1 HB0; have c1 : W1.cell? ⟨r, 1, none⟩ = some (.slice A n c) := HV1.out.box.cell 1; go_wp2_with (first | (at_builtin; refine wpList_append_i rfl (.tmp 17) (.tmp 19) rfl rfl rfl ((HV1.out.on ((Below.refl _ W1).alloc (Nat.le_refl _) _)).l2.own) (RdI.oneI W1 id) hn1 ?_; intro A2 c2 w2 h2 t2 g2; obtain ⟨hv3, ht3, e1, f1⟩ := (HV1.out.on ((Below.refl _ W1).alloc (Nat.le_refl _) _)).grow h2 t2 g2; have HV3 := kept hv3; have HT3 := kept ht3; have HG3 := kept g2; have k0 : (w2.setCell ⟨r, 1, none⟩ (.slice A2 (n + 1) c2)).cell? ⟨r, 0, none⟩ = some (.pointer (some ⟨p.r, 0, none⟩)) := hv3.box.cell 0; have HP3 := kept (HPR.out _ _ _ _ _ hv3); have HQ3 := kept (ht3.blk (HQ1.out.alloc (.cells #[.int .i64 id] 3)) (fun hj => hj.elim (fun e => by omega) (fun e => by have := H.out.l2.own.lt e; omega))); clear h2 t2 g2 hv3 ht3) | (go_at_call 141; (with_reducible refine (HP3.out).mono ?_); rintro e w4 ⟨l, rfl, hs4, hb4⟩; have HS4 := hs4; have HB4 := kept hb4; have HQ4 := kept (HQ3.out.below hb4 HQ3.out.lt); obtain ⟨p0, p1, p2, p3, p4, p5, p6⟩ := sv7C (HQ3.out.below hb4 HQ3.out.lt); obtain ⟨t0, t1, t2, t3, t4, t5, t6⟩ := sv7F (HQ3.out.below hb4 HQ3.out.lt); obtain ⟨kind, txn, next, a1, n1, k1, a2, n2, k2, a3, n3, k3, a4, n4, k4⟩ := l; clear hb4 hs4))
 have hb7 := ((((((HQ4.out.set_ 0 (.int .i64 kind)).set_ 1 (.int .u64 txn)).set_ 2 (.int .i64 next)).set_ 3 (.slice a1 n1 k1)).set_ 4 (.slice a2 n2 k2)).set_ 5 (.slice a3 n3 k3)).set_ 6 (.slice a4 n4 k4); simp only [List.set_cons_zero, List.set_cons_succ] at hb7; have ho7 := only7 w4 w.heap.size (.int .i64 kind) (.int .u64 txn) (.int .i64 next) (.slice a1 n1 k1) (.slice a2 n2 k2) (.slice a3 n3 k3) (.slice a4 n4 k4); unfold set7 at ho7; generalize (((((((w4.setCell ⟨w.heap.size, 0, none⟩ (.int .i64 kind)).setCell ⟨w.heap.size, 1, none⟩ (.int .u64 txn)).setCell ⟨w.heap.size, 2, none⟩ (.int .i64 next)).setCell ⟨w.heap.size, 3, none⟩ (.slice a1 n1 k1)).setCell ⟨w.heap.size, 4, none⟩ (.slice a2 n2 k2)).setCell ⟨w.heap.size, 5, none⟩ (.slice a3 n3 k3)).setCell ⟨w.heap.size, 6, none⟩ (.slice a4 n4 k4)) = X at hb7 ho7 ⊢; obtain ⟨x0, x1, x2, x3, x4, x5, x6⟩ := sv7C hb7; have tq : Turned w4 X (fun k => k = w.heap.size) := ⟨ho7.os, ho7.tape, ho7.output, ho7.size, fun k hk hne => ho7.block k hk (fun e => hne (by cases e; rfl))⟩
 have hq3 : w.heap.size < (w2.setCell ⟨r, 1, none⟩ (.slice A2 (n + 1) c2)).heap.size := HQ3.out.lt; have hv4 := HV3.out.on HB4.out; have hA2 : ∀ g, blkOf A2 = some g → g < (w2.setCell ⟨r, 1, none⟩ (.slice A2 (n + 1) c2)).heap.size := fun g e => HV3.out.l2.own.lt e
 have hAq : blkOf A2 ≠ some w.heap.size := fun e => absurd ((hv4.l2.own.cl e).uniq HQ4.out.cl) (by decide)
 have hvX := hv4.far tq (fun k hk => by
  subst hk; exact ⟨fun hj => by have := H.out.l2.pg.lt_all hj; omega, by omega, hAq, H.out.l2.below.size, fun hc => absurd (hc.uniq HQ4.out.cl) (by decide)⟩)
 have hpf := (PgF.of_sta HS4.out (by omega) HB4.out.size).turned tq (fun k hk e => by have := hk.1; omega); have htt : Turned w X (viT r A) := (((Turned.of_below HT1.out (viT r A)).trans ((Turned.of_below ((Below.refl _ W1).alloc (Nat.le_refl _) _) (viT r A)).trans (HT3.out))).trans (Turned.of_below HB4.out (viT r A))).trans' tq (fun k hk e => by omega); exact bodyPost_ret (v := .tuple #[.agg #[.int .i64 kind, .int .u64 txn, .int .i64 next, .slice a1 n1 k1, .slice a2 n2 k2, .slice a3 n3 k3, .slice a4 n4 k4], .int .i64 (decPg (bytesAt P S id)).2]) (by simp [results, Tryz.results96, go_sem, x0, x1, x2, x3, x4, x5, x6]) rfl ⟨⟨kind, txn, next, a1, n1, k1, a2, n2, k2, a3, n3, k3, a4, n4, k4⟩, A2, c2, _, _, rfl, kept ⟨hvX, hpf, htt, fun k hk => ⟨by have := hk.1; omega, fun e => by have := hA2 k e; have := hk.1; omega⟩, fun g e => (HG3.out g e).imp (fun h => h) (fun h => Nat.le_trans HT1.out.size (Nat.le_trans (by simp) h))⟩⟩
theorem bcompare_any (A B : Option Addr) (n m c d : Nat) (xs ys : List UInt8) (w : World) (h1 : Rd w A n xs) (h2 : Rd w B m ys) :
 Calls Tryz.prog 95 #[.slice A n c, .slice B m d] w fun e w' => e = .returned (.int .i64 (ordB xs ys)) ∧ w = w' := by
 have hc := kept (run_compare8 (P := Tryz.prog) h1 h2 c d); clear h1 h2; generalize ordB xs ys = o at hc; go_enter Tryz.func95, Tryz.ntmps95; go_wp2; rw [run_callFunc_extern Tryz.func140 (by kernel_rfl) (by kernel_rfl) (by kernel_rfl) (e := Extern.BytealgCompare.compare) (by kernel_rfl), hc.out]; simp only [Result.andThen]; rw [Oper.upon_value]; go_wp2; go_ret; exact ⟨rfl, rfl⟩
theorem place1_any (A B Av : Option Addr) (n m c d nv cv : Nat) (sz mo : Int) (xs ys : List UInt8) (w : World) (h1 : Rd w A n xs) (h2 : Rd w B m ys) :
 Calls Tryz.prog 94 #[.agg #[.slice A n c, .slice Av nv cv, .int .i64 sz, .int .i64 mo], .slice B m d] w fun e w' => e = .returned (.int .i64 (ordB xs ys)) ∧ Below w.heap.size w w' := by
 have HC := fun o => kept (bcompare_any A B n m c d xs ys (w.alloc o) (h1.alloc o) (h2.alloc o))
 have HB := fun o => kept ((Below.refl _ w).alloc (Nat.le_refl _) o)
 clear h1 h2; go_enter Tryz.func94, Tryz.ntmps94; go_wp2_with (first | (go_at_call 95; (with_reducible refine ((HC _).out).mono ?_); rintro e w' ⟨rfl, rfl⟩))
 go_ret; exact ⟨rfl, (HB _).out⟩
theorem ordB_zero {a b : List UInt8} : ordB a b = 0 ↔ a = b := by
 unfold ordB; constructor
 · intro h; cases h1 : ahead a b with
   | true => rw [h1] at h; simp at h
   | false =>
     cases h2 : ahead b a with
     | true => rw [h1, h2] at h; simp at h
     | false => exact ahead_eq a b h1 h2
 · rintro rfl; rw [ahead_self]; rfl
def aheadN (I : List Itm) (k : List UInt8) : Nat := I.countP fun x => decide (ordB x.key k < 0)
def cutI (I : List Itm) (k : List UInt8) (i : Nat) : Prop := (∀ t (h : t < I.length), t < i → ordB I[t].key k < 0) ∧ ∀ t (h : t < I.length), i ≤ t → ¬ ordB I[t].key k < 0
theorem cutI_uniq {I : List Itm} {k : List UInt8} {i : Nat} (hi : i ≤ I.length) (h : cutI I k i) : aheadN I k = i := by
 induction I generalizing i with
 | nil => simp at hi; simp [aheadN, hi]
 | cons x r ih =>
   cases i with
   | zero =>
     unfold aheadN; rw [List.countP_eq_zero]; intro y hy; obtain ⟨t, ht, rfl⟩ := List.getElem_of_mem hy; have := h.2 t ht (Nat.zero_le _); simpa using this
   | succ i =>
     have h0 := h.1 0 (by simp) (by omega); have h0 : ordB x.key k < 0 := h0; have := ih (i := i) (by simpa using hi) ⟨fun t ht hti => by have := h.1 (t + 1) (by simpa using ht) (by omega); simpa using this, fun t ht hti => by have := h.2 (t + 1) (by simpa using ht) (by omega); simpa using this⟩; unfold aheadN at this ⊢; rw [List.countP_cons_of_pos (by simpa using h0), this]
def Sorted' (I : List Itm) (k : List UInt8) : Prop := ∀ s t (hs : s < I.length) (ht : t < I.length), s ≤ t → ordB I[t].key k < 0 → ordB I[s].key k < 0
theorem bsearch_any (A B : Option Addr) (n m c d : Nat) (I : List Itm) (ys : List UInt8) (w : World) (h1 : RdItems w A n I) (h2 : Rd w B m ys) (hn : n ≤ 1000000) (hs : Sorted' I ys) :
 Calls Tryz.prog 93 #[.slice A n c, .slice B m d, .func (.func 94) #[] #[]] w fun e w' => e = .returned (.tuple #[.int .i64 (aheadN I ys : Int), .bool (decide (∃ h : aheadN I ys < I.length, I[aheadN I ys].key = ys))]) ∧ Below w.heap.size w w' := by
 have HI := kept h1; have HY := kept h2; have HS := kept hs; have HN := kept h1.1; have H0 : Hid (((∀ t (h : t < I.length), t < 0 → ordB I[t].key ys < 0) ∧ ∀ t (h : t < I.length), n ≤ t → 0 ≤ ordB I[t].key ys) ∧ Below w.heap.size w w) := kept ⟨⟨fun t h h0 => absurd h0 (by omega), fun t h h0 => absurd h (by rw [h1.1]; omega)⟩, Below.refl _ _⟩; clear h1 h2 hs; go_enter Tryz.func93, Tryz.ntmps93; go_wp2; go_loopw [9, 10] (fun i j wr => ∃ a b : Nat, a ≤ b ∧ b ≤ n ∧ i = .int .i64 (a : Int) ∧ j = .int .i64 (b : Int) ∧ Hid (((∀ t (h : t < I.length), t < a → ordB I[t].key ys < 0) ∧ ∀ t (h : t < I.length), b ≤ t → 0 ≤ ordB I[t].key ys) ∧ Below w.heap.size w wr)) (fun i j _ => (intOf j).toNat - (intOf i).toNat)
 case atStart => exact ⟨0, n, Nat.zero_le _, Nat.le_refl _, rfl, rfl, H0⟩
 case round =>
  obtain ⟨a, b, hab, hbn, rfl, rfl, HL⟩ := hrel; clear H0; by_cases hlt : a < b
  · obtain ⟨q, hq⟩ : ∃ q, (a + b) / 2 = q := ⟨_, rfl⟩
    have hw1 : IntKind.i64.wrap ((a : Int) + (b : Int)) = (a : Int) + (b : Int) := by rw [IntKind.wrap_i64]; omega
    have hw2 : IntKind.u64.wrap ((a : Int) + (b : Int)) = (a : Int) + (b : Int) := by rw [IntKind.wrap_u64]; omega
    have hlt' : (a : Int) < (b : Int) := by omega
    have hq' : ((a : Int) + (b : Int)) / 2 = (q : Int) := by omega
    have hqn : q < n := by omega
    have hq0 : (0 : Int) ≤ (q : Int) := by omega
    have hqn' : (q : Int) < (n : Int) := by omega
    have hqI : q < I.length := by rw [HN.out]; exact hqn
    obtain ⟨bI, o, L, hA, hL, z0, z1, z2, z3⟩ := (HI.out.below HL.out.2).at_ hqn; have hL : RdIt wr L I[q] := hL; have HP := kept (place1_any L.ka B L.va L.kn m L.kc d L.vn L.vc L.size L.more I[q].key ys wr hL.1 (HY.out.below HL.out.2)); have HQ : Hid (a ≤ q ∧ q < b ∧ q < I.length) := kept ⟨by omega, by omega, hqI⟩; obtain ⟨or, hor⟩ : ∃ or, ordB I[q].key ys = or := ⟨_, rfl⟩
    rw [hor] at HP; have HOR : Hid (∀ h : q < I.length, ordB I[q].key ys = or) := kept (fun _ => hor); subst hA; clear hor hq hL; by_cases hneg : or < 0
    · have hneg' := hneg; go_wp2_with (first | (go_at_call 94; (with_reducible refine (HP.out).mono ?_); rintro e w1 ⟨rfl, hb1⟩; have HB1 := kept (HL.out.2.trans (hb1.mono HL.out.2.size)); clear hb1))
      have HE : Hid (((∀ t (h : t < I.length), t < q + 1 → ordB I[t].key ys < 0) ∧ ∀ t (h : t < I.length), b ≤ t → 0 ≤ ordB I[t].key ys) ∧ Below w.heap.size w w1) := kept ⟨⟨fun t h h0 => HS.out t q h HQ.out.2.2 (by omega) (by rw [HOR.out]; exact hneg), HL.out.1.2⟩, HB1.out⟩; clear z0 z1 z2 z3; go_roundw
      case rel => exact ⟨q + 1, b, by have := HQ.out; omega, hbn, by go_num, rfl, HE⟩
      case measure => have := HQ.out; simp [intOf]; omega
    · have hneg' : ¬ or < 0 := hneg; go_wp2_with (first | (go_at_call 94; (with_reducible refine (HP.out).mono ?_); rintro e w1 ⟨rfl, hb1⟩; have HB1 := kept (HL.out.2.trans (hb1.mono HL.out.2.size)); clear hb1))
      have HE : Hid (((∀ t (h : t < I.length), t < a → ordB I[t].key ys < 0) ∧ ∀ t (h : t < I.length), q ≤ t → 0 ≤ ordB I[t].key ys) ∧ Below w.heap.size w w1) := kept ⟨⟨HL.out.1.1, fun t h h0 => Int.not_lt.1 (fun hl => absurd (show or < 0 by rw [← HOR.out HQ.out.2.2]; exact HS.out q t HQ.out.2.2 h h0 hl) (Int.not_lt.2 hneg))⟩, HB1.out⟩; clear z0 z1 z2 z3; go_roundw
      case rel => exact ⟨a, q, by have := HQ.out; omega, by have := HQ.out; omega, rfl, rfl, HE⟩
      case measure => have := HQ.out; simp [intOf]; omega
  · obtain rfl : a = b := by omega
    have hlt' : ¬ (a : Int) < (a : Int) := by omega
    have HAN : Hid (aheadN I ys = a) := kept (cutI_uniq (by rw [HN.out]; exact hbn) ⟨HL.out.1.1, fun t h h0 => Int.not_lt.2 (HL.out.1.2 t h h0)⟩); by_cases han : a < n
    · have han' : (a : Int) < (n : Int) := by omega
      have haI : a < I.length := by rw [HN.out]; exact han
      obtain ⟨bI, o, L, hA, hL, z0, z1, z2, z3⟩ := (HI.out.below HL.out.2).at_ han; have hL : RdIt wr L I[a] := hL; have HP := kept (place1_any L.ka B L.va L.kn m L.kc d L.vn L.vc L.size L.more I[a].key ys wr hL.1 (HY.out.below HL.out.2)); have HD : Hid (decide (∃ h : a < I.length, I[a].key = ys) = decide (ordB I[a].key ys = 0)) := kept (by
       rw [decide_eq_decide]; exact ⟨fun ⟨_, h⟩ => ordB_zero.2 h, fun h => ⟨haI, ordB_zero.1 h⟩⟩)
      generalize ordB I[a].key ys = or at HP HD; subst hA; clear hL; have hda : decide ((a : Int) < (n : Int)) = true := by simp; omega
      go_wp2_with (first | (go_at_call 94; (with_reducible refine (HP.out).mono ?_); rintro e w1 ⟨rfl, hb1⟩; have HB1 := kept (HL.out.2.trans (hb1.mono HL.out.2.size)); clear hb1))
      go_returns; rw [HAN.out, HD.out]; refine ⟨?_, HB1.out⟩; by_cases h0 : or = 0
      · subst h0; rfl
      · have h1 : decide (or = 0) = false := by simpa using h0
        rw [h1]; simp [h0]
    · have han' : ¬ (a : Int) < (n : Int) := by omega
      have hda : decide ((a : Int) < (n : Int)) = false := by simp; omega
      go_wp2; go_returns; rw [HAN.out]; have hd : decide (∃ h : a < I.length, I[a].key = ys) = false := by
       rw [decide_eq_false_iff_not]; rintro ⟨h, _⟩; rw [HN.out] at h; exact han h
      rw [hd]; exact ⟨rfl, HL.out.2⟩
theorem tplace_any (A B : Option Addr) (n m c d : Nat) (I : List Itm) (ys : List UInt8) (w : World) (h1 : RdItems w A n I) (h2 : Rd w B m ys) (hn : n ≤ 1000000) (hs : Sorted' I ys) :
 Calls Tryz.prog 53 #[.slice A n c, .slice B m d] w fun e w' => e = .returned (.tuple #[.int .i64 (aheadN I ys : Int), .bool (decide (∃ h : aheadN I ys < I.length, I[aheadN I ys].key = ys))]) ∧ Below w.heap.size w w' := by
 have HB := kept (bsearch_any A B n m c d I ys w h1 h2 hn hs); generalize decide (∃ h : aheadN I ys < I.length, I[aheadN I ys].key = ys) = b at HB ⊢; generalize (aheadN I ys : Int) = k at HB ⊢; clear h1 h2 hs; go_enter Tryz.func53, Tryz.ntmps53; go_wp2_with (first | (go_at_call 93; (with_reducible refine (HB.out).mono ?_); rintro e w1 ⟨rfl, hb1⟩; have HB1 := kept hb1; clear hb1))
 go_returns; exact ⟨rfl, HB1.out⟩
theorem leaf_any (A : Option Addr) (n c : Nat) (w : World) :
 Calls Tryz.prog 57 #[.slice A n c] w fun e w' => e = .returned (.agg #[.int .i64 1, .int .u64 0, .int .i64 0, .slice A n c, .slice none 0 0, .slice none 0 0, .slice none 0 0]) ∧ Below w.heap.size w w' := by
 have hB := (Below.refl w.heap.size w).alloc (Nat.le_refl _) (.cells #[.int .i64 1, .int .u64 0, .int .i64 0, .slice A n c, .slice none 0 0, .slice none 0 0, .slice none 0 0] 137); have hk := Blk.new w 137 #[.int .i64 1, .int .u64 0, .int .i64 0, .slice A n c, .slice none 0 0, .slice none 0 0, .slice none 0 0]; go_enter Tryz.func57, Tryz.ntmps57; go_wp2; generalize w.alloc (.cells #[.int .i64 1, .int .u64 0, .int .i64 0, .slice A n c, .slice none 0 0, .slice none 0 0, .slice none 0 0] 137) = X at hB hk ⊢; obtain ⟨x0, x1, x2, x3, x4, x5, x6⟩ := sv7C hk; exact bodyPost_ret (v := .agg #[.int .i64 1, .int .u64 0, .int .i64 0, .slice A n c, .slice none 0 0, .slice none 0 0, .slice none 0 0]) (by simp [results, Tryz.results57, go_sem, x0, x1, x2, x3, x4, x5, x6]) rfl ⟨rfl, hB⟩
theorem branch_any (A : Option Addr) (n c : Nat) (w : World) :
 Calls Tryz.prog 146 #[.slice A n c] w fun e w' => e = .returned (.agg #[.int .i64 2, .int .u64 0, .int .i64 0, .slice none 0 0, .slice A n c, .slice none 0 0, .slice none 0 0]) ∧ Below w.heap.size w w' := by
 have hB := (Below.refl w.heap.size w).alloc (Nat.le_refl _) (.cells #[.int .i64 2, .int .u64 0, .int .i64 0, .slice none 0 0, .slice A n c, .slice none 0 0, .slice none 0 0] 137); have hk := Blk.new w 137 #[.int .i64 2, .int .u64 0, .int .i64 0, .slice none 0 0, .slice A n c, .slice none 0 0, .slice none 0 0]; go_enter Tryz.func146, Tryz.ntmps146; go_wp2; generalize w.alloc (.cells #[.int .i64 2, .int .u64 0, .int .i64 0, .slice none 0 0, .slice A n c, .slice none 0 0, .slice none 0 0] 137) = X at hB hk ⊢; obtain ⟨x0, x1, x2, x3, x4, x5, x6⟩ := sv7C hk; exact bodyPost_ret (v := .agg #[.int .i64 2, .int .u64 0, .int .i64 0, .slice none 0 0, .slice A n c, .slice none 0 0, .slice none 0 0]) (by simp [results, Tryz.results146, go_sem, x0, x1, x2, x3, x4, x5, x6]) rfl ⟨rfl, hB⟩
def dropAll (P : PSt) : List Int → PSt × Int
 | [] => (P, 0)
 | x :: r => if (dropP P x).2 = 0 then dropAll (dropP P x).1 r else dropP P x
theorem dropAll_snoc : ∀ (Z : List Int) (P : PSt) (x : Int), (dropAll P Z).2 = 0 → dropAll P (Z ++ [x]) = dropP (dropAll P Z).1 x
 | [], P, x, _ => by
   show (if (dropP P x).2 = 0 then ((dropP P x).1, 0) else dropP P x) = dropP P x; by_cases h : (dropP P x).2 = 0
   · rw [if_pos h]; exact Prod.ext rfl h.symm
   · rw [if_neg h]
 | y :: r, P, x, h => by
   unfold dropAll at h; by_cases h0 : (dropP P y).2 = 0
   · rw [if_pos h0] at h; show (if (dropP P y).2 = 0 then dropAll (dropP P y).1 (r ++ [x]) else dropP P y) = dropP (if (dropP P y).2 = 0 then dropAll (dropP P y).1 r else dropP P y).1 x; rw [if_pos h0, if_pos h0]; exact dropAll_snoc r _ x h
   · rw [if_neg h0] at h; exact absurd h h0
theorem dropAll_stop : ∀ (Z Y : List Int) (P : PSt), (dropAll P Z).2 ≠ 0 → dropAll P (Z ++ Y) = dropAll P Z
 | [], Y, P, h => absurd rfl h
 | y :: r, Y, P, h => by
   unfold dropAll at h; show (if (dropP P y).2 = 0 then dropAll (dropP P y).1 (r ++ Y) else dropP P y) = (if (dropP P y).2 = 0 then dropAll (dropP P y).1 r else dropP P y); by_cases h0 : (dropP P y).2 = 0
   · rw [if_pos h0] at h; rw [if_pos h0, if_pos h0]; exact dropAll_stop r Y _ h
   · rw [if_neg h0, if_neg h0]
section
variable {a w w' : World} {r : Nat} {t : TypeId} {R : List Value} {p : Pgl} {P P' : PSt} {S S' : St} {A : Option Addr} {n c : Nat} {M : List Int}
theorem Vi.step (h : Vi a r t R p P S A n c M w) (k : PLeft w w' p P' S') : ∃ p' : Pgl, p'.r = p.r ∧ p'.d = p.d ∧ Vi a r t R p' P' S' A n c M w' ∧ Turned w w' p.all ∧ ∀ j, p'.all j → p.all j ∨ w.heap.size ≤ j := by
 obtain ⟨p1, e1, e2, h1, t1, o1⟩ := k; have hall : ∀ j, p1.all j → p.all j ∨ w.heap.size ≤ j := fun j hj => by
  rcases hj with hj | hj
  · rcases o1 j hj with h5 | h5
    · exact .inl (.inl h5)
    · exact .inr h5
  · exact .inl (.inr (e2 ▸ hj))
 refine ⟨p1, e1, e2, ⟨⟨h1, h.l2.own.turned t1 h.l2.ap, fun g hg hj => ?_, h.l2.an, fun j hj => ?_, t1.only_new h.l2.below h.l2.below.size h.l2.pn⟩, ?_, h.ti, h.tu, fun hj => ?_, h.rn⟩, t1, hall⟩
 · rcases hall g hj with h5 | h5
   · exact h.l2.ap g hg h5
   · have := h.l2.own.lt hg; omega
 · rcases hall j hj with h5 | h5
   · exact h.l2.pn j h5
   · exact Nat.le_trans h.l2.below.size h5
 · rw [e1]; exact t1.blk h.box h.ap
 · rcases hall r hj with h5 | h5
   · exact h.ap h5
   · have := h.lt; omega
end
def CdA (a w : World) (r : Nat) (t : TypeId) (R : List Value) (p : Pgl) (D : PSt × Int) (S : St) (A : Option Addr) (n c : Nat) (M : List Int) (w' : World) : Prop :=
 ∃ p' : Pgl, p'.r = p.r ∧ p'.d = p.d ∧ Vi a r t R p' D.1 S A n c M w' ∧ Turned w w' p.all ∧ ∀ j, p'.all j → p.all j ∨ w.heap.size ≤ j
theorem CdA.next {a w w1 w2 : World} {r : Nat} {t : TypeId} {R : List Value} {p : Pgl} {D : PSt × Int} {P2 : PSt} {e : Int} {S : St} {A : Option Addr} {n c : Nat} {M : List Int} (h : CdA a w r t R p D S A n c M w1) {p1 : Pgl}
 (hp : ∃ p1 : Pgl, p1.r = p.r ∧ p1.d = p.d ∧ Vi a r t R p1 D.1 S A n c M w1 ∧ Turned w w1 p.all ∧ (∀ j, p1.all j → p.all j ∨ w.heap.size ≤ j) ∧ PLeft w1 w2 p1 P2 S) : CdA a w r t R p (P2, e) S A n c M w2 := by
 obtain ⟨p1, e1, e2, h1, t1, o1, hl⟩ := hp; obtain ⟨p2, f1, f2, h2, t2, o2⟩ := h1.step hl; refine ⟨p2, f1.trans e1, f2.trans e2, h2, ⟨t2.os.trans t1.os, t2.tape.trans t1.tape, t2.output.trans t1.output, Nat.le_trans t1.size t2.size, fun k hk hn => ?_⟩, fun j hj => ?_⟩
 · rw [t2.block k (Nat.lt_of_lt_of_le hk t1.size) (fun hj => (o1 k hj).elim hn (fun h => by omega)), t1.block k hk hn]
 · rcases o2 j hj with h5 | h5
   · exact o1 j h5
   · exact .inr (Nat.le_trans t1.size h5)
theorem cdrop_any {a w : World} {r : Nat} {t : TypeId} {R : List Value} {p : Pgl} {P : PSt} {S : St} {A : Option Addr} {n c : Nat} {M : List Int} (h : Vi a r t R p P S A n c M w) (B : Option Addr) (m d : Nat) (Z : List Int) (hz : RdI w B m Z) (hzb : ∀ g, blkOf B = some g → ¬ p.all g ∧ g < w.heap.size) (hm : m ≤ 100000) :
 Calls Tryz.prog 97 #[.pointer (some ⟨r, 0, none⟩), .slice B m d] w fun e w' => e = .returned (.int .i64 (dropAll P Z).2) ∧ Hid (CdA a w r t R p (dropAll P Z) S A n c M w') := by
 have HZ := kept hz; have HZB := kept hzb; have H0 : Hid ((dropAll P (Z.take 0)).2 = 0 ∧ CdA a w r t R p (dropAll P (Z.take 0)) S A n c M w) := kept ⟨rfl, p, rfl, rfl, h, Turned.refl _ _, fun j hj => .inl hj⟩; clear h hz hzb; go_enter Tryz.func97, Tryz.ntmps97; go_wp2; go_loopw [10] (fun i wr => ∃ k : Nat, k ≤ m ∧ i = .int .i64 (k : Int) ∧ Hid ((dropAll P (Z.take k)).2 = 0 ∧ CdA a w r t R p (dropAll P (Z.take k)) S A n c M wr)) (fun i _ => m - (intOf i).toNat)
 case atStart => exact ⟨0, Nat.zero_le _, rfl, H0⟩
 case round =>
  obtain ⟨k, hk, rfl, HL⟩ := hrel; clear H0; obtain ⟨he, p1, e1, e2, hv1, t1, o1⟩ := HL.out; by_cases hlt : k < m
  · have hkZ : k < Z.length := by rw [HZ.out.1]; exact hlt
    have hzr : RdI wr B m Z := HZ.out.turned t1 (fun g e => (HZB.out g e).1); obtain ⟨b, o, hB, hcell0⟩ := hzr.at_ hlt; have hcell : wr.cell? ⟨b, o + k, none⟩ = some (.int .i64 Z[k]) := hcell0; clear hcell0; have HT := kept (take_snoc hkZ); generalize Z[k] = x at hcell HT; have hkm : (k : Int) < (m : Int) := by omega
    have hc0 : wr.cell? ⟨r, 0, none⟩ = some (.pointer (some ⟨p1.r, 0, none⟩)) := hv1.box.cell 0; have HD := kept (drop_any hv1.l2.pg x); have HN := kept (dropAll_snoc (Z.take k) P x he); have HV := kept (And.intro e1 (And.intro e2 (And.intro hv1 (And.intro t1 o1)))); have HCL := kept HL.out.2; subst hB; clear hzr hv1 t1 o1 he HL e1 e2; by_cases hd0 : (dropP (dropAll P (Z.take k)).1 x).2 = 0
    · rw [hd0] at HD; go_wp2_with (first | (go_at_call 142; (with_reducible refine (HD.out).mono ?_); rintro e w1 ⟨rfl, h1⟩))
      have HE : Hid ((dropAll P (Z.take (k + 1))).2 = 0 ∧ CdA a w r t R p (dropAll P (Z.take (k + 1))) S A n c M w1) := kept (by
       rw [HT.out, HN.out]; exact ⟨hd0, HCL.out.next (p1 := p1) ⟨p1, HV.out.1, HV.out.2.1, HV.out.2.2.1, HV.out.2.2.2.1, HV.out.2.2.2.2, h1.out⟩⟩)
      clear h1 hcell hc0; go_roundw
      case rel => exact ⟨k + 1, by omega, by go_num, HE⟩
      case measure => simp [intOf]; omega
    · have HST : Hid (dropAll P Z = dropP (dropAll P (Z.take k)).1 x) := kept (by
       have h2 := dropAll_stop (Z.take (k + 1)) (Z.drop (k + 1)) P (by rw [HT.out, HN.out]; exact hd0); rw [List.take_append_drop, HT.out, HN.out] at h2; exact h2)
      have hne : ((dropP (dropAll P (Z.take k)).1 x).2 != 0) = true := by simpa using hd0
      go_wp2_with (first | (go_at_call 142; (with_reducible refine (HD.out).mono ?_); rintro e w1 ⟨rfl, h1⟩))
      go_ret; rw [HST.out]; exact ⟨rfl, kept (HCL.out.next (p1 := p1) ⟨p1, HV.out.1, HV.out.2.1, HV.out.2.2.1, HV.out.2.2.2.1, HV.out.2.2.2.2, h1.out⟩)⟩
  · obtain rfl : k = m := by omega
    have hkm : ¬ (k : Int) < (k : Int) := by omega
    have HALL : Hid (Z.take k = Z) := kept (List.take_of_length_le (by rw [HZ.out.1]; exact Nat.le_refl _)); have HL2 := HL; rw [HALL.out] at HL2; clear he hv1 t1 o1 e1 e2; go_wp2; go_ret; rw [HL2.out.1]; exact ⟨rfl, kept HL2.out.2⟩
def VrX (a w : World) (r : Nat) (t : TypeId) (R : List Value) (p : Pgl) (P : PSt) (S : St) (A : Option Addr) (n : Nat) (M : List Int) (id : Int) (X : Pg) (e : Ending) (w' : World) : Prop :=
 ∃ (l : Lay) (A' : Option Addr) (c' : Nat) (K : Nat → Prop) (B : Nat), e = .returned (.tuple #[l.val, .int .i64 0]) ∧ Hid (Vi a r t R p P S A' (n + 1) c' (M ++ [id]) w' ∧ PgF K B w' l X ∧ Turned w w' (viT r A) ∧ (∀ k, K k → w.heap.size ≤ k ∧ blkOf A' ≠ some k) ∧ ∀ g, blkOf A' = some g → blkOf A = some g ∨ w.heap.size ≤ g)
theorem vread_x {a w : World} {r : Nat} {t : TypeId} {R : List Value} {p : Pgl} {P : PSt} {S : St} {A : Option Addr} {n c : Nat} {M : List Int} (h : Vi a r t R p P S A n c M w) (id : Int) (hb : finB P.M.size id = true) (hn : n < 1024) (hf : S.fuse ≠ 0) (hF : Fours a) {X : Pg} (hX : decPg (bytesAt P S id) = (X, 0)) :
 Calls Tryz.prog 96 #[.pointer (some ⟨r, 0, none⟩), .int .i64 id] w (VrX a w r t R p P S A n M id X) := by
 have h1 := vread_any h id hb hn hf hF; unfold VrA at h1; rw [hX] at h1; exact h1
theorem vr_end {a w W0 w1 W2 W' : World} {r q : Nat} {t : TypeId} {R : List Value} {p : Pgl} {P : PSt} {S : St} {A A1 : Option Addr} {n c c1 : Nat} {M M1 : List Int} {l : Lay} {X : Pg} {K : Nat → Prop} {B : Nat} (H : Vi a r t R p P S A n c M w) (hW0 : Below w.heap.size w W0) (hq : w.heap.size ≤ q) (hq0 : q < W0.heap.size)
 (HH : Vi a r t R p P S A1 (n + 1) c1 M1 w1 ∧ PgF K B w1 l X ∧ Turned W0 w1 (viT r A) ∧ (∀ k, K k → W0.heap.size ≤ k ∧ blkOf A1 ≠ some k) ∧ ∀ g, blkOf A1 = some g → blkOf A = some g ∨ W0.heap.size ≤ g)
 (hb : Below w1.heap.size w1 W2) (tq : Turned W2 W' (fun k => k = q)) (hty : Cl W2 q 137) :
 Vi a r t R p P S A1 (n + 1) c1 M1 W' ∧ PgF K B W' l X ∧ Turned w W' (viT r A) ∧ (∀ k, K k → w.heap.size ≤ k ∧ blkOf A1 ≠ some k) ∧ ∀ g, blkOf A1 = some g → blkOf A = some g ∨ w.heap.size ≤ g := by
 obtain ⟨hv, hp, ht, hk, hg⟩ := HH; have hv2 := hv.on hb; have hs := hW0.size; have hr := H.lt; refine ⟨hv2.far tq (fun k e => ?_), (hp.below hb).turned tq (fun k h e => by have := (hk k h).1; omega), (((Turned.of_below hW0 _).trans ht).trans (Turned.of_below hb _)).trans' tq (fun j hj e => by omega), fun k h => ⟨Nat.le_trans hs (hk k h).1, (hk k h).2⟩, fun g e => (hg g e).imp id (Nat.le_trans hs)⟩; subst e; exact ⟨fun hj => by have := H.l2.pg.lt_all hj; omega, by omega, fun e => absurd ((hv2.l2.own.cl e).uniq hty) (by decide), Nat.le_trans H.l2.below.size hq, fun hc => absurd (hc.uniq hty) (by decide)⟩
theorem sv7CA {w : World} {b : Nat} {t : TypeId} {v0 v1 v2 v3 v4 v5 v6 : Value} (h : Blk w b t [v0, v1, v2, v3, v4, v5, v6]) : (∀ o, (w.alloc o).cell? ⟨b, 0, none⟩ = some v0) ∧ (∀ o, (w.alloc o).cell? ⟨b, 1, none⟩ = some v1) ∧ (∀ o, (w.alloc o).cell? ⟨b, 2, none⟩ = some v2) ∧ (∀ o, (w.alloc o).cell? ⟨b, 3, none⟩ = some v3) ∧ (∀ o, (w.alloc o).cell? ⟨b, 4, none⟩ = some v4) ∧ (∀ o, (w.alloc o).cell? ⟨b, 5, none⟩ = some v5) ∧ (∀ o, (w.alloc o).cell? ⟨b, 6, none⟩ = some v6) :=
 ⟨fun o => (sv7C (h.alloc o)).1, fun o => (sv7C (h.alloc o)).2.1, fun o => (sv7C (h.alloc o)).2.2.1, fun o => (sv7C (h.alloc o)).2.2.2.1, fun o => (sv7C (h.alloc o)).2.2.2.2.1, fun o => (sv7C (h.alloc o)).2.2.2.2.2.1, fun o => (sv7C (h.alloc o)).2.2.2.2.2.2⟩
theorem sv7FA {w : World} {b : Nat} {t : TypeId} {cs : List Value} (h : Blk w b t cs) : (∀ o, (w.alloc o).frozen? ⟨b, 0, none⟩ = false) ∧ (∀ o, (w.alloc o).frozen? ⟨b, 1, none⟩ = false) ∧ (∀ o, (w.alloc o).frozen? ⟨b, 2, none⟩ = false) ∧ (∀ o, (w.alloc o).frozen? ⟨b, 3, none⟩ = false) ∧ (∀ o, (w.alloc o).frozen? ⟨b, 4, none⟩ = false) ∧ (∀ o, (w.alloc o).frozen? ⟨b, 5, none⟩ = false) ∧ (∀ o, (w.alloc o).frozen? ⟨b, 6, none⟩ = false) :=
 ⟨fun o => (h.alloc o).frozen 0, fun o => (h.alloc o).frozen 1, fun o => (h.alloc o).frozen 2, fun o => (h.alloc o).frozen 3, fun o => (h.alloc o).frozen 4, fun o => (h.alloc o).frozen 5, fun o => (h.alloc o).frozen 6⟩
theorem node_leaf {a w : World} {r : Nat} {t : TypeId} {R : List Value} {p : Pgl} {P : PSt} {S : St} {A : Option Addr} {n c : Nat} {M : List Int} (h : Vi a r t R p P S A n c M w) (id : Int) (hb : finB P.M.size id = true) (hn : n < 1024) (hf : S.fuse ≠ 0) (hF : Fours a) (X : Pg) (hX : decPg (bytesAt P S id) = (X, 0)) (hk : X.kind = 1) (ka : Option Addr) (kn kc : Nat) :
 Calls Tryz.prog 89 #[.pointer (some ⟨r, 0, none⟩), .agg #[.slice ka kn kc, .int .i64 id]] w (VrX a w r t R p P S A n M id X) := by
 have H := kept h; have HB0 := fun o1 o2 => kept (((Below.refl _ w).alloc (Nat.le_refl _) o1).alloc (by simp) o2)
 have HR := fun o1 o2 => kept (vread_x (h.on (HB0 o1 o2).out) id hb hn hf hF hX)
 have HK := kept hk; clear h hb hn hf hF hX hk; go_enter Tryz.func89, Tryz.ntmps89; go_wp2_with fail
 have HQ0 := kept ((Blk.new (w.alloc (.cells #[.slice ka kn kc, .int .i64 id] 131)) 137 #[.int .i64 0, .int .u64 0, .int .i64 0, .slice none 0 0, .slice none 0 0, .slice none 0 0, .slice none 0 0])); with_reducible refine (HR _ _).out.mono ?_
 rintro e w1 ⟨l, A1, c1, K, B, rfl, HH⟩; clear HR; obtain ⟨kind, txn, next, a1, n1, k1, a2, n2, k2, a3, n3, k3, a4, n4, k4⟩ := l; obtain rfl : kind = 1 := by have := HH.out.2.1.here.toRdPg.kind; rw [HK.out] at this; exact this.symm
 have hq1 := HH.out.2.2.1.blk HQ0.out (fun hj => by
  have h1 := H.out.lt; simp only [World.size_alloc] at hj; rcases hj with hj | hj
  · omega
  · have := H.out.l2.own.lt hj; omega)
 simp only [World.size_alloc] at hq1; have HQ1 := kept hq1; obtain ⟨t0, t1, t2, t3, t4, t5, t6⟩ := sv7FA hq1; obtain ⟨p0, p1, p2, p3, p4, p5, p6⟩ := sv7CA hq1; clear hq1 HQ0; go_wp2
 go_quiet (fail)
 go_wp2; have hb2 := kept (below_dn ((Below.refl _ w1).alloc (Nat.le_refl _) (.cells #[.int .i64 1, .int .u64 txn, .int .i64 next, .slice a1 n1 k1, .slice a2 n2 k2, .slice a3 n3 k3, .slice a4 n4 k4] 137)) nq); have hb7 := (((((((HQ1.out.below hb2.out HQ1.out.lt).set_ 0 (.int .i64 1)).set_ 1 (.int .u64 txn)).set_ 2 (.int .i64 next)).set_ 3 (.slice a1 n1 k1)).set_ 4 (.slice a2 n2 k2)).set_ 5 (.slice a3 n3 k3)).set_ 6 (.slice a4 n4 k4); simp only [List.set_cons_zero, List.set_cons_succ] at hb7; have ho7 := only7 ((w1.alloc (.cells #[.int .i64 1, .int .u64 txn, .int .i64 next, .slice a1 n1 k1, .slice a2 n2 k2, .slice a3 n3 k3, .slice a4 n4 k4] 137)).drewN nq) (w.heap.size + 1) (.int .i64 1) (.int .u64 txn) (.int .i64 next) (.slice a1 n1 k1) (.slice a2 n2 k2) (.slice a3 n3 k3) (.slice a4 n4 k4); unfold set7 at ho7; generalize ((w1.alloc (.cells #[.int .i64 1, .int .u64 txn, .int .i64 next, .slice a1 n1 k1, .slice a2 n2 k2, .slice a3 n3 k3, .slice a4 n4 k4] 137)).drewN nq) = W2 at hb2 hb7 ho7 ⊢; generalize (((((((W2.setCell ⟨w.heap.size + 1, 0, none⟩ (.int .i64 1)).setCell ⟨w.heap.size + 1, 1, none⟩ (.int .u64 txn)).setCell ⟨w.heap.size + 1, 2, none⟩ (.int .i64 next)).setCell ⟨w.heap.size + 1, 3, none⟩ (.slice a1 n1 k1)).setCell ⟨w.heap.size + 1, 4, none⟩ (.slice a2 n2 k2)).setCell ⟨w.heap.size + 1, 5, none⟩ (.slice a3 n3 k3)).setCell ⟨w.heap.size + 1, 6, none⟩ (.slice a4 n4 k4)) = Y at hb7 ho7 ⊢; obtain ⟨x0, x1, x2, x3, x4, x5, x6⟩ := sv7C hb7; have tq : Turned W2 Y (fun k => k = w.heap.size + 1) := ⟨ho7.os, ho7.tape, ho7.output, ho7.size, fun k hk hne => ho7.block k hk (fun e => hne (by cases e; rfl))⟩
 have hty : Cl W2 (w.heap.size + 1) 137 := (HQ1.out.below hb2.out HQ1.out.lt).cl; exact bodyPost_ret (v := .tuple #[.agg #[.int .i64 1, .int .u64 txn, .int .i64 next, .slice a1 n1 k1, .slice a2 n2 k2, .slice a3 n3 k3, .slice a4 n4 k4], .int .i64 0]) (by simp [results, Tryz.results89, go_sem, x0, x1, x2, x3, x4, x5, x6]) rfl ⟨⟨1, txn, next, a1, n1, k1, a2, n2, k2, a3, n3, k3, a4, n4, k4⟩, A1, c1, K, B, rfl, kept (vr_end H.out (HB0 _ _).out (by omega) (by simp) HH.out hb2.out tq hty)⟩
theorem OwB.nil_ (w : World) : OwB w none 0 0 [] := World.ownsRow_nil _ _ _ _
theorem run_append_b {w : World} {A B : Option Addr} {n c m d : Nat} {X Y : List UInt8} (h : OwB w A n c X) (hr : Rd w B m Y) (hm : n + m ≤ 1000000) (ty : TypeId) :
 ∃ A' c' w', (Builtin.append_ #[46, 46] ty #[.slice A n c, .slice B m d]).run Tryz.prog w = .ok (.slice A' (n + m) c') w' ∧ OwB w' A' (n + m) c' (X ++ Y) ∧ Turned w w' (fun j => blkOf A = some j) ∧ (∀ g, blkOf A' = some g → blkOf A = some g ∨ w.heap.size ≤ g) := by
 obtain ⟨i, hi, hz, hsz, hby⟩ := info_parts u8info; rcases Nat.eq_zero_or_pos m with h0 | h0
 · subst h0; obtain rfl : Y = [] := List.eq_nil_of_length_eq_zero hr.1; refine ⟨A, c, w, ?_, by simpa using h, Turned.refl _ _, fun g hg => .inl hg⟩; have ht := Tryz.underlying46; rcases h.2 with ⟨hv, hn⟩ | ⟨g, cap, cur, hv, _, _, hnc, _⟩
   · injection hv with e1 e2 e3
     subst e1 e2 e3; cases B <;> simp [Builtin.append_, run_underlying ht, sizeOf, typeInfo, hi, Builtin.lenOf, Builtin.firstCells, loadCells, loadCellsFrom]
   · injection hv with e1 e2 e3
     subst e1 e3; cases B <;> simp [Builtin.append_, run_underlying ht, sizeOf, typeInfo, hi, Builtin.lenOf, Builtin.firstCells, loadCells, loadCellsFrom, hnc, storeCells]
 · obtain ⟨b, rfl, _⟩ := hr.2 h0; obtain ⟨v', w', hrun, hown', hgrow, _, hloc⟩ := run_append_own_at (P := Tryz.prog) (w := w) 0 46 ty 5 i _ 1 1 Tryz.underlying46 hi hz hsz hby rfl (by decide) _ n (cellsOf X) h b m d (cellsOf Y) (by rw [cellsOf_length, hr.1]; omega) (hr.cells rfl) (cellsOf_one Y)
    (by unfold maxLen; omega) (by omega) (Nat.zero_le _)
   rw [← cellsOf_append] at hown'; have hv : ∃ A' c', v' = .slice A' (n + m) c' := by
    rcases hown'.2 with ⟨rfl, h⟩ | ⟨g, cap, cur, rfl, _⟩
    · omega
    · exact ⟨_, _, rfl⟩
   obtain ⟨A', c', rfl⟩ := hv; have eb : ∀ (A : Option Addr) n c, (Value.slice A n c).ownBlock = blkOf A := fun A n c => by cases A <;> rfl
   rw [eb] at hgrow; rw [eb, eb] at hloc; refine ⟨A', c', w', hrun, hown', Turned.of_grown hgrow (fun j hj => hj), fun g hg => ?_⟩; rcases hloc with h1 | h1
   · exact .inl (h1 ▸ hg)
   · rw [h1] at hg; cases hg; exact .inr (Nat.le_refl _)
theorem wp_append_b {w : World} {o : Oper} {a : Act} {K : Act → World → Prop} {Q : Exit → Act → World → Prop} (s x : Operand) (ho : o.op = .call { callee := .builtin .append, args := #[s, x], argTypes := #[46, 46] })
 {A B : Option Addr} {n c m d : Nat} {X Y : List UInt8} (hs : a.eval s = .slice A n c) (hx : a.eval x = .slice B m d) (h : OwB w A n c X) (hr : Rd w B m Y) (hm : n + m ≤ 1000000)
 (hK : ∀ A' c' w', OwB w' A' (n + m) c' (X ++ Y) → Turned w w' (fun j => blkOf A = some j) → (∀ g, blkOf A' = some g → blkOf A = some g ∨ w.heap.size ≤ g) → K (a.put o.dst (.slice A' (n + m) c')) w') : o.wp Tryz.prog a w K Q := by
 obtain ⟨A', c', w', hrun, h2, h3, h4⟩ := run_append_b h hr hm o.type (d := d); unfold Oper.wp execOp; simp only [ho, resolve, invoke, builtin, Sem.run_bind, Sem.run_pure, Result.andThen_ok, List.map_toArray, List.map_cons, List.map_nil, hs, hx, hrun]; exact hK A' c' w' h2 h3 h4
def ChainP (P : PSt) (S : St) : Int → List (Int × List UInt8) → Prop
 | i, [] => i = 0
 | i, x :: r => i = x.1 ∧ finB P.M.size x.1 = true ∧ ∃ X : Pg, decPg (bytesAt P S x.1) = (X, 0) ∧ X.kind = 3 ∧ X.data = x.2 ∧ ChainP P S X.next r
def bytesP (l : List (Int × List UInt8)) : List UInt8 := l.flatMap (·.2)
def idsP (l : List (Int × List UInt8)) : List Int := l.map (·.1)
def fillP : Bool → List (Int × List UInt8) → Bool
 | f, [] => f
 | f, x :: r => fillP (f && (r.isEmpty || x.2.length == 237)) r
theorem value_inline {a w : World} {r : Nat} (ka va : Option Addr) (kn kc vn vc : Nat) :
 Calls Tryz.prog 54 #[.pointer (some ⟨r, 0, none⟩), .agg #[.slice ka kn kc, .slice va vn vc, .int .i64 (vn : Int), .int .i64 0]] w fun e w' => e = .returned (.tuple #[.agg #[.slice va vn vc, .slice none 0 0, .bool true], .int .i64 0]) ∧ Below w.heap.size w w' := by
 go_enter Tryz.func54, Tryz.ntmps54; go_wp2; refine wp_loop_rounds 1 ?_; rw [rounds_succ]; go_wp2; refine bodyPost_ret (v := .tuple #[.agg #[.slice va vn vc, .slice none 0 0, .bool true], .int .i64 0]) (by simp [results, Tryz.results54, go_sem]) rfl ⟨rfl, ?_⟩; exact (((Below.refl _ w).alloc (Nat.le_refl _) _).alloc (by simp) _).alloc (by simp; omega) _
structure ValS (a w : World) (r : Nat) (t : TypeId) (R : List Value) (p : Pgl) (P : PSt) (S : St) (A A' : Option Addr) (nm c' : Nat) (Mv : List Int) (A1 : Option Addr) (n1 c1 : Nat) (xs : List UInt8) (B1 : Option Addr) (m1 d1 : Nat) (I : List Int) (Cb ic : List Value) (wr : World) : Prop where
 vi : Vi a r t R p P S A' nm c' Mv wr
 box : Blk wr (w.heap.size + 2) 145 Cb
 itm : Blk wr w.heap.size 149 ic
 res : Blk wr (w.heap.size + 1) 145 [.slice none 0 0, .slice none 0 0, .bool false]
 ob : OwB wr A1 n1 c1 xs
 oi : OwI wr B1 m1 d1 I
 nb : ∀ g, blkOf A1 = some g → w.heap.size ≤ g
 ni : ∀ g, blkOf B1 = some g → w.heap.size ≤ g ∧ blkOf A' ≠ some g
 tu : Turned w wr (viT r A)
 ga : ∀ g, blkOf A' = some g → blkOf A = some g ∨ w.heap.size ≤ g
section
variable {a w wr w' : World} {r : Nat} {t : TypeId} {R : List Value} {p : Pgl} {P : PSt} {S : St} {A A' A'' : Option Addr} {n c nm c' nm' c'' : Nat} {M Mv Mv' : List Int} {A1 A2 : Option Addr} {n1 c1 n2 c2 : Nat} {xs ys : List UInt8} {B1 B2 : Option Addr} {m1 d1 m2 d2 : Nat} {I J : List Int} {Cb ic : List Value}
theorem ValS.on (h : ValS a w r t R p P S A A' nm c' Mv A1 n1 c1 xs B1 m1 d1 I Cb ic wr) (hb : Below wr.heap.size wr w') : ValS a w r t R p P S A A' nm c' Mv A1 n1 c1 xs B1 m1 d1 I Cb ic w' :=
 ⟨h.vi.on hb, h.box.below hb h.box.lt, h.itm.below hb h.itm.lt, h.res.below hb h.res.lt, h.ob.below hb, h.oi.below hb, h.nb, h.ni, h.tu.trans (Turned.of_below hb _), h.ga⟩
theorem ValS.met (h : ValS a w r t R p P S A A' nm c' Mv A1 n1 c1 xs B1 m1 d1 I Cb ic wr) (hw : r < w.heap.size) (hv : Vi a r t R p P S A'' nm' c'' Mv' w') (tu : Turned wr w' (viT r A')) (hg : ∀ g, blkOf A'' = some g → blkOf A' = some g ∨ wr.heap.size ≤ g) :
 ValS a w r t R p P S A A'' nm' c'' Mv' A1 n1 c1 xs B1 m1 d1 I Cb ic w' := by
 have hne : ∀ k, w.heap.size ≤ k → ¬ Cl wr k 3 → ¬ viT r A' k := fun k hk hc hj => by
  rcases hj with hj | hj
  · omega
  · exact hc (h.vi.l2.own.cl hj)
 refine ⟨hv, tu.blk h.box (hne _ (by omega) (fun hc => absurd (hc.uniq h.box.cl) (by decide))), tu.blk h.itm (hne _ (by omega) (fun hc => absurd (hc.uniq h.itm.cl) (by decide))), tu.blk h.res (hne _ (by omega) (fun hc => absurd (hc.uniq h.res.cl) (by decide))),
  h.ob.turned tu (fun g e => hne g (h.nb g e) (fun hc => absurd (hc.uniq (h.ob.cl e)) (by decide))), h.oi.turned tu (fun g e hj => ?_), h.nb, fun g e => ⟨(h.ni g e).1, fun e2 => ?_⟩, ?_, fun g e => ?_⟩
 · rcases hj with hj | hj
   · have := (h.ni g e).1; omega
   · exact (h.ni g e).2 hj
 · rcases hg g e2 with h5 | h5
   · exact (h.ni g e).2 h5
   · have := h.oi.lt e; omega
 · refine ⟨tu.os.trans h.tu.os, tu.tape.trans h.tu.tape, tu.output.trans h.tu.output, Nat.le_trans h.tu.size tu.size, fun k hk hn => ?_⟩; rw [tu.block k (Nat.lt_of_lt_of_le hk h.tu.size) (fun hj => ?_), h.tu.block k hk hn]; rcases hj with hj | hj
   · exact hn (.inl hj)
   · rcases h.ga k hj with h5 | h5
     · exact hn (.inr h5)
     · omega
 · rcases hg g e with h5 | h5
   · exact h.ga g h5
   · exact .inr (Nat.le_trans h.tu.size h5)
theorem ValS.vi_far (h0 : Vi a r t R p P S A n c M w) (h : ValS a w r t R p P S A A' nm c' Mv A1 n1 c1 xs B1 m1 d1 I Cb ic wr) {T : Nat → Prop} (tu : Turned wr w' T) (h1 : ∀ k, T k → w.heap.size ≤ k ∧ blkOf A' ≠ some k) :
 Vi a r t R p P S A' nm c' Mv w' ∧ Turned w w' (viT r A) := by
 have t2 : Turned w w' (viT r A) := h.tu.trans' tu (fun j hj e => by have := (h1 j e).1; omega); have hr := h0.lt; refine ⟨⟨⟨h0.l2.pg.same t2 (fun j hj e => ?_) (fun b hc e => ?_), h.vi.l2.own.turned tu (fun g e hg => (h1 g hg).2 e), h.vi.l2.ap, h.vi.l2.an, h.vi.l2.pn, tu.only_new h.vi.l2.below h.vi.l2.below.size (fun i hi => Nat.le_trans h0.l2.below.size (h1 i hi).1)⟩, tu.blk h.vi.box (fun hj => by have := (h1 r hj).1; omega), h.vi.ti, h.vi.tu, h.vi.ap, h.vi.rn⟩, t2⟩
 · rcases e with e | e
   · subst e; exact h0.ap hj
   · exact h0.l2.ap _ e hj
 · rcases e with e | e
   · subst e; exact h0.tu (h0.box.cl.uniq hc)
   · exact absurd ((h0.l2.own.cl e).uniq hc) (by decide)
theorem ValS.appB (h0 : Vi a r t R p P S A n c M w) (h : ValS a w r t R p P S A A' nm c' Mv A1 n1 c1 xs B1 m1 d1 I Cb ic wr) (ho : OwB w' A2 n2 c2 ys) (tu : Turned wr w' (fun j => blkOf A1 = some j)) (hg : ∀ g, blkOf A2 = some g → blkOf A1 = some g ∨ wr.heap.size ≤ g) :
 ValS a w r t R p P S A A' nm c' Mv A2 n2 c2 ys B1 m1 d1 I Cb ic w' := by
 obtain ⟨hv, ht⟩ := h.vi_far h0 tu (fun k e => ⟨h.nb k e, fun e2 => absurd ((h.vi.l2.own.cl e2).uniq (h.ob.cl e)) (by decide)⟩); refine ⟨hv, tu.blk h.box (fun e => absurd ((h.ob.cl e).uniq h.box.cl) (by decide)), tu.blk h.itm (fun e => absurd ((h.ob.cl e).uniq h.itm.cl) (by decide)), tu.blk h.res (fun e => absurd ((h.ob.cl e).uniq h.res.cl) (by decide)), ho,
  h.oi.turned tu (fun g e e2 => absurd ((h.ob.cl e2).uniq (h.oi.cl e)) (by decide)), fun g e => ?_, h.ni, ht, h.ga⟩
 rcases hg g e with h5 | h5
 · exact h.nb g h5
 · exact Nat.le_trans h.tu.size h5
theorem ValS.appI (h0 : Vi a r t R p P S A n c M w) (h : ValS a w r t R p P S A A' nm c' Mv A1 n1 c1 xs B1 m1 d1 I Cb ic wr) (ho : OwI w' B2 m2 d2 J) (tu : Turned wr w' (fun j => blkOf B1 = some j)) (hg : ∀ g, blkOf B2 = some g → blkOf B1 = some g ∨ wr.heap.size ≤ g) :
 ValS a w r t R p P S A A' nm c' Mv A1 n1 c1 xs B2 m2 d2 J Cb ic w' := by
 obtain ⟨hv, ht⟩ := h.vi_far h0 tu (fun k e => ⟨(h.ni k e).1, (h.ni k e).2⟩); refine ⟨hv, tu.blk h.box (fun e => absurd ((h.oi.cl e).uniq h.box.cl) (by decide)), tu.blk h.itm (fun e => absurd ((h.oi.cl e).uniq h.itm.cl) (by decide)), tu.blk h.res (fun e => absurd ((h.oi.cl e).uniq h.res.cl) (by decide)),
  h.ob.turned tu (fun g e e2 => absurd ((h.oi.cl e2).uniq (h.ob.cl e)) (by decide)), ho, h.nb, fun g e => ?_, ht, h.ga⟩
 rcases hg g e with h5 | h5
 · exact h.ni g h5
 · exact ⟨Nat.le_trans h.tu.size h5, fun e2 => by have := h.vi.l2.own.lt e2; omega⟩
theorem ValS.put (h0 : Vi a r t R p P S A n c M w) (h : ValS a w r t R p P S A A' nm c' Mv A1 n1 c1 xs B1 m1 d1 I Cb ic wr) (i : Nat) (u : Value) :
 ValS a w r t R p P S A A' nm c' Mv A1 n1 c1 xs B1 m1 d1 I (Cb.set i u) ic (wr.setCell ⟨w.heap.size + 2, i, none⟩ u) := by
 have tu : Turned wr (wr.setCell ⟨w.heap.size + 2, i, none⟩ u) (fun j => j = w.heap.size + 2) := (Turned.refl wr (fun j => j = w.heap.size + 2)).setCell (T := fun j => j = w.heap.size + 2) (p := ⟨w.heap.size + 2, i, none⟩) (fun _ => rfl) _; obtain ⟨hv, ht⟩ := h.vi_far h0 tu (fun k e => ⟨by omega, fun e2 => by subst e; exact absurd ((h.vi.l2.own.cl e2).uniq h.box.cl) (by decide)⟩); exact ⟨hv, h.box.set_ i u, tu.blk h.itm (by omega), tu.blk h.res (by omega), h.ob.turned tu (fun g e e2 => by subst e2; exact absurd ((h.ob.cl e).uniq h.box.cl) (by decide)), h.oi.turned tu (fun g e e2 => by subst e2; exact absurd ((h.oi.cl e).uniq h.box.cl) (by decide)), h.nb, h.ni, ht, h.ga⟩
end
def ValA (a w : World) (r : Nat) (t : TypeId) (R : List Value) (p : Pgl) (P : PSt) (S : St) (A : Option Addr) (n : Nat) (M : List Int) (sz : Nat) (l : List (Int × List UInt8)) (e : Ending) (w' : World) : Prop :=
 ∃ (A1 : Option Addr) (c1 : Nat) (B1 : Option Addr) (d1 : Nat) (A' : Option Addr) (c' : Nat), e = .returned (.tuple #[.agg #[.slice A1 sz c1, .slice B1 l.length d1, .bool (fillP true l)], .int .i64 0]) ∧
   Hid (Vi a r t R p P S A' (n + l.length) c' (M ++ idsP l) w' ∧ OwB w' A1 sz c1 (bytesP l) ∧ OwI w' B1 l.length d1 (idsP l) ∧ (∀ g, blkOf A1 = some g → w.heap.size ≤ g) ∧ (∀ g, blkOf B1 = some g → w.heap.size ≤ g ∧ blkOf A' ≠ some g) ∧ Turned w w' (viT r A) ∧ ∀ g, blkOf A' = some g → blkOf A = some g ∨ w.heap.size ≤ g)
end Go.Proofs.YtblbhhijddcbeaaGreatDoor
end
