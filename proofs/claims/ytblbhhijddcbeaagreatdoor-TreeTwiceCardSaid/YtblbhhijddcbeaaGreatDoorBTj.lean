/- Tj Tk Tv -/
import Derived.Test.YtblbhhijddcbeaaGreatDoorBTi
import Derived.RangeFuncBox
import Derived.Maps.AppendAt
import Derived.Test.YtblbhhijddcbeaaGreatDoorBQu
import Derived.Test.YtblbhhijddcbeaaGreatDoorBTg
import Derived.Test.YtblbhhijddcbeaaGreatDoorBQw
section
namespace Go.Proofs.YtblbhhijddcbeaaGreatDoor
open Go.ChangeShapes Go.WideShapes Go.ChangeAt Go.RowKit
set_option linter.unusedVariables false
set_option linter.unusedSimpArgs false
set_option maxRecDepth 100000
set_option maxHeartbeats 16000000
attribute [local go_sem] Oper.semAt_some
theorem chunk_stops (F : Fence) (n : Nat) (hf : F.fn 151) (hro : F.round = none) (hn : 1 ≤ n) (B1 B2 b o len cap : Nat) (hlen : len ≤ 100000) (hcap : len ≤ cap) (w : World) (h1 : w.cell? ⟨B1, 0, none⟩ = some (.slice (some ⟨b, o, none⟩) len cap)) (h2 : w.cell? ⟨B2, 0, none⟩ = some (.int .i64 237)) :
 SeqStopsK F n Tryz.prog 151 #[.pointer (some ⟨B1, 0, none⟩), .pointer (some ⟨B2, 0, none⟩)] (fun x : Nat => #[pieceV b o len x]) (Two2 B1 B2) (fun ys => ys = List.range (pieces len)) (fun pre => ∃ q, q ≤ pieces len ∧ pre = List.range q) (pieces len) w := fun l J Jx W hW hJ _ hY h0 =>
 chunk_in F n hf hro hn l B1 B2 b o len cap hlen hcap J Jx (fun pre W1 hj => hJ pre W1 W1.drew none hj ⟨rfl, rfl, rfl, Nat.le_refl _, fun _ _ _ => rfl⟩ (fun r e => by cases e)) hY W (cell_below hW h1) (cell_below hW h2) h0
theorem bytesInfo : (Tryz.prog.info? 46).map (fun i => (i.zero, i.size, i.bytes)) = some (some (.slice none 0 0), 1, 24) := by kernel_rfl
theorem pieces_le {len : Nat} (h : len ≤ 100000) : pieces len ≤ 1000 := by unfold pieces; omega
theorem appendSeq_any (B1 B2 b o len cap : Nat) (hlen : len ≤ 100000) (hcap : len ≤ cap) (w : World) (h1 : w.cell? ⟨B1, 0, none⟩ = some (.slice (some ⟨b, o, none⟩) len cap)) (h2 : w.cell? ⟨B2, 0, none⟩ = some (.int .i64 237)) :
 Calls Tryz.prog 150 #[.slice none 0 0, .func (.func 151) #[] #[.pointer (some ⟨B1, 0, none⟩), .pointer (some ⟨B2, 0, none⟩)]] w fun e W' => ∃ v, e = .returned v ∧ W'.ownsRow w.heap.size 46 1 v (pieces len) ((List.range (pieces len)).map (pieceV b o len)) ∧ Below w.heap.size w W' := by
 refine (callsIn_wide (n := 9)).1 ?_; obtain ⟨i0, hi, hz0, hz1, hz2⟩ := info_parts bytesInfo; have hb1 : B1 < w.heap.size := World.block_lt_of_cell? w _ h1; have hb2 : B2 < w.heap.size := World.block_lt_of_cell? w _ h2; have hpl := pieces_le hlen; refine callsIn_of_wp_marks Tryz.func150 rfl trivial ?_ rfl; simp only [Tryz.ntmps150, List.size_toArray, List.length_cons, List.length_nil, Nat.reduceAdd, Nat.reduceSub, Array.replicate_succ, Array.replicate_zero, List.push_toArray, List.append_toArray, List.nil_append, List.cons_append]
 gi_wp2
 have bO := Boxed.new w 214 (.slice none 0 0); have hB0 : Below w.heap.size w (w.alloc (.cells #[.slice none 0 0] 214)) := (Below.refl _ w).alloc (Nat.le_refl _) _; refine wpIn_rangeFunc_ownG rfl (by decide) (gf := 151) (lb := #[.pointer (some ⟨B1, 0, none⟩), .pointer (some ⟨B2, 0, none⟩)]) rfl trivial (enters_of Tryz.func151 (by kernel_rfl) rfl)
  (chunk_stops _ _ trivial rfl (by decide) B1 B2 b o len cap hlen hcap _ (cell_below hB0 h1) (cell_below hB0 h2)) (fun h k => h.t k) (fun W l o1 o2 hl ho hc hw => by
   have hbb := belowK_b (n₀ := w.heap.size) (w := w.alloc (.cells #[.slice none 0 0] 214)) (by simp) W l o1 o2 hl ho hc hw; exact ⟨hbb.block _ hb1, hbb.block _ hb2⟩) (Below.refl _ _) (fun _ => rfl)
  (fun pre W => (∃ v, Boxed W w.heap.size 214 v ∧ W.ownsRow w.heap.size 46 1 v pre.length (pre.map (pieceV b o len)) ∧ True) ∧ Below w.heap.size w W)
  (fun _ _ _ => False)
  (OwnFrom.and (Own.from (holdsRow_own w.heap.size w.heap.size 214 46 1 (fun pre : List Nat => pre.length) (fun pre => pre.map (pieceV b o len)) (fun _ _ => True)) _) (ownFrom_below (Nat.le_refl _) (by simp)))
  (fun _ _ _ _ _ hs _ _ => hs)
  ⟨⟨_, bO, World.ownsRow_nil _ _ _ _, trivial⟩, hB0⟩
  (fun x => { tmps := #[.slice none 0 0, .func (.func 151) #[] #[.pointer (some ⟨B1, 0, none⟩), .pointer (some ⟨B2, 0, none⟩)], .pointer (some ⟨w.heap.size, 0, none⟩), undef, .slice none 0 0, .slice (some ⟨b, o + 237 * x, none⟩) (pieceN len x) (pieceN len x), .func (.func 151) #[] #[.pointer (some ⟨B1, 0, none⟩), .pointer (some ⟨B2, 0, none⟩)], .slice (some ⟨b, o + 237 * x, none⟩) (pieceN len x) (pieceN len x), undef, undef, undef, undef, undef], defers := [] }) ?assign ?body ?done ?stop
 case assign =>
  intro l x W K hK
  gi_wp2
  exact hK
 case body =>
  rintro l pre x W ⟨⟨v, hv, hrow, _⟩, hB⟩ hlt; have hc := hv.cell
  gi_wp2_with (gi_at_builtin; refine wpListIn_append_own _ rfl _ _ 214 rfl w.heap.size 46 i0 (.slice none 0 0) 1 24 Tryz.underlying214 hi hz0 hz1 hz2 rfl (by decide) _ _ _ rfl (hrow.alloc _) ⟨W.heap.size, 0, none⟩ 1 1 [.slice (some ⟨b, o + 237 * x, none⟩) (pieceN len x) (pieceN len x)] rfl rfl (cell_one_new _ _ _) (by simp [Value.oneCell']) (by unfold maxLen; omega) (by omega) (by have := hB.size; simp; omega) ?_; intro v' w1 hown' hgrow _; obtain ⟨g', cap', rfl⟩ := ownsRow_succ hown'; obtain ⟨hv1, hv2, hr2, hk2, hbx⟩ := hv.appended (by decide) hrow hB.size (Nat.le_refl _) hown' hgrow; have hc1 := hv1.cell; have hf1 := hv1.frozen)
  exact ⟨hk2.from _, ⟨hbx.block _ hb1, hbx.block _ hb2⟩, ⟨_, hv2, by simpa [pieceV] using hr2, trivial⟩, hB.trans hbx⟩
 case done =>
  rintro D ys W hD rfl ⟨⟨v, hv, hrow, _⟩, hB⟩ hK; have hc := hv.cell
  gi_wp2
  refine ⟨by simp, .inl ⟨_, _, rfl, run_takeDeferred hK, ?_⟩⟩; exact ⟨_, results_tmp rfl _ _ _, v, rfl, by simpa using ownsRow_putObj hrow _ hK rfl, hB.trans (belowK_b (w := w) (Nat.le_refl _) W D _ _ (by simp at hD; omega) hK rfl rfl)⟩
 case stop =>
  rintro D c pre W _ _ h _; exact h.elim
inductive Added (z : Nat) : PSt → List (Int × Pg) → PSt → Prop
 | nil (P : PSt) : Added z P [] P
 | snoc {P P' : PSt} {l : List (Int × Pg)} {y : Int} {r : List Int} {X : Pg} (h : Added z P l P') (hS : P'.L.S = y :: r) (hs : z / 60 + 2 ≤ P'.L.S.length) (hR : rightB (txnP X (P'.M.txn + 1)) = true) : Added z P (l ++ [(y, X)]) (addP P' y (sealed (bodyOf (txnP X (P'.M.txn + 1)))))
theorem Added.same {z : Nat} {P P' : PSt} {l : List (Int × Pg)} (h : Added z P l P') : P'.M = P.M ∧ P'.chain = P.chain ∧ P'.root = P.root ∧ P'.L.H = P.L.H := by
 induction h with
 | nil => exact ⟨rfl, rfl, rfl, rfl⟩
 | snoc h hS hs hR ih => exact ih
theorem Added.len {z : Nat} {P P' : PSt} {l : List (Int × Pg)} (h : Added z P l P') : P'.L.S.length + l.length = P.L.S.length := by
 induction h with
 | nil => rfl
 | snoc h hS hs hR ih =>
   rename_i y r X
   rw [hS] at ih; simp only [List.length_cons, List.length_append, List.length_nil] at ih ⊢; have h2 : ∀ q, (addP q y (sealed (bodyOf (txnP X (q.M.txn + 1))))).L.S = q.L.S.tail := fun _ => rfl
   rw [h2, hS]; simp only [List.tail_cons]; omega
theorem Added.sub {z : Nat} {P P' : PSt} {l : List (Int × Pg)} (h : Added z P l P') : (∀ x ∈ P'.L.S, x ∈ P.L.S) ∧ ∀ e ∈ l, e.1 ∈ P.L.S := by
 induction h with
 | nil => exact ⟨fun x hx => hx, fun e he => by cases he⟩
 | snoc h hS hs hR ih =>
   refine ⟨fun x hx => ih.1 x (List.mem_of_mem_tail hx), fun e he => ?_⟩; rcases List.mem_append.1 he with he | he
   · exact ih.2 e he
   · obtain rfl := List.mem_singleton.1 he; exact ih.1 _ (by rw [hS]; exact List.mem_cons_self ..)
def headI (l : List (Int × List UInt8)) : Int := match l with | [] => 0 | x :: _ => x.1
def pieceX (next : Int) (xs : List UInt8) : Pg := ⟨3, 0, next, [], [], xs, []⟩
def addsOf : List (Int × List UInt8) → List (Int × Pg)
 | [] => []
 | x :: r => addsOf r ++ [(x.1, pieceX (headI r) x.2)]
theorem addsOf_length (l : List (Int × List UInt8)) : (addsOf l).length = l.length := by
 induction l with
 | nil => rfl
 | cons x r ih => simp [addsOf, ih]
theorem mem_addsOf {l : List (Int × List UInt8)} {x : Int × List UInt8} (h : x ∈ l) : ∃ X, (x.1, X) ∈ addsOf l := by
 induction l with
 | nil => cases h
 | cons y r ih =>
   rcases List.mem_cons.1 h with rfl | h
   · exact ⟨_, List.mem_append_right _ (List.mem_singleton.2 rfl)⟩
   · obtain ⟨X, hX⟩ := ih h; exact ⟨X, List.mem_append_left _ hX⟩
theorem head_page {w : World} {p : Pgl} {P P' : PSt} {S : St} (h : Pgr w p P S) {l : List (Int × List UInt8)} (ha : Added S.pages.length P (addsOf l) P') : headI l = 0 ∨ isPg (headI l) = true := by
 cases l with
 | nil => exact .inl rfl
 | cons x r =>
   obtain ⟨X, hX⟩ := mem_addsOf (l := x :: r) (List.mem_cons_self ..); have h1 := ha.sub.2 _ hX; have h2 := h.lst.1.2.2.2.2.1 _ h1; have h3 := h.ok.lz; have h4 := h.dsk.1.2.1; refine .inr ?_; show isPg x.1 = true; have h5 : 1 ≤ x.1 ∧ x.1 < 1024 := ⟨by have := h2.1; show (1 : Int) ≤ x.1; simp at this; omega, by have := h2.2; simp at this; omega⟩
   simp [isPg, h5]
def pieceB (xs : List UInt8) (k : Nat) : List UInt8 := (xs.drop (237 * k)).take 237
theorem pieceB_length (xs : List UInt8) (k : Nat) : (pieceB xs k).length = pieceN xs.length k := by
 unfold pieceB pieceN; rw [List.length_take, List.length_drop]
 split <;> omega
def PiecesOf (xs : List UInt8) (q : Nat) (l : List (Int × List UInt8)) : Prop := l.map (·.2) = (List.range' q (pieces xs.length - q)).map (pieceB xs)
theorem piece_ok {next : Int} {xs : List UInt8} (h1 : 1 ≤ xs.length) (h2 : xs.length ≤ 237) (hn : next = 0 ∨ isPg next = true) (t : Nat) : rightB (txnP (pieceX next xs) t) = true := by
 have h3 : ¬ xs.length = 0 := by omega
 unfold rightB ownB nextB thingsB usedN txnP pieceX; rcases hn with rfl | hn
 · simp [ordU, h2]; omega
 · simp [ordU, h2, hn]; omega
theorem pieceN_bound {len k : Nat} (h : 237 * k < len) : 1 ≤ pieceN len k ∧ pieceN len k ≤ 237 := by unfold pieceN; split <;> omega
theorem Pgr.not_row {w : World} {p : Pgl} {P : PSt} {S : St} (h : Pgr w p P S) {k : Nat} {o : Obj} (hk : w.heap[k]? = some o) (ho : o.isCells = false) (h1 : k ≠ p.m) (h2 : k ≠ p.d.m) : ¬ p.all k := by
 have hc : ∀ {t : TypeId}, ¬ Cl w k t := fun ⟨cs, q, e⟩ => by rw [hk] at e; cases e; cases ho
 rintro (hj | hj)
 · rcases hj with rfl | hj | hj | hj
   · exact hc h.blk.cl
   · exact hc (h.chn.cl hj)
   · rcases h.lst.own_cl hj with hx | hx <;> exact hc hx
   · exact h1 hj
 · obtain ⟨_, hr, ⟨cur, hg, _⟩, _⟩ := h.dsk; rcases hj with rfl | rfl | rfl
   · exact hc hr.cl
   · exact hc ⟨_, _, hg⟩
   · exact h2 rfl
theorem Vi.rowed {a w w' : World} {r : Nat} {t : TypeId} {R : List Value} {p : Pgl} {P : PSt} {S : St} {A : Option Addr} {n c : Nat} {M : List Int} {B : Nat} {row : Option Nat} (h : Vi a r t R p P S A n c M w) (hm : p.m < B) (hd : p.d.m < B) (hB : a.heap.size ≤ B) (hg : w.grownBy w' row) (hr : ∀ k, row = some k → B ≤ k ∧ ∃ o : Obj, w.heap[k]? = some o ∧ o.isCells = false) : Vi a r t R p P S A n c M w' := by
 have tu : Turned w w' (fun j => row = some j) := Turned.of_grown hg (fun j e => e); refine h.far tu (fun k e => ?_); obtain ⟨hk, o, ho, hc⟩ := hr k e; have hcl : ∀ {t : TypeId}, ¬ Cl w k t := fun ⟨cs, q, e⟩ => by rw [ho] at e; cases e; cases hc
 exact ⟨h.l2.pg.not_row ho hc (by omega) (by omega), fun e => hcl (e ▸ h.box.cl), fun e => hcl (h.l2.own.cl e), by omega, hcl⟩
theorem Blk.rowed {w w' : World} {g : Nat} {t : TypeId} {cs : List Value} {B : Nat} {row : Option Nat} (h : Blk w g t cs) (hg : w.grownBy w' row) (hr : ∀ k, row = some k → B ≤ k ∧ ∃ o : Obj, w.heap[k]? = some o ∧ o.isCells = false) : Blk w' g t cs := by
 refine (Turned.of_grown hg (T := fun j => row = some j) (fun j e => e)).blk h (fun e => ?_); obtain ⟨_, o, ho, hc⟩ := hr g e; rw [show w.heap[g]? = _ from h] at ho; cases ho; cases hc
theorem Vi.stepM {a w w' : World} {r : Nat} {t : TypeId} {R : List Value} {p : Pgl} {P P' : PSt} {S S' : St} {A : Option Addr} {n c : Nat} {M : List Int} (h : Vi a r t R p P S A n c M w) (k : PLeftM w w' p P' S') : ∃ p' : Pgl, p'.r = p.r ∧ p'.d = p.d ∧ p'.m = p.m ∧ Vi a r t R p' P' S' A n c M w' ∧ Turned w w' p.all ∧ ∀ j, p'.all j → p.all j ∨ w.heap.size ≤ j := by
 obtain ⟨p1, e1, e2, em, h1, t1, o1⟩ := k; have hall : ∀ j, p1.all j → p.all j ∨ w.heap.size ≤ j := fun j hj => by
  rcases hj with hj | hj
  · rcases o1 j hj with h5 | h5
    · exact .inl (.inl h5)
    · exact .inr h5
  · exact .inl (.inr (e2 ▸ hj))
 refine ⟨p1, e1, e2, em, ⟨⟨h1, h.l2.own.turned t1 h.l2.ap, fun g hg hj => ?_, h.l2.an, fun j hj => ?_, t1.only_new h.l2.below h.l2.below.size h.l2.pn⟩, ?_, h.ti, h.tu, fun hj => ?_, h.rn⟩, t1, hall⟩
 · rcases hall g hj with h5 | h5
   · exact h.l2.ap g hg h5
   · have := h.l2.own.lt hg; omega
 · rcases hall j hj with h5 | h5
   · exact h.l2.pn j h5
   · exact Nat.le_trans h.l2.below.size h5
 · rw [e1]; exact t1.blk h.box h.ap
 · rcases hall r hj with h5 | h5
   · exact h.ap h5
   · have := h.lt; omega
def idsA (l : List (Int × Pg)) : List Int := l.map (·.1)
theorem idsA_append (l k : List (Int × Pg)) : idsA (l ++ k) = idsA l ++ idsA k := List.map_append
theorem Added.spare {z : Nat} {P P' : PSt} {l : List (Int × Pg)} (h : Added z P l P') : idsA l ++ P'.L.S = P.L.S ∧ P'.L.z = P.L.z := by
 induction h with
 | nil => exact ⟨rfl, rfl⟩
 | snoc h hS hs hR ih =>
   rename_i P' l y r X
   obtain ⟨h1, h3⟩ := ih; refine ⟨?_, h3⟩; have h2 : (addP P' y (sealed (bodyOf (txnP X (P'.M.txn + 1))))).L.S = r := by
    show P'.L.S.tail = r; rw [hS]; rfl
   rw [h2, idsA_append, List.append_assoc, ← h1, hS]; rfl
theorem Added.has {z : Nat} {P P' : PSt} {l : List (Int × Pg)} (h : Added z P l P') (hn : P.L.S.Nodup) :
 (∀ e ∈ l, P'.add e.1 = some (sealed (bodyOf (txnP e.2 (P.M.txn + 1)))) ∧ rightB (txnP e.2 (P.M.txn + 1)) = true) ∧ ∀ id, id ∉ idsA l → P'.add id = P.add id := by
 induction h with
 | nil => exact ⟨fun e he => (by cases he), fun _ _ => rfl⟩
 | snoc h hS hs hR ih =>
   rename_i P' l y r X
   obtain ⟨h1, h2⟩ := ih; have hsp := h.spare.1; have hy : y ∉ idsA l := fun hm => by
    rw [← hsp, List.nodup_append] at hn; exact hn.2.2 y hm y (by rw [hS]; exact List.mem_cons_self ..) rfl
   have hM := h.same.1; constructor
   · intro e he; rcases List.mem_append.1 he with he | he
     · have hne : e.1 ≠ y := fun e2 => hy (e2 ▸ List.mem_map_of_mem he)
       obtain ⟨a1, a2⟩ := h1 e he; exact ⟨(if_neg hne).trans a1, a2⟩
     · obtain rfl := List.mem_singleton.1 he; rw [hM] at hR ⊢; exact ⟨if_pos rfl, hR⟩
   · intro id hid; rw [idsA_append, List.mem_append] at hid; have h5 : id ≠ y := fun e => hid (.inr (by rw [e]; exact List.mem_singleton.2 rfl))
     exact (if_neg h5).trans (h2 id fun hm => hid (.inl hm))
theorem PSt.ext_ {P Q : PSt} (h1 : Q.M = P.M) (h2 : Q.chain = P.chain) (h3 : Q.root = P.root) (h4 : Q.L.z = P.L.z) (h5 : Q.L.S = P.L.S) (h6 : Q.L.H = P.L.H) (h7 : ∀ x, Q.add x = P.add x) : Q = P := by
 obtain ⟨M, ch, rt, ⟨z, S, H⟩, ad⟩ := P; obtain ⟨M', ch', rt', ⟨z', S', H'⟩, ad'⟩ := Q; simp only at h1 h2 h3 h4 h5 h6 h7; obtain rfl : ad' = ad := funext h7; subst h1 h2 h3 h4 h5 h6; rfl
theorem dropAll_back {P : PSt} {z : Nat} (hok : P.ok z) (hl : P.L.ok) : ∀ (ids : List Int) (Q : PSt), ids.Nodup → (∀ x ∈ ids, x ∈ P.L.S) → Q.M = P.M → Q.chain = P.chain → Q.root = P.root → Q.L.z = P.L.z → Q.L.H = P.L.H → Rising Q.L.S →
 (∀ x, x ∈ Q.L.S ↔ x ∈ P.L.S ∧ x ∉ ids) → (∀ x ∈ ids, (Q.add x).isSome = true) → (∀ x, x ∉ ids → Q.add x = P.add x) → dropAll Q ids = (P, 0)
 | [], Q, _, _, h1, h2, h3, h4, h5, h6, h7, _, h9 => by
   have hS : Q.L.S = P.L.S := h6.uniq hl.2.2.1 fun x => (h7 x).trans ⟨fun h => h.1, fun h => ⟨h, List.not_mem_nil⟩⟩
   have : Q = P := PSt.ext_ h1 h2 h3 h4 hS h5 fun x => h9 x List.not_mem_nil
   rw [this]; rfl
 | x :: r, Q, hn, h0, h1, h2, h3, h4, h5, h6, h7, h8, h9 => by
   have hx := h0 x (List.mem_cons_self ..); have hb := hl.2.2.2.2.1 x hx; have hz := hok.lz; have hm := hok.mz; have hfin : finB Q.M.size x = true := by
    rw [h1, hm]; unfold finB; rw [hz] at hb; simpa using hb
   have hch : x ∉ Q.chain := by rw [h2]; exact fun hc => (hok.cs x hc).1 hx
   have hnS : x ∉ Q.L.S := fun hm => ((h7 x).1 hm).2 (List.mem_cons_self ..)
   have hnH : x ∉ Q.L.H := by rw [h5]; exact hok.sh x hx
   have hmay : Q.L.may x = 0 := by
    unfold FSt.may; rw [h4, if_pos hb, if_neg (by rintro (h | h); exact hnS h; exact hnH h)]
   have hgive : Q.L.give x = { Q.L with S := addI x Q.L.S } := by unfold FSt.give; rw [if_pos hmay]
   have hd : dropP Q x = ({ Q with L := { Q.L with S := addI x Q.L.S }, add := fun y => if y = x then none else Q.add y }, 0) := by
    unfold dropP; rw [if_neg (by rw [hfin]; simp), if_neg hch, if_pos (h8 x (List.mem_cons_self ..)), hmay, hgive]
   have hxr : x ∉ r := (List.nodup_cons.1 hn).1; show (if (dropP Q x).2 = 0 then dropAll (dropP Q x).1 r else dropP Q x) = (P, 0); rw [hd, if_pos rfl]; refine dropAll_back hok hl r _ (List.nodup_cons.1 hn).2 (fun y hy => h0 y (List.mem_cons_of_mem _ hy)) h1 h2 h3 h4 h5 (h6.addI x) (fun y => ?_) (fun y hy => ?_) (fun y hy => ?_)
   · rw [show (({ Q with L := { Q.L with S := addI x Q.L.S }, add := fun y => if y = x then none else Q.add y } : PSt).L.S) = addI x Q.L.S from rfl, mem_addI, h7 y]; constructor
     · rintro (rfl | h)
       · exact ⟨hx, hxr⟩
       · exact ⟨h.1, fun hm => h.2 (List.mem_cons_of_mem _ hm)⟩
     · intro h; by_cases e : y = x
       · exact .inl e
       · exact .inr ⟨h.1, fun hm => (List.mem_cons.1 hm).elim e h.2⟩
   · have e : y ≠ x := fun e => hxr (e ▸ hy)
     show (if y = x then none else Q.add y).isSome = true; rw [if_neg e]; exact h8 y (List.mem_cons_of_mem _ hy)
   · show (if y = x then none else Q.add y) = P.add y; by_cases e : y = x
     · rw [if_pos e, e]; cases hp : P.add x with
       | none => rfl
       | some bs => exact absurd hx (hok.ab x bs hp).2.2.2.1
     · rw [if_neg e]; exact h9 y fun hm => (List.mem_cons.1 hm).elim e hy
theorem Added.back {z : Nat} {P P' : PSt} {l : List (Int × Pg)} (h : Added z P l P') (hok : P.ok z) (hl : P.L.ok) {ids : List Int} (hp : ids.Perm (idsA l)) : dropAll P' ids = (P, 0) := by
 have hS := hl.2.2.1; have hnd : P.L.S.Nodup := hS.imp fun h => by omega
 have hsp := h.spare.1; obtain ⟨hM, hC, hR, hH⟩ := h.same; obtain ⟨a1, a2⟩ := h.has hnd; have hn2 : (idsA l ++ P'.L.S).Nodup := by rw [hsp]; exact hnd
 rw [List.nodup_append] at hn2; refine dropAll_back hok hl ids P' (hp.nodup_iff.2 hn2.1) (fun x hx => ?_) hM hC hR h.spare.2 hH ?_ (fun x => ?_) (fun x hx => ?_) (fun x hx => a2 x fun hm => hx (hp.mem_iff.2 hm))
 · rw [← hsp]; exact List.mem_append_left _ (hp.mem_iff.1 hx)
 · have h2 : Rising (idsA l ++ P'.L.S) := by rw [hsp]; exact hS
   exact (List.pairwise_append.1 h2).2.1
 · rw [← hsp, List.mem_append]; constructor
   · intro hm; exact ⟨.inr hm, fun hi => hn2.2.2 x (hp.mem_iff.1 hi) x hm rfl⟩
   · rintro ⟨hm | hm, hi⟩
     · exact absurd (hp.mem_iff.2 hm) hi
     · exact hm
 · obtain ⟨e, he, rfl⟩ := List.mem_map.1 (hp.mem_iff.1 hx); rw [(a1 e he).1]; rfl
theorem Added.ids_spare {z : Nat} {P P' : PSt} {l : List (Int × Pg)} (h : Added z P l P') : ∀ x ∈ idsA l, x ∈ P.L.S := fun x hx => by rw [← h.spare.1]; exact List.mem_append_left _ hx
theorem Added.nodup {z : Nat} {P P' : PSt} {l : List (Int × Pg)} (h : Added z P l P') (hl : P.L.ok) : (idsA l).Nodup := by
 have hnd : P.L.S.Nodup := hl.2.2.1.imp fun h => by omega
 rw [← h.spare.1, List.nodup_append] at hnd; exact hnd.1
theorem idsA_addsOf (l : List (Int × List UInt8)) : idsA (addsOf l) = (idsP l).reverse := by
 induction l with
 | nil => rfl
 | cons x r ih =>
   show idsA (addsOf r ++ [(x.1, pieceX (headI r) x.2)]) = (x.1 :: idsP r).reverse; rw [idsA_append, ih, List.reverse_cons]; rfl
theorem Added.reads {z : Nat} {P P' : PSt} {l : List (Int × Pg)} (h : Added z P l P') (hok : P.ok z) (hl : P.L.ok) (ht : P.M.txn + 1 < 18446744073709551616) (S : St) {e : Int × Pg} (he : e ∈ l) : decPg (bytesAt P' S e.1) = (txnP e.2 (P.M.txn + 1), 0) ∧ finB P.M.size e.1 = true := by
 have hnd : P.L.S.Nodup := hl.2.2.1.imp fun h => by omega
 obtain ⟨a1, a2⟩ := (h.has hnd).1 e he; constructor
 · rw [bytesAt_some a1]; exact decPg_sealed a2 (by show (0 : Int) ≤ ((P.M.txn + 1 : Nat) : Int); omega) (by show ((P.M.txn + 1 : Nat) : Int) < _; omega)
 · have hb := hl.2.2.2.2.1 e.1 (h.ids_spare e.1 (List.mem_map_of_mem he)); rw [hok.lz] at hb; rw [hok.mz]; unfold finB; simpa using hb
theorem chain_of {P' : PSt} {S : St} {t : Nat} : ∀ (l : List (Int × List UInt8)), (∀ e ∈ addsOf l, decPg (bytesAt P' S e.1) = (txnP e.2 t, 0) ∧ finB P'.M.size e.1 = true) → ChainP P' S (headI l) l
 | [], _ => rfl
 | x :: r, h => by
   obtain ⟨h1, h2⟩ := h (x.1, pieceX (headI r) x.2) (List.mem_append_right _ (List.mem_singleton.2 rfl)); exact ⟨rfl, h2, _, h1, rfl, rfl, chain_of r fun e he => h e (List.mem_append_left _ he)⟩
theorem pieces_flat (xs : List UInt8) : ∀ k, ((List.range k).map (pieceB xs)).flatten = xs.take (237 * k)
 | 0 => by simp
 | k + 1 => by
   rw [List.range_succ, List.map_append, List.flatten_append, pieces_flat xs k, show 237 * (k + 1) = 237 * k + 237 by omega, List.take_add]; simp [pieceB]
theorem PiecesOf.bytes {xs : List UInt8} {l : List (Int × List UInt8)} (h : PiecesOf xs 0 l) : bytesP l = xs := by
 unfold PiecesOf at h; rw [Nat.sub_zero, ← List.range_eq_range'] at h; unfold bytesP; rw [List.flatMap_def, h, pieces_flat]; refine List.take_of_length_le ?_; unfold pieces; omega
theorem PiecesOf.len {xs : List UInt8} {q : Nat} {l : List (Int × List UInt8)} (h : PiecesOf xs q l) : l.length = pieces xs.length - q := by
 have := congrArg List.length h; simpa using this
theorem PiecesOf.fill {xs : List UInt8} : ∀ (l : List (Int × List UInt8)) (q : Nat), PiecesOf xs q l → fillP true l = true
 | [], _, _ => rfl
 | x :: r, q, h => by
   have hl := h.len; rw [List.length_cons] at hl; unfold PiecesOf at h; rw [show pieces xs.length - q = (pieces xs.length - (q + 1)) + 1 by omega, List.range'_succ, List.map_cons, List.map_cons] at h; injection h with h1 h2
   have h2 : PiecesOf xs (q + 1) r := h2; show fillP (true && (r.isEmpty || x.2.length == 237)) r = true; have : (true && (r.isEmpty || x.2.length == 237)) = true := by
    cases r with
    | nil => rfl
    | cons y s =>
      have h3 := h2.len; rw [List.length_cons] at h3; have h4 : 237 ≤ xs.length - 237 * q := by
       have : pieces xs.length = (xs.length + 236) / 237 := rfl; omega
      simp [h1, pieceB_length, pieceN, h4]
   rw [this]; exact PiecesOf.fill r (q + 1) h2
def leafP (key val : List UInt8) (size more : Int) : Pg := ⟨1, 0, 0, [⟨key, val, size, more⟩], [], [], []⟩
theorem leaf_ok {key val : List UInt8} {size more : Int} (h1 : key.length ≤ 32) (h2 : (size ≤ 64 ∧ (val.length : Int) = size ∧ more = 0) ∨ (64 < size ∧ size ≤ 4096 ∧ val = [] ∧ isPg more = true)) (t : Nat) : rightB (txnP (leafP key val size more) t) = true ∧ 0 < usedN (leafP key val size more) ∧ usedN (leafP key val size more) ≤ 237 := by
 unfold rightB ownB nextB thingsB usedN txnP leafP; rcases h2 with ⟨a, b, c⟩ | ⟨a, b, c, d⟩
 · subst c; have h3 : (0 : Int) ≤ size := by omega
   have h4 : size ≤ 4096 := by omega
   refine ⟨?_, ?_, ?_⟩
   · simp [ordU, itemOk, itemUse, h1, a, h3, h4, b, List.range_succ]; omega
   · simp [itemUse]; omega
   · simp [itemUse, a]; omega
 · subst c; have h3 : (0 : Int) ≤ size := by omega
   have h4 : ¬ size ≤ 64 := by omega
   refine ⟨?_, ?_, ?_⟩
   · simp [ordU, itemOk, itemUse, h1, h3, h4, b, d, List.range_succ]; omega
   · simp [itemUse]; omega
   · simp [itemUse, h4]; omega
end Go.Proofs.YtblbhhijddcbeaaGreatDoor
end
