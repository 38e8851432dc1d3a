/- Tl Tm Tn To Tp Tq Tr -/
import Derived.Test.YtblbhhijddcbeaaGreatDoorBTj
import Derived.Test.YtblbhhijddcbeaaGreatDoorBHnr
import Derived.Test.YtblbhhijddcbeaaGreatDoorBCt
import Derived.Test.YtblbhhijddcbeaaGreatDoorBFr6
import Derived.Lib.AppendZeros
section
namespace Go.Proofs.YtblbhhijddcbeaaGreatDoor
open Go.ChangeShapes Go.WideShapes Go.ChangeAt Go.RowKit
set_option linter.unusedVariables false
set_option linter.unusedSimpArgs false
set_option maxRecDepth 100000
set_option maxHeartbeats 16000000
attribute [local go_sem] Oper.semAt_some
theorem chunkF_any (A : Option Addr) (n c : Nat) (w : World) :
 Calls Tryz.prog 104 #[.slice A n c, .int .i64 237] w fun e w' => e = .returned (.func (.func 151) #[] #[.pointer (some ⟨w.heap.size, 0, none⟩), .pointer (some ⟨w.heap.size + 1, 0, none⟩)]) ∧ (w.alloc (.cells #[.slice A n c] 46)).alloc (.cells #[.int .i64 237] 3) = w' := by
 go_enter Tryz.func104, Tryz.ntmps104
 go_wp2
 go_ret
 exact ⟨rfl, rfl⟩
theorem backF_any (A : Option Addr) (n c : Nat) (w : World) :
 Calls Tryz.prog 102 #[.slice A n c] w fun e w' => e = .returned (.func (.func 149) #[] #[.pointer (some ⟨w.heap.size, 0, none⟩)]) ∧ w.alloc (.cells #[.slice A n c] 214) = w' := by
 go_enter Tryz.func102, Tryz.ntmps102
 go_wp2
 go_ret
 exact ⟨rfl, rfl⟩
theorem collect_any (B1 B2 b o len cap : Nat) (hlen : len ≤ 100000) (hcap : len ≤ cap) (h0 : 0 < len) (w : World) (h1 : w.cell? ⟨B1, 0, none⟩ = some (.slice (some ⟨b, o, none⟩) len cap)) (h2 : w.cell? ⟨B2, 0, none⟩ = some (.int .i64 237)) :
 Calls Tryz.prog 103 #[.func (.func 151) #[] #[.pointer (some ⟨B1, 0, none⟩), .pointer (some ⟨B2, 0, none⟩)]] w fun e W' => ∃ g c, e = .returned (.slice (some ⟨g, 0, none⟩) (pieces len) c) ∧ Hid ((∀ j, j < pieces len → W'.cell? ⟨g, 0 + j, none⟩ = some (pieceV b o len j)) ∧ w.heap.size ≤ g ∧ Cl W' g 46) ∧ Below w.heap.size w W' := by
 have HA := kept (appendSeq_any B1 B2 b o len cap hlen hcap w h1 h2)
 have hp : 0 < pieces len := by unfold pieces; omega
 have HP := kept hp
 clear h1 h2 hp
 go_enter Tryz.func103, Tryz.ntmps103
 go_wp2_with fail
 with_reducible refine HA.out.mono ?_
 rintro e w1 ⟨v, rfl, h1, hb⟩
 rcases h1.2 with ⟨_, h0⟩ | ⟨g, cap', cur, rfl, hbg, hh, r⟩
 · exact absurd h0 (by have := HP.out; omega)
 · have HH := kept (And.intro (show ∀ j, j < pieces len → w1.cell? ⟨g, 0 + j, none⟩ = some (pieceV b o len j) from fun j hj => by
    have := h1.cells (g := g) rfl j (pieceV b o len j) (by rw [List.getElem?_map, List.getElem?_range hj]; rfl)
    rw [add_at] at this
    exact this) (And.intro hbg (show Cl w1 g 46 from ⟨_, _, hh⟩)))
   have HB := kept hb
   clear h1 hh r hb hbg
   go_wp2
   go_ret
   exact ⟨g, cap', rfl, HH, HB.out⟩
theorem Rd.piece {w : World} {b o len : Nat} {xs : List UInt8} (h : Rd w (some ⟨b, o, none⟩) len xs) {k : Nat} (hk : 237 * k < len) : Rd w (some ⟨b, o + 237 * k, none⟩) (pieceN len k) (pieceB xs k) := by
 have h1 := h.drop (k := 237 * k) (by omega)
 have e : (some (⟨b, o, none⟩ : Addr)).map (·.add (237 * k)) = some ⟨b, o + 237 * k, none⟩ := by simp [add_at]
 rw [e] at h1
 unfold pieceN pieceB
 split
 · exact h1.take (by omega)
 · rw [List.take_of_length_le (by rw [h1.1]; omega)]
   exact h1
theorem keepsFrom_of {B : Nat} {W W' : World} {T : Nat → Prop} (t : Turned W W' T) (h : ∀ (k : Nat) (o : Obj), B ≤ k → W.heap[k]? = some o → o.isCells = false → ¬ T k) : KeepsFrom B W W' :=
 ⟨t.size, fun k o hB hk ho => (t.block k (Array.getElem?_eq_some_iff.1 hk).1 (h k o hB hk ho)).trans hk⟩
structure LiI (a W7 : World) (r : Nat) (R : List Value) (p : Pgl) (P : PSt) (S : St) (A : Option Addr) (n c : Nat) (M : List Int) (q : Nat) (ka : Option Addr) (kn kc len : Nat) (xs : List UInt8) (pre : List Nat) (l : List (Int × List UInt8)) (p' : Pgl) (P' : PSt) (W : World) : Prop where
 er : p'.r = p.r
 ed : p'.d = p.d
 em : p'.m = p.m
 vi : Vi a r 151 R p' P' S A n c M W
 tu : Turned W7 W (fun k => p.all k ∨ k = q)
 al : ∀ j, p'.all j → p.all j ∨ W7.heap.size ≤ j
 ad : Added S.pages.length P (addsOf l) P'
 pc : l.map (·.2) = pre.reverse.map (pieceB xs)
 it : Blk W q 149 [.slice ka kn kc, .slice none 0 0, .int .i64 (len : Int), .int .i64 (headI l)]
section
variable {a W7 W W' : World} {r : Nat} {R : List Value} {p : Pgl} {P : PSt} {S : St} {A : Option Addr} {n c : Nat} {M : List Int} {q : Nat} {ka : Option Addr} {kn kc len : Nat} {xs : List UInt8} {pre : List Nat} {l : List (Int × List UInt8)} {p' : Pgl} {P' : PSt}
theorem LiI.rowed (h : LiI a W7 r R p P S A n c M q ka kn kc len xs pre l p' P' W) (hm : p.m < W7.heap.size) (hd : p.d.m < W7.heap.size) (hB : a.heap.size ≤ W7.heap.size) {row : Option Nat} (hg : W.grownBy W' row) (hr : ∀ k, row = some k → W7.heap.size ≤ k ∧ ∃ o : Obj, W.heap[k]? = some o ∧ o.isCells = false) : LiI a W7 r R p P S A n c M q ka kn kc len xs pre l p' P' W' :=
 ⟨h.er, h.ed, h.em, h.vi.rowed (by rw [h.em]; exact hm) (by rw [h.ed]; exact hd) hB hg hr, h.tu.trans' (Turned.of_grown hg (T := fun j => row = some j) (fun j e => e)) (fun j hj e => by have := (hr j e).1; omega), h.al, h.ad, h.pc, h.it.rowed hg hr⟩
structure LiX (a W7 : World) (r : Nat) (R : List Value) (p : Pgl) (P : PSt) (S : St) (A : Option Addr) (n c : Nat) (M : List Int) (q1 q2 : Nat) (l : List (Int × List UInt8)) (p' : Pgl) (P' : PSt) (W : World) : Prop where
 er : p'.r = p.r
 ed : p'.d = p.d
 em : p'.m = p.m
 vi : Vi a r 151 R p' P' S A n c M W
 tu : Turned W7 W (fun k => p.all k ∨ q1 ≤ k)
 al : ∀ j, p'.all j → p.all j ∨ W7.heap.size ≤ j
 ad : Added S.pages.length P (addsOf l) P'
 ln : l.length ≤ 18
 full : P'.L.S.length < S.pages.length / 60 + 2
 i1 : Blk W q1 149 [.slice none 0 0, .slice none 0 0, .int .i64 0, .int .i64 0]
 i2 : Blk W q2 33 [.int .i64 9]
theorem LiX.rowed {q1 q2 : Nat} (h : LiX a W7 r R p P S A n c M q1 q2 l p' P' W) (hm : p.m < W7.heap.size) (hd : p.d.m < W7.heap.size) (hB : a.heap.size ≤ W7.heap.size) {row : Option Nat} (hg : W.grownBy W' row) (hr : ∀ k, row = some k → W7.heap.size ≤ k ∧ ∃ o : Obj, W.heap[k]? = some o ∧ o.isCells = false) : LiX a W7 r R p P S A n c M q1 q2 l p' P' W' :=
 ⟨h.er, h.ed, h.em, h.vi.rowed (by rw [h.em]; exact hm) (by rw [h.ed]; exact hd) hB hg hr, h.tu.trans' (Turned.of_grown hg (T := fun j => row = some j) (fun j e => e)) (fun j hj e => by have := (hr j e).1; omega), h.al, h.ad, h.ln, h.full, h.i1.rowed hg hr, h.i2.rowed hg hr⟩
end
def LiA (a w : World) (r : Nat) (R : List Value) (p : Pgl) (P : PSt) (S : St) (A : Option Addr) (n c : Nat) (M : List Int) (ka : Option Addr) (kn kc len : Nat) (xs : List UInt8) (e : Ending) (w' : World) : Prop :=
 ∃ (p' : Pgl) (P' : PSt) (l : List (Int × List UInt8)), Hid (p'.r = p.r ∧ p'.d = p.d ∧ Vi a r 151 R p' P' S A n c M w' ∧ Turned w w' p.all ∧ (∀ j, p'.all j → p.all j ∨ w.heap.size ≤ j) ∧ Added S.pages.length P (addsOf l) P') ∧
   ((e = .returned (.tuple #[.agg #[.slice ka kn kc, .slice none 0 0, .int .i64 (len : Int), .int .i64 (headI l)], .int .i64 0]) ∧ Hid (PiecesOf xs 0 l)) ∨
    (e = .returned (.tuple #[.agg #[.slice none 0 0, .slice none 0 0, .int .i64 0, .int .i64 0], .int .i64 9]) ∧ Hid (P'.L.S.length < S.pages.length / 60 + 2 ∧ l.length ≤ 18)))
theorem Turned.chain {w w1 w2 : World} {T U : Nat → Prop} (h : Turned w w1 T) (k : Turned w1 w2 U) (hn : ∀ j, j < w.heap.size → U j → T j) : Turned w w2 T :=
 ⟨k.os.trans h.os, k.tape.trans h.tape, k.output.trans h.output, Nat.le_trans h.size k.size, fun i hi ht => (k.block i (Nat.lt_of_lt_of_le hi h.size) (fun e => ht (hn i hi e))).trans (h.block i hi ht)⟩
theorem Vi.boxes {a w W Y : World} {r : Nat} {R : List Value} {p' : Pgl} {P' : PSt} {S : St} {A : Option Addr} {n c : Nat} {M : List Int} {q1 q2 D : Nat} (h : Vi a r 151 R p' P' S A n c M W) (hr : r < w.heap.size) (ha : a.heap.size ≤ w.heap.size) (h1 : Cl W q1 149) (h2 : Cl W q2 33) (hq1 : w.heap.size ≤ q1) (hq2 : w.heap.size ≤ q2) (t : Turned W Y (fun k => k = q1 ∨ k = q2))
 (hm : p'.m < D) (hd : p'.d.m < D) (hD : w.heap.size ≤ D) {o : Obj} (hK : Y.heap[D]? = some o) (ho : o.isCells = false) (o' : Obj) : Vi a r 151 R p' P' S A n c M (Y.putObj D o') := by
 have hY : Vi a r 151 R p' P' S A n c M Y := by
  refine h.far t (fun k e => ?_)
  rcases e with rfl | rfl
  · exact ⟨h.l2.pg.not_all h1 (by decide) (by decide) (by decide) (by decide) (by decide), by omega, fun e => absurd ((h.l2.own.cl e).uniq h1) (by decide), by omega, fun e => absurd (e.uniq h1) (by decide)⟩
  · exact ⟨h.l2.pg.not_all h2 (by decide) (by decide) (by decide) (by decide) (by decide), by omega, fun e => absurd ((h.l2.own.cl e).uniq h2) (by decide), by omega, fun e => absurd (e.uniq h2) (by decide)⟩
 exact hY.rowed (B := D) hm hd (by omega) (grownBy_putObj' Y D o') (fun k e => by cases e; exact ⟨Nat.le_refl _, o, hK, ho⟩)
theorem Turned.obj {W Y : World} {T : Nat → Prop} (t : Turned W Y T) {D : Nat} {o : Obj} (hK : W.heap[D]? = some o) (hn : ¬ T D) : Y.heap[D]? = some o := (t.block D (Array.getElem?_eq_some_iff.1 hK).1 hn).trans hK
theorem Cl.not_obj {W : World} {D : Nat} {t : TypeId} {o : Obj} (h : Cl W D t) (hK : W.heap[D]? = some o) (ho : o.isCells = false) : False := by
 obtain ⟨cs, q, e⟩ := h
 rw [hK] at e; cases e; cases ho
theorem putObj_turned (Y : World) (D : Nat) (o : Obj) : Turned Y (Y.putObj D o) (fun k => k = D) := Turned.of_grown (grownBy_putObj' Y D o) (fun j e => (Option.some.inj e).symm)
theorem pieces_list {len : Nat} {xs : List UInt8} (hl : xs.length = len) {l : List (Int × List UInt8)} {pre : List Nat} (h : l.map (·.2) = pre.reverse.map (pieceB xs)) (hp : pre = downTo (pieces len) 0) : PiecesOf xs 0 l := by
 unfold PiecesOf
 rw [h, hp, hl, Nat.sub_zero, ← List.range_eq_range']
 congr 1
 unfold downTo
 rw [Nat.sub_zero]
 apply List.ext_getElem
 · simp
 · intro i h1 h2
   simp at h1 h2 ⊢
   omega
theorem LiI.next {a w W7 W w2 : World} {r : Nat} {R : List Value} {p : Pgl} {P : PSt} {S : St} {A : Option Addr} {n c : Nat} {M : List Int} {q : Nat} {ka : Option Addr} {kn kc len : Nat} {xs : List UInt8} {pre : List Nat} {l : List (Int × List UInt8)} {p' p2 : Pgl} {P' : PSt} (h : LiI a W7 r R p P S A n c M q ka kn kc len xs pre l p' P' W)
 (e2r : p2.r = p'.r) (e2d : p2.d = p'.d) (e2m : p2.m = p'.m) {y : Int} {rr : List Int} {k : Nat} (hS : P'.L.S = y :: rr) (hs : S.pages.length / 60 + 2 ≤ P'.L.S.length) (hR : rightB (txnP (pieceX (headI l) (pieceB xs k)) (P'.M.txn + 1)) = true)
 (hv : Vi a r 151 R p2 (addP P' y (sealed (bodyOf (txnP (pieceX (headI l) (pieceB xs k)) (P'.M.txn + 1))))) S A n c M w2) (t2 : Turned W.drew w2 p'.all) (o2 : ∀ j, p2.all j → p'.all j ∨ W.drew.heap.size ≤ j) (hW : W7.heap.size ≤ W.heap.size) (hq : q < W7.heap.size) (hr : r < W7.heap.size) (hqr : q ≠ r) (hnq : ¬ p'.all q) (ha : a.heap.size ≤ q) :
 LiI a W7 r R p P S A n c M q ka kn kc len xs (pre ++ [k]) ((y, pieceB xs k) :: l) p2 (addP P' y (sealed (bodyOf (txnP (pieceX (headI l) (pieceB xs k)) (P'.M.txn + 1))))) (w2.setCell ⟨q, 3, none⟩ (.int .i64 y)) := by
 have ht : Turned W w2 p'.all := ⟨t2.os, t2.tape, t2.output, t2.size, t2.block⟩
 have hit2 : Blk w2 q 149 [.slice ka kn kc, .slice none 0 0, .int .i64 (len : Int), .int .i64 (headI l)] := ht.blk h.it hnq
 have t3 : Turned w2 (w2.setCell ⟨q, 3, none⟩ (.int .i64 y)) (fun k => k = q) := (Turned.refl w2 (fun k => k = q)).setCell (T := fun k => k = q) (p := ⟨q, 3, none⟩) (fun _ => rfl) _
 have hit3 := hit2.set_ 3 (.int .i64 y)
 have hal : ∀ j, p2.all j → p.all j ∨ W7.heap.size ≤ j := fun j hj => by
  rcases o2 j hj with h5 | h5
  · exact h.al j h5
  · exact .inr (Nat.le_trans hW h5)
 have hnq2 : ¬ p2.all q := fun hj => (o2 q hj).elim hnq (fun h5 => by have h5 : W.heap.size ≤ q := h5; omega)
 refine ⟨e2r.trans h.er, e2d.trans h.ed, e2m.trans h.em, hv.far t3 (fun k e => by subst e; exact ⟨hnq2, hqr, fun e => absurd ((hv.l2.own.cl e).uniq hit2.cl) (by decide), ha, fun e => absurd (e.uniq hit2.cl) (by decide)⟩), ?_, hal, ?_, ?_, ?_⟩
 · refine (h.tu.chain ht (fun j hj e => (h.al j e).imp id (fun h5 => by omega))).chain t3 (fun j hj e => .inr e)
 · show Added S.pages.length P (addsOf l ++ [(y, pieceX (headI l) (pieceB xs k))]) _
   exact .snoc h.ad hS hs hR
 · rw [List.map_cons, h.pc, List.reverse_append]; rfl
 · simp only [List.set_cons_zero, List.set_cons_succ] at hit3
   exact hit3
theorem layItem_long {a w : World} {r : Nat} {rs jn : Bool} {p : Pgl} {P : PSt} {S : St} {A : Option Addr} {n c : Nat} {M : List Int} (h : Vi a r 151 [.bool rs, .bool jn] p P S A n c M w) (hF : Fours a) (ht : P.M.txn + 1 < 18446744073709551616) (ka : Option Addr) (kn kc b o len cap : Nat) (xs : List UInt8) (hx : Rd w (some ⟨b, o, none⟩) len xs) (hbp : ¬ p.all b) (hlen : len ≤ 4096) (h64 : 64 < len) (hcap : len ≤ cap) :
 Calls Tryz.prog 58 #[.pointer (some ⟨r, 0, none⟩), .slice ka kn kc, .slice (some ⟨b, o, none⟩) len cap] w (LiA a w r [.bool rs, .bool jn] p P S A n c M ka kn kc len xs) := by
 have H := kept h
 have HX := kept hx
 have HF := kept hF
 have HT := kept ht
 have HBP := kept hbp
 clear h hx hF ht hbp
 have hlen' : len ≤ 100000 := by omega
 have h0len : 0 < len := by omega
 have HCO := fun B1 B2 W h1 h2 => kept (collect_any B1 B2 b o len cap hlen' hcap h0len W h1 h2)
 refine (callsIn_wide (n := 30)).1 ?_
 refine callsIn_of_wp_marks Tryz.func58 rfl trivial ?_ rfl
 simp only [Tryz.ntmps58, List.size_toArray, List.length_cons, List.length_nil, Nat.reduceAdd, Nat.reduceSub, Array.replicate_succ, Array.replicate_zero, List.push_toArray, List.append_toArray, List.nil_append, List.cons_append]
 have ht24 : Fence.wide.fn 104 := trivial
 have ht25 : Fence.wide.fn 103 := trivial
 have ht26 : Fence.wide.fn 102 := trivial
 have ht79 : Fence.wide.fn 105 := trivial
 gi_wp2_with fail
 have hB4 : Below w.heap.size w ((((w.alloc (.cells #[.pointer (some ⟨r, 0, none⟩)] 203)).alloc (.cells #[.slice none 0 0, .slice none 0 0, .int .i64 0, .int .i64 0] 149)).alloc (.cells #[.int .i64 0] 33)).alloc (.cells #[.slice ka kn kc, .slice none 0 0, .int .i64 (len : Int), .int .i64 0] 149)) := ((((Below.refl _ w).alloc (Nat.le_refl _) _).alloc (by simp) _).alloc (by simp; omega) _).alloc (by simp; omega) _
 have hbx : Blk ((((w.alloc (.cells #[.pointer (some ⟨r, 0, none⟩)] 203)).alloc (.cells #[.slice none 0 0, .slice none 0 0, .int .i64 0, .int .i64 0] 149)).alloc (.cells #[.int .i64 0] 33)).alloc (.cells #[.slice ka kn kc, .slice none 0 0, .int .i64 (len : Int), .int .i64 0] 149)) w.heap.size 203 [.pointer (some ⟨r, 0, none⟩)] := (((Blk.new w 203 #[.pointer (some ⟨r, 0, none⟩)]).alloc _).alloc _).alloc _
 have hit : Blk ((((w.alloc (.cells #[.pointer (some ⟨r, 0, none⟩)] 203)).alloc (.cells #[.slice none 0 0, .slice none 0 0, .int .i64 0, .int .i64 0] 149)).alloc (.cells #[.int .i64 0] 33)).alloc (.cells #[.slice ka kn kc, .slice none 0 0, .int .i64 (len : Int), .int .i64 0] 149)) (w.heap.size + 1) 149 [.slice none 0 0, .slice none 0 0, .int .i64 0, .int .i64 0] := by
  have h1 := ((Blk.new (w.alloc (.cells #[.pointer (some ⟨r, 0, none⟩)] 203)) 149 #[.slice none 0 0, .slice none 0 0, .int .i64 0, .int .i64 0]).alloc (.cells #[.int .i64 0] 33)).alloc (.cells #[.slice ka kn kc, .slice none 0 0, .int .i64 (len : Int), .int .i64 0] 149)
  rwa [World.size_alloc] at h1
 have her : Blk ((((w.alloc (.cells #[.pointer (some ⟨r, 0, none⟩)] 203)).alloc (.cells #[.slice none 0 0, .slice none 0 0, .int .i64 0, .int .i64 0] 149)).alloc (.cells #[.int .i64 0] 33)).alloc (.cells #[.slice ka kn kc, .slice none 0 0, .int .i64 (len : Int), .int .i64 0] 149)) (w.heap.size + 1 + 1) 33 [.int .i64 0] := by
  have h1 := (Blk.new ((w.alloc (.cells #[.pointer (some ⟨r, 0, none⟩)] 203)).alloc (.cells #[.slice none 0 0, .slice none 0 0, .int .i64 0, .int .i64 0] 149)) 33 #[.int .i64 0]).alloc (.cells #[.slice ka kn kc, .slice none 0 0, .int .i64 (len : Int), .int .i64 0] 149)
  rwa [World.size_alloc, World.size_alloc] at h1
 have hi4 : Blk ((((w.alloc (.cells #[.pointer (some ⟨r, 0, none⟩)] 203)).alloc (.cells #[.slice none 0 0, .slice none 0 0, .int .i64 0, .int .i64 0] 149)).alloc (.cells #[.int .i64 0] 33)).alloc (.cells #[.slice ka kn kc, .slice none 0 0, .int .i64 (len : Int), .int .i64 0] 149)) (w.heap.size + 1 + 1 + 1) 149 [.slice ka kn kc, .slice none 0 0, .int .i64 (len : Int), .int .i64 0] := by
  have h1 := Blk.new (((w.alloc (.cells #[.pointer (some ⟨r, 0, none⟩)] 203)).alloc (.cells #[.slice none 0 0, .slice none 0 0, .int .i64 0, .int .i64 0] 149)).alloc (.cells #[.int .i64 0] 33)) 149 #[.slice ka kn kc, .slice none 0 0, .int .i64 (len : Int), .int .i64 0]
  rwa [World.size_alloc, World.size_alloc, World.size_alloc] at h1
 generalize ((((w.alloc (.cells #[.pointer (some ⟨r, 0, none⟩)] 203)).alloc (.cells #[.slice none 0 0, .slice none 0 0, .int .i64 0, .int .i64 0] 149)).alloc (.cells #[.int .i64 0] 33)).alloc (.cells #[.slice ka kn kc, .slice none 0 0, .int .i64 (len : Int), .int .i64 0] 149)) = W4 at hB4 hbx hit her hi4 ⊢
 refine (callsIn_wide.2 (chunkF_any _ _ _ _)).mono ?_
 rintro e w5 ⟨rfl, rfl⟩
 have hc1 : ((W4.alloc (.cells #[.slice (some ⟨b, o, none⟩) len cap] 46)).alloc (.cells #[.int .i64 237] 3)).cell? ⟨W4.heap.size, 0, none⟩ = some (.slice (some ⟨b, o, none⟩) len cap) := ((Blk.new W4 46 #[.slice (some ⟨b, o, none⟩) len cap]).alloc _).cell 0
 have hc2 : ((W4.alloc (.cells #[.slice (some ⟨b, o, none⟩) len cap] 46)).alloc (.cells #[.int .i64 237] 3)).cell? ⟨W4.heap.size + 1, 0, none⟩ = some (.int .i64 237) := by simp
 have hb45 : Below W4.heap.size W4 ((W4.alloc (.cells #[.slice (some ⟨b, o, none⟩) len cap] 46)).alloc (.cells #[.int .i64 237] 3)) := ((Below.refl _ W4).alloc (Nat.le_refl _) _).alloc (by simp) _
 have HCO1 := HCO _ _ _ hc1 hc2
 clear hc1 hc2 HCO
 gi_wp2_with fail
 refine (callsIn_wide.2 HCO1.out).mono ?_
 rintro e W6 ⟨g, c6, rfl, HG, hb6⟩
 clear HCO1
 gi_wp2_with fail
 refine (callsIn_wide.2 (backF_any _ _ _ _)).mono ?_
 rintro e w7 ⟨rfl, rfl⟩
 have hb67 : Below W6.heap.size W6 (W6.alloc (.cells #[.slice (some ⟨g, 0, none⟩) (pieces len) c6] 214)) := (Below.refl _ W6).alloc (Nat.le_refl _) _
 have hb46 : Below W4.heap.size W4 W6 := hb45.trans (hb6.mono hb45.size)
 have hb47 : Below W4.heap.size W4 (W6.alloc (.cells #[.slice (some ⟨g, 0, none⟩) (pieces len) c6] 214)) := hb46.trans (hb67.mono hb46.size)
 have hB7 : Below w.heap.size w (W6.alloc (.cells #[.slice (some ⟨g, 0, none⟩) (pieces len) c6] 214)) := hB4.trans (hb47.mono hB4.size)
 have hbs : Blk (W6.alloc (.cells #[.slice (some ⟨g, 0, none⟩) (pieces len) c6] 214)) W6.heap.size 214 [.slice (some ⟨g, 0, none⟩) (pieces len) c6] := Blk.new W6 214 #[.slice (some ⟨g, 0, none⟩) (pieces len) c6]
 have hgc : ∀ j, j < pieces len → (W6.alloc (.cells #[.slice (some ⟨g, 0, none⟩) (pieces len) c6] 214)).cell? ⟨g, 0 + j, none⟩ = some (pieceV b o len j) := fun j hj => cell_below hb67 (HG.out.1 j hj)
 have hgl : g < W6.heap.size := HG.out.2.2.lt
 have hgk : Cl (W6.alloc (.cells #[.slice (some ⟨g, 0, none⟩) (pieces len) c6] 214)) g 46 := HG.out.2.2.keep (hb67.block g hgl)
 have hbx := hbx.below hb47 hbx.lt
 have hit := hit.below hb47 hit.lt
 have her := her.below hb47 her.lt
 have hi4 := hi4.below hb47 hi4.lt
 have hgs : g ≠ W6.heap.size := by omega
 have hw7 : (W6.alloc (.cells #[.slice (some ⟨g, 0, none⟩) (pieces len) c6] 214)).heap.size = W6.heap.size + 1 := World.size_alloc _ _
 gi_wp2_with fail
 generalize (W6.alloc (.cells #[.slice (some ⟨g, 0, none⟩) (pieces len) c6] 214)) = W7 at hB7 hbs hgc hgk hbx hit her hi4 hw7 ⊢
 clear hb67 hb46 hb47 hb45 hb6 hB4 HG
 have hpl := pieces_le hlen'
 have hm7 : p.m < W7.heap.size := Nat.lt_of_lt_of_le H.out.l2.pg.adm.1.lt hB7.size
 have hd7 : p.d.m < W7.heap.size := Nat.lt_of_lt_of_le (H.out.l2.pg.lt_all (.inr (.inr (.inr rfl)))) hB7.size
 have ha7 : a.heap.size ≤ W7.heap.size := Nat.le_trans H.out.l2.below.size hB7.size
 have hq7 : w.heap.size + 1 + 1 + 1 < W7.heap.size := hi4.lt
 have H0 : LiI a W7 r [.bool rs, .bool jn] p P S A n c M (w.heap.size + 1 + 1 + 1) ka kn kc len xs [] [] p P W7 := ⟨rfl, rfl, rfl, H.out.on hB7, Turned.refl _ _, fun j hj => .inl hj, .nil P, rfl, hi4⟩
 refine wpIn_rangeFunc_ownG rfl (by decide) (gf := 149) (lb := #[.pointer (some ⟨W6.heap.size, 0, none⟩)]) rfl trivial (enters_of Tryz.func149 (by kernel_rfl) rfl)
  (bback_stops _ _ trivial rfl (by decide) W6.heap.size g 0 (pieces len) c6 (pieceV b o len) (by omega) W7 (hbs.cell 0) hgc) (fun h k => h.t k) (fun W l o1 o2 hl ho hc hw => by
   have hbb := belowK_b (n₀ := W7.heap.size) (w := W7) (Nat.le_refl _) W l o1 o2 hl ho hc hw
   exact ⟨hbb.block _ (by omega), hbb.block _ (by omega)⟩) (Below.refl _ _) (fun _ => rfl)
  (fun pre W => ∃ l p' P', LiI a W7 r [.bool rs, .bool jn] p P S A n c M (w.heap.size + 1 + 1 + 1) ka kn kc len xs (pre.map (·.1)) l p' P' W)
  (fun cd _ W => cd = .ret ∧ ∃ l p' P', LiX a W7 r [.bool rs, .bool jn] p P S A n c M (w.heap.size + 1) (w.heap.size + 1 + 1) l p' P' W)
  (fun s W W' row hs hg hr => by obtain ⟨l, p', P', hl⟩ := hs; exact ⟨l, p', P', hl.rowed hm7 hd7 ha7 hg hr⟩)
  (fun cd s W W' row hs hg hr => by obtain ⟨e, l, p', P', hl⟩ := hs; exact ⟨e, l, p', P', hl.rowed hm7 hd7 ha7 hg hr⟩)
  ⟨[], p, P, H0⟩
  (fun x => { tmps := #[.pointer (some ⟨r, 0, none⟩), .slice ka kn kc, .slice (some ⟨b, o, none⟩) len cap, .pointer (some ⟨w.heap.size, 0, none⟩), undef, undef, .pointer (some ⟨w.heap.size + 1, 0, none⟩), .pointer (some ⟨w.heap.size + 1 + 1, 0, none⟩), .pointer (some ⟨w.heap.size + 1 + 1 + 1, 0, none⟩), undef, .slice (some ⟨b, o + 237 * x.1, none⟩) (pieceN len x.1) (pieceN len x.1), undef, undef, .slice ka kn kc, .slice (some ⟨b, o, none⟩) len cap, .int .i64 (len : Int), .agg #[.slice ka kn kc, .slice none 0 0, .int .i64 (len : Int), .int .i64 0], .slice (some ⟨b, o, none⟩) len cap, .int .i64 (len : Int), .bool (decide ((len : Int) ≤ 64)), undef, undef, undef, .slice (some ⟨b, o, none⟩) len cap, .func (.func 151) #[] #[.pointer (some ⟨W4.heap.size, 0, none⟩), .pointer (some ⟨W4.heap.size + 1, 0, none⟩)], .slice (some ⟨g, 0, none⟩) (pieces len) c6, .func (.func 149) #[] #[.pointer (some ⟨W6.heap.size, 0, none⟩)], .int .i64 (x.1 : Int), .slice (some ⟨b, o + 237 * x.1, none⟩) (pieceN len x.1) (pieceN len x.1), undef, undef, undef, undef, undef, undef, undef, undef, undef, undef, undef, undef, undef, undef, undef, undef, undef, undef, undef, undef], defers := [] }) ?assign ?body ?done ?stop
 case assign =>
  intro l x W K hK
  gi_wp2
  exact hK
 case body =>
  rintro lp pre x W ⟨l, p', P', hL⟩ hlt
  have HCT := kept (And.intro hw7 (And.intro hbs (And.intro hgk (And.intro hit (And.intro her (And.intro hgs (And.intro hgl (And.intro H0 (And.intro hm7 (And.intro hd7 (And.intro ha7 hq7)))))))))))
  have HB7 := kept hB7
  clear hgc hbs hgk hit her hi4 hw7 hgs hgl H0 hm7 hd7 ha7
  have hp7 := (H.out.on hB7).l2.pg
  have hx1 : 237 * x.1 < len := by have := x.2; unfold pieces at this; omega
  have hcb := hL.tu.blk hbx (fun e => e.elim (fun e => hp7.not_all hbx.cl (by decide) (by decide) (by decide) (by decide) (by decide) e) (fun e => by omega))
  have cb0 : W.cell? ⟨w.heap.size, 0, none⟩ = some (.pointer (some ⟨r, 0, none⟩)) := hcb.cell 0
  have cr0 : W.cell? ⟨r, 0, none⟩ = some (.pointer (some ⟨p'.r, 0, none⟩)) := hL.vi.box.cell 0
  have ci3 : W.cell? ⟨w.heap.size + 1 + 1 + 1, 3, none⟩ = some (.int .i64 (headI l)) := hL.it.cell 3
  have hbl : b < w.heap.size := by obtain ⟨a', e, h⟩ := HX.out.lt h0len; cases e; exact h
  have hRd : Rd W (some ⟨b, o, none⟩) len xs := hL.tu.rd (HX.out.below hB7) (fun a' e => by
   cases e
   exact fun e => e.elim (fun e => HBP.out e) (fun e => by have e : b = w.heap.size + 1 + 1 + 1 := e; omega))
  have hPc := hRd.piece hx1
  have hnx := head_page H.out.l2.pg hL.ad
  have hM := hL.ad.same.1
  have hpn := pieceN_bound hx1
  have hbl2 := pieceB_length xs x.1
  rw [HX.out.1] at hbl2
  have hRt := fun t => piece_ok (next := headI l) (xs := pieceB xs x.1) (by omega) (by omega) hnx t
  have hPG : ∀ W2, Below W.heap.size W W2 → RdPg W2 ⟨3, 0, headI l, none, 0, 0, none, 0, 0, some ⟨b, o + 237 * x.1, none⟩, pieceN len x.1, pieceN len x.1, none, 0, 0⟩ (pieceX (headI l) (pieceB xs x.1)) := fun W2 hb => ⟨rfl, rfl, rfl, RdItems.nil_ _ _, RdKids.nil_ _ _, hPc.below hb, RdNums.nil_ _ _, by show (0 : Int) ≤ 0; omega, by show (0 : Int) < 18446744073709551616; omega, Nat.zero_le _, Nat.zero_le _, by show pieceN len x.1 ≤ 140737488355328; omega, Nat.zero_le _⟩
  have hFW := HF.out.below hL.vi.l2.below
  have HL := kept hL
  have HR := kept (And.intro hRt hM)
  have HPG := kept hPG
  have HHB := kept (And.intro hcb hbl2)
  have HLN : Hid (l.length ≤ 18) := kept (by
   have h1 := congrArg List.length hL.pc
   simp only [List.length_map, List.length_reverse] at h1
   have h2 : pieces len = (len + 236) / 237 := rfl
   omega)
  clear hRd hPc hnx hM hRt hPG hcb hp7 hbl2 hL hbx hB7 hlt hx1 hpn hbl hq7 hpl h0len hlen' hlen h64 hcap
  obtain ⟨m, hm⟩ : ∃ m, pieceN len x.1 = m := ⟨_, rfl⟩
  obtain ⟨y1, hy1⟩ : ∃ y1, o + 237 * x.1 = y1 := ⟨_, rfl⟩
  rw [hm, hy1] at HPG ⊢
  by_cases hroom : S.pages.length / 60 + 2 ≤ P'.L.S.length
  · obtain ⟨y, rr, hS⟩ : ∃ y rr, P'.L.S = y :: rr := by
     cases hs : P'.L.S with
     | nil => rw [hs] at hroom; simp at hroom
     | cons y rr => exact ⟨y, rr, rfl⟩
    have HADD := fun W2 (hb : Below W.heap.size W W2) => kept (add_okM (HL.out.vi.l2.pg.below hb) _ _ (HPG.out W2 hb) (hFW.below hb) (by rw [HR.out.2]; exact HT.out) (HR.out.1 _) hroom y rr hS)
    have HS := kept hS
    have HRM := kept hroom
    clear hS hroom
    gi_wp2
    have HSd := kept (show (fun W' => W'.cell? ⟨w.heap.size, 0, none⟩ = some (.pointer (some ⟨r, 0, none⟩)) ∧ W'.cell? ⟨r, 0, none⟩ = some (.pointer (some ⟨p'.r, 0, none⟩)) ∧ W'.cell? ⟨w.heap.size + 1 + 1 + 1, 3, none⟩ = some (.int .i64 (headI l))) W.drew from ⟨cb0, cr0, ci3⟩)
    refine region_R ((fun W' => W'.cell? ⟨w.heap.size, 0, none⟩ = some (.pointer (some ⟨r, 0, none⟩)) ∧ W'.cell? ⟨r, 0, none⟩ = some (.pointer (some ⟨p'.r, 0, none⟩)) ∧ W'.cell? ⟨w.heap.size + 1 + 1 + 1, 3, none⟩ = some (.int .i64 (headI l)))) (by kernel_rfl) ?_ (fun hHeld => ?_)
    · ((try dsimp only); (first | with_reducible exact HSd.out | with_reducible exact HS2.out))
    (try simp only [List.size_toArray, List.length_cons, List.length_nil, Nat.reduceAdd, Array.replicate_succ, Array.replicate_zero, List.push_toArray, List.append_toArray, List.nil_append, List.cons_append])
    refine take_R 0 (some 30) ?_ (by (intro o ho w hSw; (simp only [List.getElem?_toArray, List.getElem?_cons_succ, List.getElem?_cons_zero, Option.some.injEq] at ho); subst ho; (try dsimp only at hSw); go_simp; (first | done | with_reducible rfl))) (by (intro o ho w; (simp only [List.getElem?_toArray, List.getElem?_cons_succ, List.getElem?_cons_zero, Option.some.injEq] at ho); subst ho; rfl)) (by ((try simp only [Act.put, hA, h0, h1]); (first | done | rfl)))
    (try simp only [Act.put, List.setIfInBounds_toArray, List.set_cons_zero, List.set_cons_succ])
    refine take_R 1 (some 31) ?_ (by (intro o ho w hSw; (simp only [List.getElem?_toArray, List.getElem?_cons_succ, List.getElem?_cons_zero, Option.some.injEq] at ho); subst ho; (try dsimp only at hSw); go_simp; (first | done | with_reducible rfl))) (by (intro o ho w; (simp only [List.getElem?_toArray, List.getElem?_cons_succ, List.getElem?_cons_zero, Option.some.injEq] at ho); subst ho; rfl)) (by ((try simp only [Act.put, hA, h0, h1]); (first | done | rfl)))
    (try simp only [Act.put, List.setIfInBounds_toArray, List.set_cons_zero, List.set_cons_succ])
    refine take_R 2 (some 32) ?_ (by (intro o ho w hSw; (simp only [List.getElem?_toArray, List.getElem?_cons_succ, List.getElem?_cons_zero, Option.some.injEq] at ho); subst ho; (try dsimp only at hSw); go_simp; (first | done | with_reducible rfl))) (by (intro o ho w; (simp only [List.getElem?_toArray, List.getElem?_cons_succ, List.getElem?_cons_zero, Option.some.injEq] at ho); subst ho; rfl)) (by ((try simp only [Act.put, hA, h0, h1]); (first | done | rfl)))
    (try simp only [Act.put, List.setIfInBounds_toArray, List.set_cons_zero, List.set_cons_succ])
    refine take_R 3 (some 33) ?_ (by (intro o ho w hSw; (simp only [List.getElem?_toArray, List.getElem?_cons_succ, List.getElem?_cons_zero, Option.some.injEq] at ho); subst ho; (try dsimp only at hSw); go_simp; (first | done | with_reducible rfl))) (by (intro o ho w; (simp only [List.getElem?_toArray, List.getElem?_cons_succ, List.getElem?_cons_zero, Option.some.injEq] at ho); subst ho; rfl)) (by ((try simp only [Act.put, hA, h0, h1]); (first | done | rfl)))
    (try simp only [Act.put, List.setIfInBounds_toArray, List.set_cons_zero, List.set_cons_succ])
    refine take_R 4 (some 34) ?_ (by (intro o ho w hSw; (simp only [List.getElem?_toArray, List.getElem?_cons_succ, List.getElem?_cons_zero, Option.some.injEq] at ho); subst ho; (try dsimp only at hSw); go_simp; (first | done | with_reducible rfl))) (by (intro o ho w; (simp only [List.getElem?_toArray, List.getElem?_cons_succ, List.getElem?_cons_zero, Option.some.injEq] at ho); subst ho; rfl)) (by ((try simp only [Act.put, hA, h0, h1]); (first | done | rfl)))
    (try simp only [Act.put, List.setIfInBounds_toArray, List.set_cons_zero, List.set_cons_succ])
    refine take_R 5 (some 35) ?_ (by (intro o ho w hSw; (simp only [List.getElem?_toArray, List.getElem?_cons_succ, List.getElem?_cons_zero, Option.some.injEq] at ho); subst ho; (try dsimp only at hSw); go_simp; (first | done | with_reducible rfl))) (by (intro o ho w; (simp only [List.getElem?_toArray, List.getElem?_cons_succ, List.getElem?_cons_zero, Option.some.injEq] at ho); subst ho; rfl)) (by ((try simp only [Act.put, hA, h0, h1]); (first | done | rfl)))
    (try simp only [Act.put, List.setIfInBounds_toArray, List.set_cons_zero, List.set_cons_succ])
    refine take_R 6 (some 36) ?_ (by (intro o ho w hSw; (simp only [List.getElem?_toArray, List.getElem?_cons_succ, List.getElem?_cons_zero, Option.some.injEq] at ho); subst ho; (try dsimp only at hSw); go_simp; (first | done | with_reducible rfl))) (by (intro o ho w; (simp only [List.getElem?_toArray, List.getElem?_cons_succ, List.getElem?_cons_zero, Option.some.injEq] at ho); subst ho; rfl)) (by ((try simp only [Act.put, hA, h0, h1]); (first | done | rfl)))
    (try simp only [Act.put, List.setIfInBounds_toArray, List.set_cons_zero, List.set_cons_succ])
    refine take_R 7 (some 37) ?_ (by (intro o ho w hSw; (simp only [List.getElem?_toArray, List.getElem?_cons_succ, List.getElem?_cons_zero, Option.some.injEq] at ho); subst ho; (try dsimp only at hSw); go_simp; (first | done | with_reducible rfl))) (by (intro o ho w; (simp only [List.getElem?_toArray, List.getElem?_cons_succ, List.getElem?_cons_zero, Option.some.injEq] at ho); subst ho; rfl)) (by ((try simp only [Act.put, hA, h0, h1]); (first | done | rfl)))
    (try simp only [Act.put, List.setIfInBounds_toArray, List.set_cons_zero, List.set_cons_succ])
    refine take_R 8 (some 38) ?_ (by (intro o ho w hSw; (simp only [List.getElem?_toArray, List.getElem?_cons_succ, List.getElem?_cons_zero, Option.some.injEq] at ho); subst ho; (try dsimp only at hSw); go_simp; (first | done | with_reducible rfl))) (by (intro o ho w; (simp only [List.getElem?_toArray, List.getElem?_cons_succ, List.getElem?_cons_zero, Option.some.injEq] at ho); subst ho; rfl)) (by ((try simp only [Act.put, hA, h0, h1]); (first | done | rfl)))
    (try simp only [Act.put, List.setIfInBounds_toArray, List.set_cons_zero, List.set_cons_succ])
    refine ready_R 9 (fun o ho K hK => ?_)
    (simp only [List.getElem?_toArray, List.getElem?_cons_succ, List.getElem?_cons_zero, Option.some.injEq] at ho)
    subst ho
    go_simp
    (refine (CallsIn.inRound lp (callsIn_wide.2 (HADD _ ((Below.refl _ W).drew)).out)).mono ?_; rintro e w2 ⟨rfl, h2⟩; obtain ⟨p2, e2r, e2d, e2m, hv2, t2, o2⟩ := (HL.out.vi.on (Below.refl _ W).drew).stepM h2.out; (have HV2 := kept (And.intro e2r (And.intro e2d (And.intro e2m (And.intro hv2 (And.intro t2 o2)))))); (have hcb2 := t2.blk HHB.out.1 (fun e => HL.out.vi.l2.pg.not_all HHB.out.1.cl (by decide) (by decide) (by decide) (by decide) (by decide) e)); (have hit2 := t2.blk HL.out.it (fun e => HL.out.vi.l2.pg.not_all HL.out.it.cl (by decide) (by decide) (by decide) (by decide) (by decide) e)); (have hr2 : w2.cell? ⟨r, 0, none⟩ = some (.pointer (some ⟨p'.r, 0, none⟩)) := by rw [← e2r]; exact hv2.box.cell 0); (have HS2 := kept (show (fun W' => W'.cell? ⟨w.heap.size, 0, none⟩ = some (.pointer (some ⟨r, 0, none⟩)) ∧ W'.cell? ⟨r, 0, none⟩ = some (.pointer (some ⟨p'.r, 0, none⟩)) ∧ W'.cell? ⟨w.heap.size + 1 + 1 + 1, 3, none⟩ = some (.int .i64 (headI l))) w2 from ⟨hcb2.cell 0, hr2, hit2.cell 3⟩)); have fi3 := hit2.frozen 3; have ci4 := hit2.cell 3; (have HIT2 := kept hit2); clear h2 hv2 t2 o2 e2r e2d e2m hcb2 hit2 hr2)
    refine hK.out _ _ ?_ (fun hHeld => ?_)
    · ((try dsimp only); (first | with_reducible exact HSd.out | with_reducible exact HS2.out))
    clear hK K
    (try simp only [Act.put, List.setIfInBounds_toArray, List.set_cons_zero, List.set_cons_succ])
    refine take_R 10 (some 29) ?_ (by (intro o ho w hSw; (simp only [List.getElem?_toArray, List.getElem?_cons_succ, List.getElem?_cons_zero, Option.some.injEq] at ho); subst ho; (try dsimp only at hSw); go_simp; (first | done | with_reducible rfl))) (by (intro o ho w; (simp only [List.getElem?_toArray, List.getElem?_cons_succ, List.getElem?_cons_zero, Option.some.injEq] at ho); subst ho; rfl)) (by ((try simp only [Act.put, hA, h0, h1]); (first | done | rfl)))
    (try simp only [Act.put, List.setIfInBounds_toArray, List.set_cons_zero, List.set_cons_succ])
    refine take_R 11 (some 40) ?_ (by (intro o ho w hSw; (simp only [List.getElem?_toArray, List.getElem?_cons_succ, List.getElem?_cons_zero, Option.some.injEq] at ho); subst ho; (try dsimp only at hSw); go_simp; (first | done | with_reducible rfl))) (by (intro o ho w; (simp only [List.getElem?_toArray, List.getElem?_cons_succ, List.getElem?_cons_zero, Option.some.injEq] at ho); subst ho; rfl)) (by ((try simp only [Act.put, hA, h0, h1]); (first | done | rfl)))
    (try simp only [Act.put, List.setIfInBounds_toArray, List.set_cons_zero, List.set_cons_succ])
    refine take_R 12 (some 41) ?_ (by (intro o ho w hSw; (simp only [List.getElem?_toArray, List.getElem?_cons_succ, List.getElem?_cons_zero, Option.some.injEq] at ho); subst ho; (try dsimp only at hSw); go_simp; (first | done | with_reducible rfl))) (by (intro o ho w; (simp only [List.getElem?_toArray, List.getElem?_cons_succ, List.getElem?_cons_zero, Option.some.injEq] at ho); subst ho; rfl)) (by ((try simp only [Act.put, hA, h0, h1]); (first | done | rfl)))
    (try simp only [Act.put, List.setIfInBounds_toArray, List.set_cons_zero, List.set_cons_succ])
    refine take_R 13 (some 11) ?_ (by (intro o ho w hSw; (simp only [List.getElem?_toArray, List.getElem?_cons_succ, List.getElem?_cons_zero, Option.some.injEq] at ho); subst ho; (try dsimp only at hSw); go_simp; (first | done | with_reducible rfl))) (by (intro o ho w; (simp only [List.getElem?_toArray, List.getElem?_cons_succ, List.getElem?_cons_zero, Option.some.injEq] at ho); subst ho; rfl)) (by ((try simp only [Act.put, hA, h0, h1]); (first | done | rfl)))
    (try simp only [Act.put, List.setIfInBounds_toArray, List.set_cons_zero, List.set_cons_succ])
    refine take_R 14 (some 12) ?_ (by (intro o ho w hSw; (simp only [List.getElem?_toArray, List.getElem?_cons_succ, List.getElem?_cons_zero, Option.some.injEq] at ho); subst ho; (try dsimp only at hSw); go_simp; (first | done | with_reducible rfl))) (by (intro o ho w; (simp only [List.getElem?_toArray, List.getElem?_cons_succ, List.getElem?_cons_zero, Option.some.injEq] at ho); subst ho; rfl)) (by ((try simp only [Act.put, hA, h0, h1]); (first | done | rfl)))
    (try simp only [Act.put, List.setIfInBounds_toArray, List.set_cons_zero, List.set_cons_succ])
    refine done_R (by kernel_rfl) ?_ _
    clear cb0 cr0 ci3 HADD hHeld
    gi_wp2
    obtain ⟨hw7, hbs, hgk, hit, her, hgs, hgl, hH0, hm7, hd7, ha7, hq7⟩ := HCT.out
    obtain ⟨e2r, e2d, e2m, hv2, t2, o2⟩ := HV2.out
    have hL := HL.out
    have hnq := hL.vi.l2.pg.not_all hL.it.cl (by decide) (by decide) (by decide) (by decide) (by decide)
    have hnx := LiI.next (w := w) hL e2r e2d e2m HS.out HRM.out (HR.out.1 _) hv2 t2 o2 hL.tu.size hq7 (Nat.lt_of_lt_of_le H.out.lt HB7.out.size) (by have := H.out.lt; omega) hnq (by have := H.out.l2.below.size; omega)
    have tY : Turned W (w2.setCell ⟨w.heap.size + 1 + 1 + 1, 3, none⟩ (.int .i64 y)) (fun k => p'.all k ∨ k = w.heap.size + 1 + 1 + 1) :=
     (Turned.mono (T' := fun k => p'.all k ∨ k = w.heap.size + 1 + 1 + 1) (show Turned W w2 p'.all from ⟨t2.os, t2.tape, t2.output, t2.size, t2.block⟩) (fun k _ h => .inl h)).setCell (p := ⟨w.heap.size + 1 + 1 + 1, 3, none⟩) (fun _ => .inr rfl) _
    have hp7 := (H.out.on HB7.out).l2.pg
    have hcs := hL.tu.blk hbs (fun e => e.elim (fun e => hp7.not_all hbs.cl (by decide) (by decide) (by decide) (by decide) (by decide) e) (fun e => absurd (by rw [e] at hbs; exact hbs.cl.uniq (show Cl W7 (w.heap.size + 1 + 1 + 1) 149 from hH0.it.cl)) (by decide)))
    have hcg : Cl W g 46 := hgk.keep (hL.tu.block g hgk.lt (fun e => e.elim (fun e => hp7.not_all hgk (by decide) (by decide) (by decide) (by decide) (by decide) e) (fun e => absurd (by rw [e] at hgk; exact hgk.uniq (show Cl W7 (w.heap.size + 1 + 1 + 1) 149 from hH0.it.cl)) (by decide))))
    refine ⟨keepsFrom_of tY (fun k ob hB hk ho e => e.elim (fun e => hL.vi.l2.pg.not_row hk ho (by rw [hL.em]; omega) (by rw [hL.ed]; omega) e) (fun e => by omega)), ⟨tY.block _ hcs.lt (fun e => e.elim (fun e => hL.vi.l2.pg.not_all hcs.cl (by decide) (by decide) (by decide) (by decide) (by decide) e) (fun e => absurd (by rw [e] at hcs; exact hcs.cl.uniq hL.it.cl) (by decide))), tY.block _ hcg.lt (fun e => e.elim (fun e => hL.vi.l2.pg.not_all hcg (by decide) (by decide) (by decide) (by decide) (by decide) e) (fun e => absurd (by rw [e] at hcg; exact hcg.uniq hL.it.cl) (by decide)))⟩, (y, pieceB xs x.1) :: l, p2, addP P' y (sealed (bodyOf (txnP (pieceX (headI l) (pieceB xs x.1)) (P'.M.txn + 1)))), ?_⟩
    have hmp : (pre ++ [x]).unattach = pre.map (·.1) ++ [x.1] := by
     show (pre ++ [x]).map (·.1) = _
     rw [List.map_append]; rfl
    rw [hmp]
    exact hnx
  · have hfull : P'.L.S.length < S.pages.length / 60 + 2 := by omega
    have HADD := fun W2 (hb : Below W.heap.size W W2) => kept (add_fullM (HL.out.vi.l2.pg.below hb) _ _ (HPG.out W2 hb) (hFW.below hb) (by rw [HR.out.2]; exact HT.out) (HR.out.1 _) hfull)
    have HRM := kept hfull
    clear hfull hroom
    gi_wp2
    have HSd := kept (show (fun W' => W'.cell? ⟨w.heap.size, 0, none⟩ = some (.pointer (some ⟨r, 0, none⟩)) ∧ W'.cell? ⟨r, 0, none⟩ = some (.pointer (some ⟨p'.r, 0, none⟩)) ∧ W'.cell? ⟨w.heap.size + 1 + 1 + 1, 3, none⟩ = some (.int .i64 (headI l))) W.drew from ⟨cb0, cr0, ci3⟩)
    refine region_R ((fun W' => W'.cell? ⟨w.heap.size, 0, none⟩ = some (.pointer (some ⟨r, 0, none⟩)) ∧ W'.cell? ⟨r, 0, none⟩ = some (.pointer (some ⟨p'.r, 0, none⟩)) ∧ W'.cell? ⟨w.heap.size + 1 + 1 + 1, 3, none⟩ = some (.int .i64 (headI l)))) (by kernel_rfl) ?_ (fun hHeld => ?_)
    · ((try dsimp only); (first | with_reducible exact HSd.out | with_reducible exact HS2.out))
    (try simp only [List.size_toArray, List.length_cons, List.length_nil, Nat.reduceAdd, Array.replicate_succ, Array.replicate_zero, List.push_toArray, List.append_toArray, List.nil_append, List.cons_append])
    refine take_R 0 (some 30) ?_ (by (intro o ho w hSw; (simp only [List.getElem?_toArray, List.getElem?_cons_succ, List.getElem?_cons_zero, Option.some.injEq] at ho); subst ho; (try dsimp only at hSw); go_simp; (first | done | with_reducible rfl))) (by (intro o ho w; (simp only [List.getElem?_toArray, List.getElem?_cons_succ, List.getElem?_cons_zero, Option.some.injEq] at ho); subst ho; rfl)) (by ((try simp only [Act.put, hA, h0, h1]); (first | done | rfl)))
    (try simp only [Act.put, List.setIfInBounds_toArray, List.set_cons_zero, List.set_cons_succ])
    refine take_R 1 (some 31) ?_ (by (intro o ho w hSw; (simp only [List.getElem?_toArray, List.getElem?_cons_succ, List.getElem?_cons_zero, Option.some.injEq] at ho); subst ho; (try dsimp only at hSw); go_simp; (first | done | with_reducible rfl))) (by (intro o ho w; (simp only [List.getElem?_toArray, List.getElem?_cons_succ, List.getElem?_cons_zero, Option.some.injEq] at ho); subst ho; rfl)) (by ((try simp only [Act.put, hA, h0, h1]); (first | done | rfl)))
    (try simp only [Act.put, List.setIfInBounds_toArray, List.set_cons_zero, List.set_cons_succ])
    refine take_R 2 (some 32) ?_ (by (intro o ho w hSw; (simp only [List.getElem?_toArray, List.getElem?_cons_succ, List.getElem?_cons_zero, Option.some.injEq] at ho); subst ho; (try dsimp only at hSw); go_simp; (first | done | with_reducible rfl))) (by (intro o ho w; (simp only [List.getElem?_toArray, List.getElem?_cons_succ, List.getElem?_cons_zero, Option.some.injEq] at ho); subst ho; rfl)) (by ((try simp only [Act.put, hA, h0, h1]); (first | done | rfl)))
    (try simp only [Act.put, List.setIfInBounds_toArray, List.set_cons_zero, List.set_cons_succ])
    refine take_R 3 (some 33) ?_ (by (intro o ho w hSw; (simp only [List.getElem?_toArray, List.getElem?_cons_succ, List.getElem?_cons_zero, Option.some.injEq] at ho); subst ho; (try dsimp only at hSw); go_simp; (first | done | with_reducible rfl))) (by (intro o ho w; (simp only [List.getElem?_toArray, List.getElem?_cons_succ, List.getElem?_cons_zero, Option.some.injEq] at ho); subst ho; rfl)) (by ((try simp only [Act.put, hA, h0, h1]); (first | done | rfl)))
    (try simp only [Act.put, List.setIfInBounds_toArray, List.set_cons_zero, List.set_cons_succ])
    refine take_R 4 (some 34) ?_ (by (intro o ho w hSw; (simp only [List.getElem?_toArray, List.getElem?_cons_succ, List.getElem?_cons_zero, Option.some.injEq] at ho); subst ho; (try dsimp only at hSw); go_simp; (first | done | with_reducible rfl))) (by (intro o ho w; (simp only [List.getElem?_toArray, List.getElem?_cons_succ, List.getElem?_cons_zero, Option.some.injEq] at ho); subst ho; rfl)) (by ((try simp only [Act.put, hA, h0, h1]); (first | done | rfl)))
    (try simp only [Act.put, List.setIfInBounds_toArray, List.set_cons_zero, List.set_cons_succ])
    refine take_R 5 (some 35) ?_ (by (intro o ho w hSw; (simp only [List.getElem?_toArray, List.getElem?_cons_succ, List.getElem?_cons_zero, Option.some.injEq] at ho); subst ho; (try dsimp only at hSw); go_simp; (first | done | with_reducible rfl))) (by (intro o ho w; (simp only [List.getElem?_toArray, List.getElem?_cons_succ, List.getElem?_cons_zero, Option.some.injEq] at ho); subst ho; rfl)) (by ((try simp only [Act.put, hA, h0, h1]); (first | done | rfl)))
    (try simp only [Act.put, List.setIfInBounds_toArray, List.set_cons_zero, List.set_cons_succ])
    refine take_R 6 (some 36) ?_ (by (intro o ho w hSw; (simp only [List.getElem?_toArray, List.getElem?_cons_succ, List.getElem?_cons_zero, Option.some.injEq] at ho); subst ho; (try dsimp only at hSw); go_simp; (first | done | with_reducible rfl))) (by (intro o ho w; (simp only [List.getElem?_toArray, List.getElem?_cons_succ, List.getElem?_cons_zero, Option.some.injEq] at ho); subst ho; rfl)) (by ((try simp only [Act.put, hA, h0, h1]); (first | done | rfl)))
    (try simp only [Act.put, List.setIfInBounds_toArray, List.set_cons_zero, List.set_cons_succ])
    refine take_R 7 (some 37) ?_ (by (intro o ho w hSw; (simp only [List.getElem?_toArray, List.getElem?_cons_succ, List.getElem?_cons_zero, Option.some.injEq] at ho); subst ho; (try dsimp only at hSw); go_simp; (first | done | with_reducible rfl))) (by (intro o ho w; (simp only [List.getElem?_toArray, List.getElem?_cons_succ, List.getElem?_cons_zero, Option.some.injEq] at ho); subst ho; rfl)) (by ((try simp only [Act.put, hA, h0, h1]); (first | done | rfl)))
    (try simp only [Act.put, List.setIfInBounds_toArray, List.set_cons_zero, List.set_cons_succ])
    refine take_R 8 (some 38) ?_ (by (intro o ho w hSw; (simp only [List.getElem?_toArray, List.getElem?_cons_succ, List.getElem?_cons_zero, Option.some.injEq] at ho); subst ho; (try dsimp only at hSw); go_simp; (first | done | with_reducible rfl))) (by (intro o ho w; (simp only [List.getElem?_toArray, List.getElem?_cons_succ, List.getElem?_cons_zero, Option.some.injEq] at ho); subst ho; rfl)) (by ((try simp only [Act.put, hA, h0, h1]); (first | done | rfl)))
    (try simp only [Act.put, List.setIfInBounds_toArray, List.set_cons_zero, List.set_cons_succ])
    refine ready_R 9 (fun o ho K hK => ?_)
    (simp only [List.getElem?_toArray, List.getElem?_cons_succ, List.getElem?_cons_zero, Option.some.injEq] at ho)
    subst ho
    go_simp
    (refine (CallsIn.inRound lp (callsIn_wide.2 (HADD _ ((Below.refl _ W).drew)).out)).mono ?_; rintro e w2 ⟨rfl, h2⟩; obtain ⟨p2, e2r, e2d, e2m, hv2, t2, o2⟩ := (HL.out.vi.on (Below.refl _ W).drew).stepM h2.out; (have HV2 := kept (And.intro e2r (And.intro e2d (And.intro e2m (And.intro hv2 (And.intro t2 o2)))))); (have hcb2 := t2.blk HHB.out.1 (fun e => HL.out.vi.l2.pg.not_all HHB.out.1.cl (by decide) (by decide) (by decide) (by decide) (by decide) e)); (have hit2 := t2.blk HL.out.it (fun e => HL.out.vi.l2.pg.not_all HL.out.it.cl (by decide) (by decide) (by decide) (by decide) (by decide) e)); (have hr2 : w2.cell? ⟨r, 0, none⟩ = some (.pointer (some ⟨p'.r, 0, none⟩)) := by rw [← e2r]; exact hv2.box.cell 0); (have HS2 := kept (show (fun W' => W'.cell? ⟨w.heap.size, 0, none⟩ = some (.pointer (some ⟨r, 0, none⟩)) ∧ W'.cell? ⟨r, 0, none⟩ = some (.pointer (some ⟨p'.r, 0, none⟩)) ∧ W'.cell? ⟨w.heap.size + 1 + 1 + 1, 3, none⟩ = some (.int .i64 (headI l))) w2 from ⟨hcb2.cell 0, hr2, hit2.cell 3⟩)); clear h2 hv2 t2 o2 e2r e2d e2m hcb2 hit2 hr2)
    refine hK.out _ _ ?_ (fun hHeld => ?_)
    · ((try dsimp only); (first | with_reducible exact HSd.out | with_reducible exact HS2.out))
    clear hK K
    (try simp only [Act.put, List.setIfInBounds_toArray, List.set_cons_zero, List.set_cons_succ])
    refine take_R 10 (some 29) ?_ (by (intro o ho w hSw; (simp only [List.getElem?_toArray, List.getElem?_cons_succ, List.getElem?_cons_zero, Option.some.injEq] at ho); subst ho; (try dsimp only at hSw); go_simp; (first | done | with_reducible rfl))) (by (intro o ho w; (simp only [List.getElem?_toArray, List.getElem?_cons_succ, List.getElem?_cons_zero, Option.some.injEq] at ho); subst ho; rfl)) (by ((try simp only [Act.put, hA, h0, h1]); (first | done | rfl)))
    (try simp only [Act.put, List.setIfInBounds_toArray, List.set_cons_zero, List.set_cons_succ])
    refine take_R 11 (some 40) ?_ (by (intro o ho w hSw; (simp only [List.getElem?_toArray, List.getElem?_cons_succ, List.getElem?_cons_zero, Option.some.injEq] at ho); subst ho; (try dsimp only at hSw); go_simp; (first | done | with_reducible rfl))) (by (intro o ho w; (simp only [List.getElem?_toArray, List.getElem?_cons_succ, List.getElem?_cons_zero, Option.some.injEq] at ho); subst ho; rfl)) (by ((try simp only [Act.put, hA, h0, h1]); (first | done | rfl)))
    (try simp only [Act.put, List.setIfInBounds_toArray, List.set_cons_zero, List.set_cons_succ])
    refine take_R 12 (some 41) ?_ (by (intro o ho w hSw; (simp only [List.getElem?_toArray, List.getElem?_cons_succ, List.getElem?_cons_zero, Option.some.injEq] at ho); subst ho; (try dsimp only at hSw); go_simp; (first | done | with_reducible rfl))) (by (intro o ho w; (simp only [List.getElem?_toArray, List.getElem?_cons_succ, List.getElem?_cons_zero, Option.some.injEq] at ho); subst ho; rfl)) (by ((try simp only [Act.put, hA, h0, h1]); (first | done | rfl)))
    (try simp only [Act.put, List.setIfInBounds_toArray, List.set_cons_zero, List.set_cons_succ])
    refine take_R 13 (some 11) ?_ (by (intro o ho w hSw; (simp only [List.getElem?_toArray, List.getElem?_cons_succ, List.getElem?_cons_zero, Option.some.injEq] at ho); subst ho; (try dsimp only at hSw); go_simp; (first | done | with_reducible rfl))) (by (intro o ho w; (simp only [List.getElem?_toArray, List.getElem?_cons_succ, List.getElem?_cons_zero, Option.some.injEq] at ho); subst ho; rfl)) (by ((try simp only [Act.put, hA, h0, h1]); (first | done | rfl)))
    (try simp only [Act.put, List.setIfInBounds_toArray, List.set_cons_zero, List.set_cons_succ])
    refine take_R 14 (some 12) ?_ (by (intro o ho w hSw; (simp only [List.getElem?_toArray, List.getElem?_cons_succ, List.getElem?_cons_zero, Option.some.injEq] at ho); subst ho; (try dsimp only at hSw); go_simp; (first | done | with_reducible rfl))) (by (intro o ho w; (simp only [List.getElem?_toArray, List.getElem?_cons_succ, List.getElem?_cons_zero, Option.some.injEq] at ho); subst ho; rfl)) (by ((try simp only [Act.put, hA, h0, h1]); (first | done | rfl)))
    (try simp only [Act.put, List.setIfInBounds_toArray, List.set_cons_zero, List.set_cons_succ])
    refine done_R (by kernel_rfl) ?_ _
    clear cb0 cr0 ci3 HADD hHeld
    obtain ⟨hw7, hbs, hgk, hit, her, hgs, hgl, hH0, hm7, hd7, ha7, hq7⟩ := HCT.out
    obtain ⟨e2r, e2d, e2m, hv2, t2, o2⟩ := HV2.out
    have hL := HL.out
    have hp7 := (H.out.on HB7.out).l2.pg
    have hi1 := hL.tu.blk hit (fun e => e.elim (fun e => hp7.not_all hit.cl (by decide) (by decide) (by decide) (by decide) (by decide) e) (fun e => by omega))
    have hi2 := hL.tu.blk her (fun e => e.elim (fun e => hp7.not_all her.cl (by decide) (by decide) (by decide) (by decide) (by decide) e) (fun e => by omega))
    have ht2 : Turned W w2 p'.all := ⟨t2.os, t2.tape, t2.output, t2.size, t2.block⟩
    have hj1 := ht2.blk hi1 (fun e => hL.vi.l2.pg.not_all hi1.cl (by decide) (by decide) (by decide) (by decide) (by decide) e)
    have hj2 := ht2.blk hi2 (fun e => hL.vi.l2.pg.not_all hi2.cl (by decide) (by decide) (by decide) (by decide) (by decide) e)
    have m0 : w2.cell? ⟨w.heap.size + 1, 0, none⟩ = some (.slice none 0 0) := hj1.cell 0
    have m1 : w2.cell? ⟨w.heap.size + 1, 1, none⟩ = some (.slice none 0 0) := hj1.cell 1
    have m2 : w2.cell? ⟨w.heap.size + 1, 2, none⟩ = some (.int .i64 0) := hj1.cell 2
    have m3 : w2.cell? ⟨w.heap.size + 1, 3, none⟩ = some (.int .i64 0) := hj1.cell 3
    have f0 := hj1.frozen 0
    have f1 := hj1.frozen 1
    have f2 := hj1.frozen 2
    have f3 := hj1.frozen 3
    have e0 : w2.cell? ⟨w.heap.size + 1 + 1, 0, none⟩ = some (.int .i64 0) := hj2.cell 0
    have g0 := hj2.frozen 0
    have HJ := kept (And.intro hj1 (And.intro hj2 (And.intro hi1 (And.intro hi2 ht2))))
    clear hw7 hbs hgk hit her hgs hgl hH0 hm7 hd7 ha7 hq7 e2r e2d e2m hv2 t2 o2 hL hp7 hi1 hi2 ht2 hj1 hj2
    gi_wp2
    obtain ⟨hw7, hbs, hgk, hit, her, hgs, hgl, hH0, hm7, hd7, ha7, hq7⟩ := HCT.out
    obtain ⟨e2r, e2d, e2m, hv2, t2, o2⟩ := HV2.out
    obtain ⟨hj1, hj2, hi1, hi2, ht2⟩ := HJ.out
    have hL := HL.out
    have hr0 := H.out.lt
    have ha0 := H.out.l2.below.size
    have tY : Turned w2 (((((w2.setCell ⟨w.heap.size + 1, 0, none⟩ (.slice none 0 0)).setCell ⟨w.heap.size + 1, 1, none⟩ (.slice none 0 0)).setCell ⟨w.heap.size + 1, 2, none⟩ (.int .i64 0)).setCell ⟨w.heap.size + 1, 3, none⟩ (.int .i64 0)).setCell ⟨w.heap.size + 1 + 1, 0, none⟩ (.int .i64 9)) (fun k => k = w.heap.size + 1 ∨ k = w.heap.size + 1 + 1) :=
     (((((Turned.refl w2 (fun k => k = w.heap.size + 1 ∨ k = w.heap.size + 1 + 1)).setCell (p := ⟨w.heap.size + 1, 0, none⟩) (fun _ => .inl rfl) _).setCell (p := ⟨w.heap.size + 1, 1, none⟩) (fun _ => .inl rfl) _).setCell (p := ⟨w.heap.size + 1, 2, none⟩) (fun _ => .inl rfl) _).setCell (p := ⟨w.heap.size + 1, 3, none⟩) (fun _ => .inl rfl) _).setCell (p := ⟨w.heap.size + 1 + 1, 0, none⟩) (fun _ => .inr rfl) _
    have bY1 := ((((hj1.set_ 0 (.slice none 0 0)).set_ 1 (.slice none 0 0)).set_ 2 (.int .i64 0)).set_ 3 (.int .i64 0)).far (p := ⟨w.heap.size + 1 + 1, 0, none⟩) (by show w.heap.size + 1 ≠ w.heap.size + 1 + 1; omega) (.int .i64 9)
    have bY2 := ((((hj2.far (p := ⟨w.heap.size + 1, 0, none⟩) (by show w.heap.size + 1 + 1 ≠ w.heap.size + 1; omega) (.slice none 0 0)).far (p := ⟨w.heap.size + 1, 1, none⟩) (by show w.heap.size + 1 + 1 ≠ w.heap.size + 1; omega) (.slice none 0 0)).far (p := ⟨w.heap.size + 1, 2, none⟩) (by show w.heap.size + 1 + 1 ≠ w.heap.size + 1; omega) (.int .i64 0)).far (p := ⟨w.heap.size + 1, 3, none⟩) (by show w.heap.size + 1 + 1 ≠ w.heap.size + 1; omega) (.int .i64 0)).set_ 0 (.int .i64 9)
    simp only [List.set_cons_zero, List.set_cons_succ] at bY1 bY2
    generalize (((((w2.setCell ⟨w.heap.size + 1, 0, none⟩ (.slice none 0 0)).setCell ⟨w.heap.size + 1, 1, none⟩ (.slice none 0 0)).setCell ⟨w.heap.size + 1, 2, none⟩ (.int .i64 0)).setCell ⟨w.heap.size + 1, 3, none⟩ (.int .i64 0)).setCell ⟨w.heap.size + 1 + 1, 0, none⟩ (.int .i64 9)) = Y at tY bY1 bY2 ⊢
    have hWs := hL.tu.size
    have tWY : Turned W Y (fun k => p'.all k ∨ k = w.heap.size + 1 ∨ k = w.heap.size + 1 + 1) := (Turned.mono (T' := fun k => p'.all k ∨ k = w.heap.size + 1 ∨ k = w.heap.size + 1 + 1) ht2 (fun k _ h => .inl h)).chain tY (fun j _ e => .inr e)
    have hvY : Vi a r 151 [.bool rs, .bool jn] p2 P' S A n c M Y := hv2.far tY (fun k e => by
     rcases e with e | e <;> subst e
     · exact ⟨hv2.l2.pg.not_all hj1.cl (by decide) (by decide) (by decide) (by decide) (by decide), by omega, fun e => absurd ((hv2.l2.own.cl e).uniq hj1.cl) (by decide), by omega, fun e => absurd (e.uniq hj1.cl) (by decide)⟩
     · exact ⟨hv2.l2.pg.not_all hj2.cl (by decide) (by decide) (by decide) (by decide) (by decide), by omega, fun e => absurd ((hv2.l2.own.cl e).uniq hj2.cl) (by decide), by omega, fun e => absurd (e.uniq hj2.cl) (by decide)⟩)
    exact ⟨keepsFrom_of tWY (fun k ob hB hk ho e => e.elim (fun e => hL.vi.l2.pg.not_row hk ho (by rw [hL.em]; omega) (by rw [hL.ed]; omega) e) (fun e => by omega)), rfl, l, p2, P', ⟨e2r.trans hL.er, e2d.trans hL.ed, e2m.trans hL.em, hvY, (hL.tu.mono (T' := fun k => p.all k ∨ w.heap.size + 1 ≤ k) (fun k _ e => e.imp id (fun h5 => by omega))).chain tWY (fun j hj e => by
     rcases e with e | e
     · exact (hL.al j e).imp id (fun h5 => by omega)
     · exact .inr (by omega)), fun j hj => (o2 j hj).elim (fun h5 => hL.al j h5) (fun h5 => .inr (by have h5 : W.heap.size ≤ j := h5; omega)), hL.ad, HLN.out, HRM.out, bY1, bY2⟩⟩
 case done =>
  rintro D ys W hD hys ⟨l, p', P', hL⟩ hK
  have hp7 := (H.out.on hB7).l2.pg
  have hi1 := hL.tu.blk hit (fun e => e.elim (fun e => hp7.not_all hit.cl (by decide) (by decide) (by decide) (by decide) (by decide) e) (fun e => by omega))
  have hi2 := hL.tu.blk her (fun e => e.elim (fun e => hp7.not_all her.cl (by decide) (by decide) (by decide) (by decide) (by decide) e) (fun e => by omega))
  have HL := kept hL
  have k0 : W.cell? ⟨w.heap.size + 1 + 1 + 1, 0, none⟩ = some (.slice ka kn kc) := hL.it.cell 0
  have k1 : W.cell? ⟨w.heap.size + 1 + 1 + 1, 1, none⟩ = some (.slice none 0 0) := hL.it.cell 1
  have k2 : W.cell? ⟨w.heap.size + 1 + 1 + 1, 2, none⟩ = some (.int .i64 (len : Int)) := hL.it.cell 2
  have k3 : W.cell? ⟨w.heap.size + 1 + 1 + 1, 3, none⟩ = some (.int .i64 (headI l)) := hL.it.cell 3
  have m0 : W.cell? ⟨w.heap.size + 1, 0, none⟩ = some (.slice none 0 0) := hi1.cell 0
  have m1 : W.cell? ⟨w.heap.size + 1, 1, none⟩ = some (.slice none 0 0) := hi1.cell 1
  have m2 : W.cell? ⟨w.heap.size + 1, 2, none⟩ = some (.int .i64 0) := hi1.cell 2
  have m3 : W.cell? ⟨w.heap.size + 1, 3, none⟩ = some (.int .i64 0) := hi1.cell 3
  have f0 := hi1.frozen 0
  have f1 := hi1.frozen 1
  have f2 := hi1.frozen 2
  have f3 := hi1.frozen 3
  have e0 : W.cell? ⟨w.heap.size + 1 + 1, 0, none⟩ = some (.int .i64 0) := hi2.cell 0
  have g0 := hi2.frozen 0
  have HI := kept (And.intro hi1 hi2)
  clear hL hi1 hi2
  gi_wp2
  have hi1 := HI.out.1
  have hi2 := HI.out.2
  have bY1 := ((((hi1.set_ 0 (.slice ka kn kc)).set_ 1 (.slice none 0 0)).set_ 2 (.int .i64 (len : Int))).set_ 3 (.int .i64 (headI l))).far (p := ⟨w.heap.size + 1 + 1, 0, none⟩) (by show w.heap.size + 1 ≠ w.heap.size + 1 + 1; omega) (.int .i64 0)
  have bY2 := ((((hi2.far (p := ⟨w.heap.size + 1, 0, none⟩) (by show w.heap.size + 1 + 1 ≠ w.heap.size + 1; omega) (.slice ka kn kc)).far (p := ⟨w.heap.size + 1, 1, none⟩) (by show w.heap.size + 1 + 1 ≠ w.heap.size + 1; omega) (.slice none 0 0)).far (p := ⟨w.heap.size + 1, 2, none⟩) (by show w.heap.size + 1 + 1 ≠ w.heap.size + 1; omega) (.int .i64 (len : Int))).far (p := ⟨w.heap.size + 1, 3, none⟩) (by show w.heap.size + 1 + 1 ≠ w.heap.size + 1; omega) (.int .i64 (headI l))).set_ 0 (.int .i64 0)
  have tY : Turned W (((((W.setCell ⟨w.heap.size + 1, 0, none⟩ (.slice ka kn kc)).setCell ⟨w.heap.size + 1, 1, none⟩ (.slice none 0 0)).setCell ⟨w.heap.size + 1, 2, none⟩ (.int .i64 (len : Int))).setCell ⟨w.heap.size + 1, 3, none⟩ (.int .i64 (headI l))).setCell ⟨w.heap.size + 1 + 1, 0, none⟩ (.int .i64 0)) (fun k => k = w.heap.size + 1 ∨ k = w.heap.size + 1 + 1) :=
   (((((Turned.refl W (fun k => k = w.heap.size + 1 ∨ k = w.heap.size + 1 + 1)).setCell (p := ⟨w.heap.size + 1, 0, none⟩) (fun _ => .inl rfl) _).setCell (p := ⟨w.heap.size + 1, 1, none⟩) (fun _ => .inl rfl) _).setCell (p := ⟨w.heap.size + 1, 2, none⟩) (fun _ => .inl rfl) _).setCell (p := ⟨w.heap.size + 1, 3, none⟩) (fun _ => .inl rfl) _).setCell (p := ⟨w.heap.size + 1 + 1, 0, none⟩) (fun _ => .inr rfl) _
  simp only [List.set_cons_zero, List.set_cons_succ] at bY1 bY2
  generalize (((((W.setCell ⟨w.heap.size + 1, 0, none⟩ (.slice ka kn kc)).setCell ⟨w.heap.size + 1, 1, none⟩ (.slice none 0 0)).setCell ⟨w.heap.size + 1, 2, none⟩ (.int .i64 (len : Int))).setCell ⟨w.heap.size + 1, 3, none⟩ (.int .i64 (headI l))).setCell ⟨w.heap.size + 1 + 1, 0, none⟩ (.int .i64 0)) = Y at bY1 bY2 tY ⊢
  have hKY := tY.obj hK (fun e => e.elim (fun e => by omega) (fun e => by omega))
  have tZ := putObj_turned Y D (.deferred none)
  have bZ1 := tZ.blk bY1 (by omega)
  have bZ2 := tZ.blk bY2 (by omega)
  have hvZ := HL.out.vi.boxes (w := w) (o := .deferred (some [])) H.out.lt H.out.l2.below.size hi1.cl hi2.cl (by omega) (by omega) tY (by rw [HL.out.em]; omega) (by rw [HL.out.ed]; omega) (by omega) hKY rfl (.deferred none)
  have htZ : Turned w (Y.putObj D (.deferred none)) p.all := (((Turned.of_below hB7 p.all).chain HL.out.tu (fun j hj e => e.elim id (fun e => by omega))).chain tY (fun j hj e => by omega)).chain tZ (fun j hj e => by have := hB7.size; omega)
  have x0 : (Y.putObj D (.deferred none)).cell? ⟨w.heap.size + 1, 0, none⟩ = some (.slice ka kn kc) := bZ1.cell 0
  have x1 : (Y.putObj D (.deferred none)).cell? ⟨w.heap.size + 1, 1, none⟩ = some (.slice none 0 0) := bZ1.cell 1
  have x2 : (Y.putObj D (.deferred none)).cell? ⟨w.heap.size + 1, 2, none⟩ = some (.int .i64 (len : Int)) := bZ1.cell 2
  have x3 : (Y.putObj D (.deferred none)).cell? ⟨w.heap.size + 1, 3, none⟩ = some (.int .i64 (headI l)) := bZ1.cell 3
  have x4 : (Y.putObj D (.deferred none)).cell? ⟨w.heap.size + 1 + 1, 0, none⟩ = some (.int .i64 0) := bZ2.cell 0
  refine ⟨by simp, .inl ⟨_, _, rfl, run_takeDeferred hKY, ?_⟩⟩
  generalize Y.putObj D (.deferred none) = Z at hvZ htZ x0 x1 x2 x3 x4 ⊢
  refine ⟨.tuple #[.agg #[.slice ka kn kc, .slice none 0 0, .int .i64 (len : Int), .int .i64 (headI l)], .int .i64 0], by simp [results, Tryz.results58, go_sem, x0, x1, x2, x3, x4], p', P', l, kept ⟨HL.out.er, HL.out.ed, hvZ, htZ, fun j hj => (HL.out.al j hj).imp id (fun h => Nat.le_trans hB7.size h), HL.out.ad⟩, .inl ⟨rfl, kept (pieces_list HX.out.1 HL.out.pc hys)⟩⟩
 case stop =>
  rintro D cd pre W hD _ ⟨rfl, l, p', P', hL⟩ hK
  have tZ := putObj_turned W D (.deferred none)
  have bZ1 := tZ.blk hL.i1 (by omega)
  have bZ2 := tZ.blk hL.i2 (by omega)
  have hvZ := hL.vi.rowed (B := D) (by rw [hL.em]; omega) (by rw [hL.ed]; omega) (by omega) (grownBy_putObj' W D (.deferred none)) (fun k e => by cases e; exact ⟨Nat.le_refl _, _, hK, rfl⟩)
  have htZ : Turned w (W.putObj D (.deferred none)) p.all := ((Turned.of_below hB7 p.all).chain hL.tu (fun j hj e => e.elim id (fun e => by omega))).chain tZ (fun j hj e => by have := hB7.size; omega)
  have x0 : (W.putObj D (.deferred none)).cell? ⟨w.heap.size + 1, 0, none⟩ = some (.slice none 0 0) := bZ1.cell 0
  have x1 : (W.putObj D (.deferred none)).cell? ⟨w.heap.size + 1, 1, none⟩ = some (.slice none 0 0) := bZ1.cell 1
  have x2 : (W.putObj D (.deferred none)).cell? ⟨w.heap.size + 1, 2, none⟩ = some (.int .i64 0) := bZ1.cell 2
  have x3 : (W.putObj D (.deferred none)).cell? ⟨w.heap.size + 1, 3, none⟩ = some (.int .i64 0) := bZ1.cell 3
  have x4 : (W.putObj D (.deferred none)).cell? ⟨w.heap.size + 1 + 1, 0, none⟩ = some (.int .i64 9) := bZ2.cell 0
  gi_wp2
  refine ⟨by simp, .inl ⟨_, _, rfl, run_takeDeferred hK, ?_⟩⟩
  generalize W.putObj D (.deferred none) = Z at hvZ htZ x0 x1 x2 x3 x4 ⊢
  refine ⟨.tuple #[.agg #[.slice none 0 0, .slice none 0 0, .int .i64 0, .int .i64 0], .int .i64 9], by simp [results, Tryz.results58, go_sem, x0, x1, x2, x3, x4], p', P', l, kept ⟨hL.er, hL.ed, hvZ, htZ, fun j hj => (hL.al j hj).imp id (fun h => Nat.le_trans hB7.size h), hL.ad⟩, .inr ⟨rfl, kept ⟨hL.full, hL.ln⟩⟩⟩
attribute [local go_sem] Oper.semAt_some
theorem layItem_short (r : Nat) (w : World) (ka va : Option Addr) (kn kc len cap : Nat) (hlen : len ≤ 64) :
 Calls Tryz.prog 58 #[.pointer (some ⟨r, 0, none⟩), .slice ka kn kc, .slice va len cap] w fun e w' => e = .returned (.tuple #[.agg #[.slice ka kn kc, .slice va len cap, .int .i64 (len : Int), .int .i64 0], .int .i64 0]) ∧ Below w.heap.size w w' := by
 refine (callsIn_wide (n := 30)).1 ?_; refine callsIn_of_wp_marks Tryz.func58 rfl trivial ?_ rfl; simp only [Tryz.ntmps58, List.size_toArray, List.length_cons, List.length_nil, Nat.reduceAdd, Nat.reduceSub, Array.replicate_succ, Array.replicate_zero, List.push_toArray, List.append_toArray, List.nil_append, List.cons_append]; have hle : decide ((len : Int) ≤ 64) = true := by simp; omega
 gi_wp2
 exact ⟨_, by simp [results, Tryz.results58, go_sem], rfl, ((((Below.refl _ w).alloc (Nat.le_refl _) _).alloc (by simp) _).alloc (by simp; omega) _).alloc (by simp; omega) _⟩
attribute [local go_sem] Oper.semAt_some
theorem part_one (A : Option Addr) (n c : Nat) (rs : Bool) (I : List Itm) (w : World) (h : RdItems w A n I) (hn : n ≤ 100000) (u : Nat) (hu : usedN ⟨1, 0, 0, I, [], [], []⟩ = u) (h0 : 0 < u) (h1 : u ≤ 237) :
 Calls Tryz.prog 197 #[.slice A n c, .bool rs, .func (.func 57) #[] #[]] w fun e w' => ∃ g, e = .returned (.slice (some ⟨g, 0, none⟩) 1 1) ∧ Hid (Blk w' g 137 [.int .i64 1, .int .u64 0, .int .i64 0, .slice A n c, .slice none 0 0, .slice none 0 0, .slice none 0 0] ∧ w.heap.size ≤ g ∧ Below w.heap.size w w') := by
 go_enter Tryz.func197, Tryz.ntmps197; have HL := fun w => kept (leaf_any A n c w)
 have HU := fun w' (hv : RdPg w' ⟨1, 0, 0, A, n, c, none, 0, 0, none, 0, 0, none, 0, 0⟩ ⟨1, 0, 0, I, [], [], []⟩) => kept (used_any ⟨1, 0, 0, A, n, c, none, 0, 0, none, 0, 0, none, 0, 0⟩ ⟨1, 0, 0, I, [], [], []⟩ w' hv (by rw [hu]; omega))
 rw [hu] at HU; have HR : ∀ w', Below w.heap.size w w' → RdPg w' ⟨1, 0, 0, A, n, c, none, 0, 0, none, 0, 0, none, 0, 0⟩ ⟨1, 0, 0, I, [], [], []⟩ := fun w' hb => ⟨rfl, rfl, rfl, h.below hb, RdKids.nil_ _ _, Rd.nil_ _ _, RdNums.nil_ _ _, Int.le_refl 0, (by show (0 : Int) < _; omega), by show n ≤ _; omega, Nat.zero_le _, Nat.zero_le _, Nat.zero_le _⟩
 have HR := kept HR; clear h hu; have hu0 : ¬ (u : Int) = 0 := by omega
 have hu1 : (u : Int) ≤ 237 := by omega
 go_wp2_with (first | (go_at_call 57; (with_reducible refine ((HL _).out).mono ?_); rintro e w1 ⟨rfl, hb1⟩; have HB1 := kept hb1; clear hb1) | (go_at_call 148; (with_reducible refine ((HU _ (HR.out _ HB1.out)).out).mono ?_); rintro e w2 ⟨rfl, hb2⟩; have HB2 := kept (HB1.out.trans (hb2.mono HB1.out.size)); clear hb2))
 go_returns; have hb := HB2.out.trans (HB1.out.mono HB2.out.size); exact ⟨_, rfl, kept ⟨Blk.new _ _ _, hb.size, hb.alloc hb.size _⟩⟩
theorem part_noneK (A : Option Addr) (c : Nat) (rs : Bool) (w : World) :
 Calls Tryz.prog 198 #[.slice A 0 c, .bool rs, .func (.func 146) #[] #[]] w fun e w' => e = .returned (.slice none 0 0) ∧ Below w.heap.size w w' := by
 go_enter Tryz.func198, Tryz.ntmps198; have HL := fun w => kept (branch_any A 0 c w)
 have HU := fun w' => kept (used_any ⟨2, 0, 0, none, 0, 0, A, 0, c, none, 0, 0, none, 0, 0⟩ ⟨2, 0, 0, [], [], [], []⟩ w' ⟨rfl, rfl, rfl, RdItems.nil_ _ _, RdKids.nil_ _ _, Rd.nil_ _ _, RdNums.nil_ _ _, Int.le_refl 0, (by show (0 : Int) < _; omega), Nat.zero_le _, Nat.zero_le _, Nat.zero_le _, Nat.zero_le _⟩ (by decide))
 have hu : usedN ⟨2, 0, 0, [], [], [], []⟩ = 0 := rfl; rw [hu] at HU; go_wp2_with (first | (go_at_call 146; (with_reducible refine ((HL _).out).mono ?_); rintro e w1 ⟨rfl, hb1⟩; have HB1 := kept hb1; clear hb1) | (go_at_call 148; (with_reducible refine ((HU _).out).mono ?_); rintro e w2 ⟨rfl, hb2⟩; have HB2 := kept (HB1.out.trans (hb2.mono HB1.out.size)); clear hb2))
 go_returns; exact ⟨rfl, HB2.out⟩
attribute [local go_sem] Oper.semAt_some
def RwC (w : World) (A : Option Addr) (n sz : Nat) (V : List Value) : Prop := V.length = n * sz ∧ (∀ u ∈ V, u.oneCell' = true) ∧ (0 < n → ∃ a, A = some a ∧ ∀ j u, V[j]? = some u → w.cell? (a.add j) = some u)
theorem RwC.below {w w' : World} {A : Option Addr} {n sz : Nat} {V : List Value} (h : RwC w A n sz V) (hb : Below w.heap.size w w') : RwC w' A n sz V :=
 ⟨h.1, h.2.1, fun h0 => by
  obtain ⟨a, e, hc⟩ := h.2.2 h0; exact ⟨a, e, fun j u hu => (hb.cell (World.block_lt_of_cell? w _ (hc j u hu))).trans (hc j u hu)⟩⟩
theorem RwC.nil_ (w : World) (A : Option Addr) (sz : Nat) : RwC w A 0 sz [] := ⟨by simp, fun u h => by simp at h, fun h => absurd h (by omega)⟩
structure RwR (w : World) (A : Option Addr) (n sz : Nat) (B : Nat → Option Addr) (M C : Nat → Nat) (X : Nat → List Value) : Prop where
 cell : 0 < n → ∃ a, A = some a ∧ ∀ i, i < n → w.cell? (a.add i) = some (.slice (B i) (M i) (C i))
 row : ∀ i, i < n → RwC w (B i) (M i) sz (X i)
theorem RwR.below {w w' : World} {A : Option Addr} {n sz : Nat} {B : Nat → Option Addr} {M C : Nat → Nat} {X : Nat → List Value} (h : RwR w A n sz B M C X) (hb : Below w.heap.size w w') : RwR w' A n sz B M C X :=
 ⟨fun hn => by
  obtain ⟨a, e, hc⟩ := h.cell hn; exact ⟨a, e, fun i hi => (hb.cell (World.block_lt_of_cell? w _ (hc i hi))).trans (hc i hi)⟩, fun i hi => (h.row i hi).below hb⟩
def catsV (X : Nat → List Value) : Nat → List Value
 | 0 => []
 | k + 1 => catsV X k ++ X k
def cntsV (M : Nat → Nat) : Nat → Nat
 | 0 => 0
 | k + 1 => cntsV M k + M k
theorem cntsV_le (M : Nat → Nat) {k m : Nat} (h : k ≤ m) : cntsV M k ≤ cntsV M m := by
 induction m with
 | zero => obtain rfl : k = 0 := by omega
           exact Nat.le_refl _
 | succ m ih =>
   rcases Nat.lt_succ_iff_lt_or_eq.1 (Nat.lt_succ_of_le h) with h' | h'
   · have := ih (by omega); rw [show cntsV M (m + 1) = cntsV M m + M m from rfl]; omega
   · subst h'; exact Nat.le_refl _
theorem run_append_raw {P : Program} {w : World} {base : Nat} (t ty e : TypeId) {z : Value} {sz bytes : Nat} {n : Nat} {xs : List Value} {v : Value} {A : Option Addr} {m : Nat} {ys : List Value}
 (ht : P.underlying t = some (.slice e)) (hinfo : (P.info? e).map (fun i => (i.zero, i.size, i.bytes)) = some (some z, sz, bytes)) (hzs : z.cells.size = sz) (h0s : 0 < sz) (hown : w.ownsRow base e sz v n xs) (hr : RwC w A m sz ys)
 (hm : n + m ≤ 1000000) (hb : bytes ≤ 1000) (hbase : base ≤ w.heap.size) (c : Nat) :
 ∃ A' c' w', (Builtin.append_ #[t, t] ty #[v, .slice A m c]).run P w = .ok (.slice A' (n + m) c') w' ∧ w'.ownsRow base e sz (.slice A' (n + m) c') (n + m) (xs ++ ys) ∧ Below base w w' := by
 obtain ⟨i, hi, hz, hsz, hby⟩ := info_parts hinfo; rcases Nat.eq_zero_or_pos m with h0 | h0
 · subst h0; obtain rfl : ys = [] := List.eq_nil_of_length_eq_zero (by rw [hr.1, Nat.zero_mul]); have hrun : (Builtin.append_ #[t, t] ty #[v, .slice A 0 c]).run P w = .ok v w := by
    rcases hown.2 with ⟨rfl, rfl⟩ | ⟨g, cap, cur, rfl, _, _, hnc, _⟩
    · cases A <;> simp [Builtin.append_, run_underlying ht, sizeOf, typeInfo, hi, Builtin.lenOf, Builtin.firstCells, loadCells, loadCellsFrom]
    · cases A <;> simp [Builtin.append_, run_underlying ht, sizeOf, typeInfo, hi, Builtin.lenOf, Builtin.firstCells, loadCells, loadCellsFrom, hnc, storeCells]
   have hv : ∃ A' c', v = .slice A' n c' := by
    rcases hown.2 with ⟨rfl, rfl⟩ | ⟨g, cap, cur, rfl, _⟩
    · exact ⟨_, _, rfl⟩
    · exact ⟨_, _, rfl⟩
   obtain ⟨A', c', rfl⟩ := hv; exact ⟨A', c', w, hrun, by simpa using hown, Below.refl _ _⟩
 · obtain ⟨a, rfl, hc⟩ := hr.2.2 h0; have hbb : (n + m) * bytes ≤ 140737488355328 := Nat.le_trans (Nat.mul_le_mul hm hb) (by decide); obtain ⟨v', w', hrun, hown', hgrow, _⟩ := run_append_own_at (P := P) w base t ty e i z sz bytes ht hi hz hsz hby hzs h0s v n xs hown a m c ys hr.1 hc hr.2.1 (by unfold maxLen; omega) hbb hbase; have hv : ∃ A' c', v' = .slice A' (n + m) c' := by
    rcases hown'.2 with ⟨rfl, h⟩ | ⟨g, cap, cur, rfl, _⟩
    · omega
    · exact ⟨_, _, rfl⟩
   obtain ⟨A', c', rfl⟩ := hv; exact ⟨A', c', w', hrun, hown', (Below.refl base w).grown hgrow hbase (fun k hk => (hown.lt k hk).1)⟩
theorem wpList_append_raw {P : Program} {w : World} {ops : Array Oper} {rest : List Oper} {o : Oper} {a : Act} {Q : Exit → Act → World → Prop} (hgd : o.guard = none) (s x : Operand) (t : TypeId)
 (ho : o.op = .call { callee := .builtin .append, args := #[s, x], argTypes := #[t, t] })
 (base : Nat) (e : TypeId) {z : Value} {sz bytes : Nat} {n : Nat} {xs : List Value} {v : Value} {A : Option Addr} {m c : Nat} {ys : List Value} (hs : a.eval s = v) (hx : a.eval x = .slice A m c)
 (ht : P.underlying t = some (.slice e)) (hinfo : (P.info? e).map (fun i => (i.zero, i.size, i.bytes)) = some (some z, sz, bytes)) (hzs : z.cells.size = sz) (h0s : 0 < sz) (hb : bytes ≤ 1000) (hown : w.ownsRow base e sz v n xs) (hr : RwC w A m sz ys)
 (hm : n + m ≤ 1000000) (hbase : base ≤ w.heap.size)
 (h : ∀ A' c' w', w'.ownsRow base e sz (.slice A' (n + m) c') (n + m) (xs ++ ys) → Below base w w' → wpList P ops Q rest (a.put o.dst (.slice A' (n + m) c')) w') : wpList P ops Q (o :: rest) a w := by
 refine wpList_plain hgd fun _ hK => ?_
 obtain ⟨A', c', w', hrun, h2, h3⟩ := run_append_raw (P := P) t o.type e ht hinfo hzs h0s hown hr hm hb hbase c; unfold Oper.wp execOp; simp only [ho, resolve, invoke, builtin, Sem.run_bind, Sem.run_pure, Result.andThen_ok, List.map_toArray, List.map_cons, List.map_nil, hs, hx, hrun]; exact hK _ _ (h A' c' w' h2 h3)
theorem own_empty_raw (w : World) (g cap sz : Nat) (Z : Array Value) (e : TypeId) (h : w.heap[g]? = some (.cells Z e (0, 0))) (hz : Z.size = cap * sz) (hc : cap ≤ maxLen) {base : Nat} (hb : base ≤ g) : w.ownsRow base e sz (.slice (some ⟨g, 0, none⟩) 0 cap) 0 [] :=
 ⟨by simp, .inr ⟨g, cap, Z, rfl, hb, h, Nat.zero_le _, hc, by omega, by simp⟩⟩
theorem pageinfo7 : (Tryz.prog.info? 137).map (fun i => (i.zero, i.size, i.bytes)) = some (some (.agg #[.int .i64 0, .int .u64 0, .int .i64 0, .slice none 0 0, .slice none 0 0, .slice none 0 0, .slice none 0 0]), 7, 120) := by kernel_rfl
theorem growP (n : Nat) (w : World) (hn : n ≤ 1000000) :
 Calls Tryz.prog 241 #[.slice none 0 0, .int .i64 (n : Int)] w fun e w' => ∃ A c, e = .returned (.slice A 0 c) ∧ w'.ownsRow w.heap.size 137 7 (.slice A 0 c) 0 [] ∧ Below w.heap.size w w' := by
 rcases Nat.eq_zero_or_pos n with h0 | h0
 · subst h0; go_enter Tryz.func241, Tryz.ntmps241; go_wp2; go_ret; exact ⟨none, 0, rfl, World.ownsRow_nil _ _ _ _, Below.refl _ _⟩
 · obtain ⟨i0, hi, hz0, hz1, hz2⟩ := info_parts pageinfo7; have happ := Lib.run_append_nil_zeros (P := Tryz.prog) w 297 3 297 137 i0 (.agg #[.int .i64 0, .int .u64 0, .int .i64 0, .slice none 0 0, .slice none 0 0, .slice none 0 0, .slice none 0 0] : Value) .i64 .i64 Tryz.underlying297 Tryz.underlying3 hi hz0 n h0 (by omega) (by omega) (by rw [hz2]; omega); have hcap := grownCap_ge w n 0 137; have hcm := grownCap_le_maxLen w n 0 137 (by unfold maxLen; omega); have hZ : (Builtin.zeroCells (.agg #[.int .i64 0, .int .u64 0, .int .i64 0, .slice none 0 0, .slice none 0 0, .slice none 0 0, .slice none 0 0] : Value).cells n ++ Builtin.zeroCells (.agg #[.int .i64 0, .int .u64 0, .int .i64 0, .slice none 0 0, .slice none 0 0, .slice none 0 0, .slice none 0 0] : Value).cells (grownCap w n 0 137 - n)).size = grownCap w n 0 137 * 7 := by
    rw [Array.size_append, size_zeroCells, size_zeroCells]; simp [Value.cells]; omega
   generalize (Builtin.zeroCells (.agg #[.int .i64 0, .int .u64 0, .int .i64 0, .slice none 0 0, .slice none 0 0, .slice none 0 0, .slice none 0 0] : Value).cells n ++ Builtin.zeroCells (.agg #[.int .i64 0, .int .u64 0, .int .i64 0, .slice none 0 0, .slice none 0 0, .slice none 0 0, .slice none 0 0] : Value).cells (grownCap w n 0 137 - n)) = Z at happ hZ; generalize grownCap w n 0 137 = G at happ hcap hcm hZ; have hown := kept (own_empty_raw (w.drew.alloc (.cells Z 137)) w.heap.size G 7 Z 137 (heap_alloc_new w.drew (.cells Z 137)) hZ hcm (Nat.le_refl _)); have hb := kept ((Below.refl w.heap.size w).drew.alloc (Nat.le_refl _) (.cells Z 137)); have hG : G ≤ 9223372036854775807 := by unfold maxLen at hcm; omega
   clear hZ hcm; go_enter Tryz.func241, Tryz.ntmps241; go_wp2_with (at_builtin; refine Lib.wpList_append_run _ rfl _ _ _ _ rfl _ _ rfl rfl _ _ happ ?_)
   go_ret; exact ⟨_, _, rfl, hown.out, hb.out⟩
theorem concatP (A : Option Addr) (n c : Nat) (B : Nat → Option Addr) (M C : Nat → Nat) (X : Nat → List Value) (w : World) (hr : RwR w A n 7 B M C X) (hn : n ≤ 1000000) (hl : cntsV M n ≤ 1000000) :
 Calls Tryz.prog 196 #[.slice A n c] w fun e w' => ∃ A' c', e = .returned (.slice A' (cntsV M n) c') ∧ w'.ownsRow w.heap.size 137 7 (.slice A' (cntsV M n) c') (cntsV M n) (catsV X n) ∧ Below w.heap.size w w' := by
 have HR := kept hr; have HL := kept hl; clear hr hl; go_enter Tryz.func196, Tryz.ntmps196; go_wp2; go_loop [3, 11] (fun v i => ∃ k : Nat, k ≤ n ∧ i = .int .i64 k ∧ v = .int .i64 ((cntsV M k : Nat) : Int)) (fun _ i => n - (intOf i).toNat)
 case atStart => exact ⟨0, by omega, rfl, rfl⟩
 case round =>
  obtain ⟨k, hk, rfl, rfl⟩ := hrel; by_cases hlt : k < n
  · obtain ⟨a, ea, hca⟩ := HR.out.cell (by omega); subst ea; have hck := hca k hlt; have HN : Hid (cntsV M (k + 1) = cntsV M k + M k) := rfl; have hle := cntsV_le M (Nat.succ_le_of_lt hlt); have HLE := Nat.le_trans hle HL.out; rw [show k.succ = k + 1 from rfl, HN.out] at HLE; generalize cntsV M k = u at HN HLE; generalize M k = v at HN HLE hck; have hneg : decide (((u : Int) + (v : Int)) < 0) = false := by simp; omega
    have hwr : IntKind.i64.wrap ((u : Int) + (v : Int)) = (u : Int) + (v : Int) := IntWalk.i64_in _ ⟨by omega, by omega⟩; clear hle hca; go_wp2; go_round
    case rel => exact ⟨k + 1, by omega, by go_num, by rw [HN.out]; simp⟩
    case measure => simp [intOf]; omega
  · obtain rfl : k = n := by omega
    have HG := kept (growP (cntsV M k) w HL.out); go_wp2_with (first | (go_at_call 241; (with_reducible refine (HG.out).mono ?_); rintro e w1 ⟨A1, c1, rfl, hown, hb⟩; have HO := kept hown; have HB := kept hb; clear hown hb))
    have HRW := kept (HR.out.below HB.out); have HSZ := kept HB.out.size; go_loopw [6, 27] (fun o i wr => ∃ (j : Nat) (A2 : Option Addr) (c2 : Nat), j ≤ k ∧ i = .int .i64 j ∧ o = .slice A2 (cntsV M j) c2 ∧ Hid (wr.ownsRow w.heap.size 137 7 (.slice A2 (cntsV M j) c2) (cntsV M j) (catsV X j)) ∧ Below w.heap.size w wr) (fun _ i _ => k - (intOf i).toNat)
    case atStart => exact ⟨0, A1, c1, by omega, rfl, rfl, HO, HB.out⟩
    case round =>
     obtain ⟨j, A2, c2, hj, rfl, rfl, hown, hbw⟩ := hrel; by_cases hjk : j < k
     · have HRR := HR.out.below hbw; obtain ⟨a, ea, hca⟩ := HRR.cell (by omega); subst ea; have hcj := hca j hjk; have HN : Hid (cntsV M (j + 1) = cntsV M j + M j) := rfl; have HCAT : Hid (catsV X (j + 1) = catsV X j ++ X j) := rfl; have HLE := kept (show cntsV M j + M j ≤ 1000000 by
        have hle := cntsV_le M (Nat.succ_le_of_lt hjk); have h2 := Nat.le_trans hle HL.out; rw [show j.succ = j + 1 from rfl, HN.out] at h2; exact h2)
       have HROW := kept (HRR.row j hjk); have HBW := kept hbw; clear hca HRR hbw; go_wp2_with (first | (at_builtin; refine wpList_append_raw rfl _ _ 297 rfl w.heap.size 137 rfl rfl Tryz.underlying297 pageinfo7 rfl (by decide) (by decide) hown.out HROW.out HLE.out HBW.out.size ?_; intro A3 c3 w3 hown3 hb3; have HO3 := kept hown3; have HB3 := kept (HBW.out.trans hb3); clear hown3 hb3))
       go_roundw
       case rel => exact ⟨j + 1, A3, c3, by omega, by go_num, by rw [HN.out], by rw [HN.out, HCAT.out]; exact HO3, HB3.out⟩
       case measure => simp [intOf]; omega
     · obtain rfl : j = k := by omega
       go_wp2; go_ret; exact ⟨A2, c2, rfl, hown.out, hbw⟩
theorem growI (n : Nat) (w : World) (hn : n ≤ 1000000) :
 Calls Tryz.prog 88 #[.slice none 0 0, .int .i64 (n : Int)] w fun e w' => ∃ A c, e = .returned (.slice A 0 c) ∧ w'.ownsRow w.heap.size 3 1 (.slice A 0 c) 0 [] ∧ Below w.heap.size w w' := by
 rcases Nat.eq_zero_or_pos n with h0 | h0
 · subst h0; go_enter Tryz.func88, Tryz.ntmps88; go_wp2; go_ret; exact ⟨none, 0, rfl, World.ownsRow_nil _ _ _ _, Below.refl _ _⟩
 · obtain ⟨i0, hi, hz0, hz1, hz2⟩ := info_parts intinfo; have happ := Lib.run_append_nil_zeros (P := Tryz.prog) w 60 3 60 3 i0 (.int .i64 0 : Value) .i64 .i64 Tryz.underlying60 Tryz.underlying3 hi hz0 n h0 (by omega) (by omega) (by rw [hz2]; omega); have hcap := grownCap_ge w n 0 3; have hcm := grownCap_le_maxLen w n 0 3 (by unfold maxLen; omega); have hZ : (Builtin.zeroCells (.int .i64 0 : Value).cells n ++ Builtin.zeroCells (.int .i64 0 : Value).cells (grownCap w n 0 3 - n)).size = grownCap w n 0 3 * 1 := by
    rw [Array.size_append, size_zeroCells, size_zeroCells]; simp [Value.cells]; omega
   generalize (Builtin.zeroCells (.int .i64 0 : Value).cells n ++ Builtin.zeroCells (.int .i64 0 : Value).cells (grownCap w n 0 3 - n)) = Z at happ hZ; generalize grownCap w n 0 3 = G at happ hcap hcm hZ; have hown := kept (own_empty_raw (w.drew.alloc (.cells Z 3)) w.heap.size G 1 Z 3 (heap_alloc_new w.drew (.cells Z 3)) hZ hcm (Nat.le_refl _)); have hb := kept ((Below.refl w.heap.size w).drew.alloc (Nat.le_refl _) (.cells Z 3)); have hG : G ≤ 9223372036854775807 := by unfold maxLen at hcm; omega
   clear hZ hcm; go_enter Tryz.func88, Tryz.ntmps88; go_wp2_with (at_builtin; refine Lib.wpList_append_run _ rfl _ _ _ _ rfl _ _ rfl rfl _ _ happ ?_)
   go_ret; exact ⟨_, _, rfl, hown.out, hb.out⟩
theorem concatI (A : Option Addr) (n c : Nat) (B : Nat → Option Addr) (M C : Nat → Nat) (X : Nat → List Value) (w : World) (hr : RwR w A n 1 B M C X) (hn : n ≤ 1000000) (hl : cntsV M n ≤ 1000000) :
 Calls Tryz.prog 50 #[.slice A n c] w fun e w' => ∃ A' c', e = .returned (.slice A' (cntsV M n) c') ∧ w'.ownsRow w.heap.size 3 1 (.slice A' (cntsV M n) c') (cntsV M n) (catsV X n) ∧ Below w.heap.size w w' := by
 have HR := kept hr; have HL := kept hl; clear hr hl; go_enter Tryz.func50, Tryz.ntmps50; go_wp2; go_loop [3, 11] (fun v i => ∃ k : Nat, k ≤ n ∧ i = .int .i64 k ∧ v = .int .i64 ((cntsV M k : Nat) : Int)) (fun _ i => n - (intOf i).toNat)
 case atStart => exact ⟨0, by omega, rfl, rfl⟩
 case round =>
  obtain ⟨k, hk, rfl, rfl⟩ := hrel; by_cases hlt : k < n
  · obtain ⟨a, ea, hca⟩ := HR.out.cell (by omega); subst ea; have hck := hca k hlt; have HN : Hid (cntsV M (k + 1) = cntsV M k + M k) := rfl; have hle := cntsV_le M (Nat.succ_le_of_lt hlt); have HLE := Nat.le_trans hle HL.out; rw [show k.succ = k + 1 from rfl, HN.out] at HLE; generalize cntsV M k = u at HN HLE; generalize M k = v at HN HLE hck; have hneg : decide (((u : Int) + (v : Int)) < 0) = false := by simp; omega
    have hwr : IntKind.i64.wrap ((u : Int) + (v : Int)) = (u : Int) + (v : Int) := IntWalk.i64_in _ ⟨by omega, by omega⟩; clear hle hca; go_wp2; go_round
    case rel => exact ⟨k + 1, by omega, by go_num, by rw [HN.out]; simp⟩
    case measure => simp [intOf]; omega
  · obtain rfl : k = n := by omega
    have HG := kept (growI (cntsV M k) w HL.out); go_wp2_with (first | (go_at_call 88; (with_reducible refine (HG.out).mono ?_); rintro e w1 ⟨A1, c1, rfl, hown, hb⟩; have HO := kept hown; have HB := kept hb; clear hown hb))
    have HRW := kept (HR.out.below HB.out); have HSZ := kept HB.out.size; go_loopw [6, 27] (fun o i wr => ∃ (j : Nat) (A2 : Option Addr) (c2 : Nat), j ≤ k ∧ i = .int .i64 j ∧ o = .slice A2 (cntsV M j) c2 ∧ Hid (wr.ownsRow w.heap.size 3 1 (.slice A2 (cntsV M j) c2) (cntsV M j) (catsV X j)) ∧ Below w.heap.size w wr) (fun _ i _ => k - (intOf i).toNat)
    case atStart => exact ⟨0, A1, c1, by omega, rfl, rfl, HO, HB.out⟩
    case round =>
     obtain ⟨j, A2, c2, hj, rfl, rfl, hown, hbw⟩ := hrel; by_cases hjk : j < k
     · have HRR := HR.out.below hbw; obtain ⟨a, ea, hca⟩ := HRR.cell (by omega); subst ea; have hcj := hca j hjk; have HN : Hid (cntsV M (j + 1) = cntsV M j + M j) := rfl; have HCAT : Hid (catsV X (j + 1) = catsV X j ++ X j) := rfl; have HLE := kept (show cntsV M j + M j ≤ 1000000 by
        have hle := cntsV_le M (Nat.succ_le_of_lt hjk); have h2 := Nat.le_trans hle HL.out; rw [show j.succ = j + 1 from rfl, HN.out] at h2; exact h2)
       have HROW := kept (HRR.row j hjk); have HBW := kept hbw; clear hca HRR hbw; go_wp2_with (first | (at_builtin; refine wpList_append_raw rfl _ _ 60 rfl w.heap.size 3 rfl rfl Tryz.underlying60 intinfo rfl (by decide) (by decide) hown.out HROW.out HLE.out HBW.out.size ?_; intro A3 c3 w3 hown3 hb3; have HO3 := kept hown3; have HB3 := kept (HBW.out.trans hb3); clear hown3 hb3))
       go_roundw
       case rel => exact ⟨j + 1, A3, c3, by omega, by go_num, by rw [HN.out], by rw [HN.out, HCAT.out]; exact HO3, HB3.out⟩
       case measure => simp [intOf]; omega
     · obtain rfl : j = k := by omega
       go_wp2; go_ret; exact ⟨A2, c2, rfl, hown.out, hbw⟩
attribute [local go_sem] Oper.semAt_some
theorem iteminfo4 : (Tryz.prog.info? 149).map (fun i => (i.zero, i.size, i.bytes)) = some (some (.agg #[.slice none 0 0, .slice none 0 0, .int .i64 0, .int .i64 0]), 4, 64) := by kernel_rfl
theorem own_set {w : World} {base size g n cap : Nat} {e : TypeId} {xs : List Value} (h : w.ownsRow base e size (.slice (some ⟨g, 0, none⟩) n cap) n xs) (i : Nat) (u : Value) (hi : n * size ≤ i) : (w.setCell ⟨g, i, none⟩ u).ownsRow base e size (.slice (some ⟨g, 0, none⟩) n cap) n xs := by
 rcases h.2 with ⟨h0, _⟩ | ⟨g', cap', cur, hv, hbg, hg, hnc, hcm, hcs, htake⟩
 · simp at h0
 · simp only [Value.slice.injEq, Option.some.injEq, Addr.mk.injEq, and_true, true_and] at hv; obtain ⟨rfl, rfl⟩ := hv; have hB : Blk w g e cur.toList := by simpa [Blk] using hg
   have h2 := hB.set_ i u; refine ⟨h.1, .inr ⟨g, cap, (cur.toList.set i u).toArray, rfl, hbg, by simpa [Blk] using h2, hnc, hcm, by simpa using hcs, ?_⟩⟩; rw [show ((cur.toList.set i u).toArray).toList = cur.toList.set i u from rfl, List.take_set_of_le hi]; exact htake
theorem own_blk {w : World} {base size g n cap : Nat} {e : TypeId} {xs : List Value} (h : w.ownsRow base e size (.slice (some ⟨g, 0, none⟩) n cap) n xs) : ∃ cs, Blk w g e cs ∧ cs.length = cap * size ∧ n ≤ cap ∧ cap ≤ maxLen ∧ base ≤ g := by
 rcases h.2 with ⟨h0, _⟩ | ⟨g', cap', cur, hv, hbg, hg, hnc, hcm, hcs, htake⟩
 · simp at h0
 · simp only [Value.slice.injEq, Option.some.injEq, Addr.mk.injEq, and_true, true_and] at hv; obtain ⟨rfl, rfl⟩ := hv; exact ⟨cur.toList, by simpa [Blk] using hg, by simpa using hcs, hnc, hcm, hbg⟩
theorem run_clear_item (w : World) (g o c : Nat) (ty : TypeId) (cs : List Value) (h : Blk w g 149 cs) (ho : o + 4 ≤ cs.length) :
 (Builtin.clear_ #[134] ty #[.slice (some ⟨g, o, none⟩) 1 c]).run Tryz.prog w = .ok (.tuple #[]) ((((w.setCell ⟨g, o, none⟩ (.slice none 0 0)).setCell ⟨g, o + 1, none⟩ (.slice none 0 0)).setCell ⟨g, o + 2, none⟩ (.int .i64 0)).setCell ⟨g, o + 3, none⟩ (.int .i64 0)) := by
 have hst := run_storeCells_cells (P := Tryz.prog) g o [.slice none 0 0, .slice none 0 0, .int .i64 0, .int .i64 0] 0 w (by
  intro j hj; rw [h.cell, List.getElem?_eq_getElem (by simp at hj; omega)]
  rfl) (fun j hj => h.frozen _) (by intro v hv; simp at hv; rcases hv with rfl | rfl <;> rfl)
 have hz : ∀ w, (zeroValue 149).run Tryz.prog w = .ok (.agg #[.slice none 0 0, .slice none 0 0, .int .i64 0, .int .i64 0]) w := fun w => (zero_of_info (show (Tryz.prog.info? 149).map (fun i => (i.zero, i.size)) = some (some (.agg #[.slice none 0 0, .slice none 0 0, .int .i64 0, .int .i64 0]), 4) by kernel_rfl)).1 w
 have hzc : (Builtin.zeroCells (Value.agg #[.slice none 0 0, .slice none 0 0, .int .i64 0, .int .i64 0]).cells 1).toList = [.slice none 0 0, .slice none 0 0, .int .i64 0, .int .i64 0] := by
  have e : (Value.agg #[.slice none 0 0, .slice none 0 0, .int .i64 0, .int .i64 0]).cells = #[.slice none 0 0, .slice none 0 0, .int .i64 0, .int .i64 0] := by simp [Value.cells]
  rw [e]; simp [Builtin.zeroCells, Array.ofFn, List.range, List.range.loop, Array.range]
  try rfl
 have ht := Tryz.underlying134; simp [Builtin.clear_, run_underlying ht, hz, hzc, hst]; rfl
def clr4 (w : World) (g o : Nat) : World := (((w.setCell ⟨g, o, none⟩ (.slice none 0 0)).setCell ⟨g, o + 1, none⟩ (.slice none 0 0)).setCell ⟨g, o + 2, none⟩ (.int .i64 0)).setCell ⟨g, o + 3, none⟩ (.int .i64 0)
theorem gb_set {a w : World} {b : Nat} (h : a.grownBy w (some b)) (i : Nat) (v : Value) : a.grownBy (w.setCell ⟨b, i, none⟩ v) (some b) :=
 ⟨h.os, h.tape, h.output, by simpa [World.setCell] using h.size, fun k hk hne => (Below.heap_setCell w _ v k (fun e => hne (by rw [e]))).trans (h.block k hk hne)⟩
theorem step_append_ran {P : Program} {ops : Array Oper} {o : Oper} {a : Act} {w : World} {K : Act → World → Prop} {Q : Exit → Act → World → Prop} {E : Prop}
 (hg : o.guard = none) (s x : Operand) (t : TypeId) (hop : o.op = Op.call { callee := Callee.builtin Builtin.append, args := #[s, x], argTypes := #[t, t] }) (v u : Value) (hs : a.eval s = v) (hx : a.eval x = u) {v' : Value} {w' : World}
 (hr : (Builtin.append_ #[t, t] o.type #[v, u]).run P w = .ok v' w') (hK : K (a.put o.dst v') w') : if Region.wanted o (yielded ops a.tmps) = true then Oper.wp P o a w K Q else E := by
 rw [if_pos (by simp [Region.wanted, hg])]; unfold Oper.wp; simp [execOp, hop, resolve, invoke, builtin, hs, hx, hr, Result.andThen]; exact hK
theorem delete_one (g n c i : Nat) (V : List Value) (base : Nat) (w : World) (h : w.ownsRow base 149 4 (.slice (some ⟨g, 0, none⟩) (n + 1) c) (n + 1) V) (h1c : ∀ u ∈ V, u.oneCell' = true) (hi : i ≤ n) (hn : n ≤ 100000) :
 Calls Tryz.prog 98 #[.slice (some ⟨g, 0, none⟩) (n + 1) c, .int .i64 (i : Int), .int .i64 ((i : Int) + 1)] w fun e w' => e = .returned (.slice (some ⟨g, 0, none⟩) n c) ∧ w'.ownsRow base 149 4 (.slice (some ⟨g, 0, none⟩) n c) n (V.take (i * 4) ++ V.drop ((i + 1) * 4)) ∧ w.grownBy w' (some g) := by
 obtain ⟨cs, hcs, hcl, hnc, hcm, hbg⟩ := own_blk h; have hlen := h.1; have hpre : w.ownsRow base 149 4 (.slice (some ⟨g, 0, none⟩) i c) i (V.take (i * 4)) := by
  rcases h.2 with ⟨h0, _⟩ | ⟨g', cap', cur, hv, hbg', hg, hnc', hcm', hcs', htake⟩
  · simp at h0
  · simp only [Value.slice.injEq, Option.some.injEq, Addr.mk.injEq, and_true, true_and] at hv; obtain ⟨rfl, rfl⟩ := hv; refine ⟨by rw [List.length_take, hlen]; omega, .inr ⟨g, c, cur, rfl, hbg', hg, by omega, hcm', hcs', ?_⟩⟩; rw [← htake, List.take_take]
    congr 1
    omega
 obtain ⟨i0, hi0, hz0, hz1, hz2⟩ := info_parts iteminfo4; obtain ⟨ad, had, hsrc⟩ : ∃ ad : Addr, (if c = i + 1 then some (⟨g, 0, none⟩ : Addr) else some ⟨g, (i + 1) * 4, none⟩) = some ad ∧ ∀ j u, (V.drop ((i + 1) * 4))[j]? = some u → w.cell? (ad.add j) = some u := by
  by_cases hc1 : c = i + 1
  · refine ⟨⟨g, 0, none⟩, by rw [if_pos hc1], fun j u hu => ?_⟩; have hj := (List.getElem?_eq_some_iff.1 hu).1; rw [List.length_drop, hlen] at hj; omega
  refine ⟨⟨g, (i + 1) * 4, none⟩, by rw [if_neg hc1], fun j u hu => ?_⟩; have hj := (List.getElem?_eq_some_iff.1 hu).1; rw [List.length_drop, hlen] at hj; rw [add_at]; rw [List.getElem?_drop] at hu; have := h.cells (g := g) rfl _ _ hu; rw [add_at, Nat.zero_add] at this; exact this
 obtain ⟨w1, hrun, how, hgr⟩ := run_append_fits (P := Tryz.prog) w.drew base 134 134 149 i0 4 Tryz.underlying134 hi0 hz1 g i c _ hpre.drew ad (n - i) (c - (i + 1)) (V.drop ((i + 1) * 4)) (by rw [List.length_drop, hlen]; omega) hsrc (fun u hu => h1c u (List.mem_of_mem_drop hu)) (by omega); have hin : i + (n - i) = n := by omega
 rw [hin] at hrun how; obtain ⟨cs1, hb1, hl1, _, _, _⟩ := own_blk how; have HO := kept how; have HG : Hid (w.grownBy w1 (some g)) := kept ⟨hgr.os, hgr.tape, hgr.output, hgr.size, hgr.block⟩; have HB1 := kept hb1; have HL1 := kept (show n * 4 + 4 ≤ cs1.length by omega); have hic : i ≤ c := by omega
 have hjc : i + 1 ≤ c := by omega
 have hmi : n + 1 - (i + 1) = n - i := by omega
 have h0i : (0 : Int) ≤ (i : Int) + 1 := by omega
 have HR := kept hrun; clear hcs hcl hlen hpre hsrc hrun how hgr hb1 hl1 h hbg hi0 hz0 hz1 hz2; have hcm' : (c : Int) ≤ 9223372036854775807 := by unfold maxLen at hcm; omega
 have hwr : IntKind.i64.wrap ((n : Int) + 1) = (n : Int) + 1 := IntWalk.i64_in _ ⟨by omega, by omega⟩; go_enter Tryz.func98, Tryz.ntmps98; have hclr : (Builtin.clear_ #[134] 0 #[.slice (some ⟨g, n * 4, none⟩) 1 (c - n)]).run Tryz.prog w1 = .ok (.tuple #[]) (clr4 w1 g (n * 4)) := run_clear_item w1 g (n * 4) (c - n) 0 cs1 HB1.out HL1.out; go_wp2
 go_region_law (refine step_append_ran rfl _ _ _ rfl _ _ rfl rfl HR.out ?_)
 go_wp2; go_returns; exact ⟨rfl, own_set (own_set (own_set (own_set HO.out _ _ (Nat.le_refl _)) _ _ (by omega)) _ _ (by omega)) _ _ (by omega), gb_set (gb_set (gb_set (gb_set HG.out _ _) _ _) _ _) _ _⟩
attribute [local go_sem] Oper.semAt_some
def pathV (A : Option Addr) (n c : Nat) (B : Option Addr) (m d : Nat) (l : Lay) : Value := .agg #[.slice A n c, .slice B m d, .int .i64 l.kind, .int .u64 l.txn, .int .i64 l.next, .slice l.a1 l.n1 l.c1, .slice l.a2 l.n2 l.c2, .slice l.a3 l.n3 l.c3, .slice l.a4 l.n4 l.c4]
theorem index_none (A : Option Addr) (c : Nat) (f : Value) (w : World) :
 Calls Tryz.prog 153 #[.slice A 0 c, f] w fun e w' => e = .returned (.int .i64 (-1)) ∧ Below w.heap.size w w' := by
 go_enter Tryz.func153, Tryz.ntmps153; go_wp2; refine wp_loop_rounds 1 ?_; rw [rounds_succ]; go_wp2; go_ret; exact ⟨rfl, Below.refl _ _⟩
theorem contains_none (A : Option Addr) (c : Nat) (f : Value) (w : World) :
 Calls Tryz.prog 106 #[.slice A 0 c, f] w fun e w' => e = .returned (.bool false) ∧ Below w.heap.size w w' := by
 have HI := fun w => kept (index_none A c f w)
 go_enter Tryz.func106, Tryz.ntmps106; go_wp2_with (first | (go_at_call 153; (with_reducible refine ((HI _).out).mono ?_); rintro e w1 ⟨rfl, hb1⟩; have HB1 := kept hb1; clear hb1))
 go_returns; exact ⟨rfl, HB1.out⟩
theorem last_none (A B : Option Addr) (n c d : Nat) (l : Lay) (w : World) :
 Calls Tryz.prog 59 #[pathV A n c B 0 d l] w fun e w' => e = .returned (.bool true) ∧ Below w.heap.size w w' := by
 have HI := fun w f => kept (contains_none B d f w)
 obtain ⟨kind, txn, next, a1, n1, c1, a2, n2, c2, a3, n3, c3, a4, n4, c4⟩ := l; show Calls _ _ #[.agg #[.slice A n c, .slice B 0 d, .int .i64 kind, .int .u64 txn, .int .i64 next, .slice a1 n1 c1, .slice a2 n2 c2, .slice a3 n3 c3, .slice a4 n4 c4]] _ _; go_enter Tryz.func59, Tryz.ntmps59; go_wp2_with (first | (go_at_call 106; (with_reducible refine ((HI _ _).out).mono ?_); rintro e w1 ⟨rfl, hb1⟩; have HB1 := kept hb1; clear hb1))
 go_returns; exact ⟨rfl, ((Below.refl _ w).alloc (Nat.le_refl _) _).trans (HB1.out.mono (by simp))⟩
attribute [local go_sem] Oper.semAt_some
theorem descend_none (r : Nat) (A : Option Addr) (n c : Nat) (w : World) :
 Calls Tryz.prog 52 #[.pointer (some ⟨r, 0, none⟩), .int .i64 0, .slice A n c] w fun e w' => e = .returned (.tuple #[pathV none 0 0 none 0 0 ⟨0, 0, 0, none, 0, 0, none, 0, 0, none, 0, 0, none, 0, 0⟩, .int .i64 0]) ∧ Below w.heap.size w w' := by
 go_enter Tryz.func52, Tryz.ntmps52; go_wp2; refine wp_loop_rounds 1 ?_; rw [rounds_succ]; go_wp2; have hk := ((Blk.new w 139 #[.slice none 0 0, .slice none 0 0, .int .i64 0, .int .u64 0, .int .i64 0, .slice none 0 0, .slice none 0 0, .slice none 0 0, .slice none 0 0]).alloc (.cells #[.slice none 0 0, .slice none 0 0, .int .i64 0, .int .u64 0, .int .i64 0, .slice none 0 0, .slice none 0 0, .slice none 0 0, .slice none 0 0] 139)).alloc (.cells #[.slice none 0 0, .int .i64 0] 131); have hB : Below w.heap.size w (((w.alloc (.cells #[.slice none 0 0, .slice none 0 0, .int .i64 0, .int .u64 0, .int .i64 0, .slice none 0 0, .slice none 0 0, .slice none 0 0, .slice none 0 0] 139)).alloc (.cells #[.slice none 0 0, .slice none 0 0, .int .i64 0, .int .u64 0, .int .i64 0, .slice none 0 0, .slice none 0 0, .slice none 0 0, .slice none 0 0] 139)).alloc (.cells #[.slice none 0 0, .int .i64 0] 131)) := (((Below.refl _ w).alloc (Nat.le_refl _) _).alloc (by simp) _).alloc (by simp; omega) _; generalize (((w.alloc (.cells #[.slice none 0 0, .slice none 0 0, .int .i64 0, .int .u64 0, .int .i64 0, .slice none 0 0, .slice none 0 0, .slice none 0 0, .slice none 0 0] 139)).alloc (.cells #[.slice none 0 0, .slice none 0 0, .int .i64 0, .int .u64 0, .int .i64 0, .slice none 0 0, .slice none 0 0, .slice none 0 0, .slice none 0 0] 139)).alloc (.cells #[.slice none 0 0, .int .i64 0] 131)) = W at hk hB ⊢; have x0 : W.cell? ⟨w.heap.size, 0, none⟩ = some (.slice none 0 0) := hk.cell 0; have x1 : W.cell? ⟨w.heap.size, 1, none⟩ = some (.slice none 0 0) := hk.cell 1; have x2 : W.cell? ⟨w.heap.size, 2, none⟩ = some (.int .i64 0) := hk.cell 2; have x3 : W.cell? ⟨w.heap.size, 3, none⟩ = some (.int .u64 0) := hk.cell 3; have x4 : W.cell? ⟨w.heap.size, 4, none⟩ = some (.int .i64 0) := hk.cell 4; have x5 : W.cell? ⟨w.heap.size, 5, none⟩ = some (.slice none 0 0) := hk.cell 5
 have x6 : W.cell? ⟨w.heap.size, 6, none⟩ = some (.slice none 0 0) := hk.cell 6; have x7 : W.cell? ⟨w.heap.size, 7, none⟩ = some (.slice none 0 0) := hk.cell 7; have x8 : W.cell? ⟨w.heap.size, 8, none⟩ = some (.slice none 0 0) := hk.cell 8; exact bodyPost_ret (v := .tuple #[pathV none 0 0 none 0 0 ⟨0, 0, 0, none, 0, 0, none, 0, 0, none, 0, 0, none, 0, 0⟩, .int .i64 0]) (by simp [results, Tryz.results52, go_sem, pathV, x0, x1, x2, x3, x4, x5, x6, x7, x8]) rfl ⟨rfl, hB⟩
end Go.Proofs.YtblbhhijddcbeaaGreatDoor
end
