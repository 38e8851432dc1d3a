/- Fm Fl Fn Fw Fv -/
import Derived.Test.YtblbhhijddcbeaaGreatDoorBFs
import Derived.Test.YtblbhhijddcbeaaGreatDoorBHnd
section
namespace Go.Proofs.YtblbhhijddcbeaaGreatDoor
open Go.ChangeShapes Go.WideShapes Go.ChangeAt Go.RowKit
set_option linter.unusedVariables false
set_option linter.unusedSimpArgs false
set_option maxRecDepth 100000
set_option maxHeartbeats 16000000
section
variable {w w' : World} {r k : Nat} {T : TypeId} {cs : List Value} {A : Option Addr} {n c : Nat} {S : List Int}
theorem OwI.not_blk (h : OwI w A n c S) (hb : Blk w r T cs) (hT : T ≠ 3) : blkOf A ≠ some r := fun e => by
 rcases h.form with ⟨rfl, _⟩ | ⟨g, cur, rfl, hg, _⟩
 · cases e
 · cases e; unfold Blk at hb; rw [hg] at hb; injection hb with hb
   injection hb with _ hb _
   exact hT hb.symm
end
theorem has_any_f (r k : Nat) (T : TypeId) (cs : List Value) (A : Option Addr) (n c : Nat) (S : List Int) (x : Int) (w : World) (hb : Blk w r T cs) (hk : cs[k]? = some (.slice A n c)) (h : OwI w A n c S) (hS : Rising S) (hn : n ≤ 1000000) :
 Calls Tryz.prog 169 #[.pointer (some ⟨r, k, none⟩), .int .i64 x] w fun e w' => e = .returned (.bool (decide (x ∈ S))) ∧ ∃ q, w' = w.drewN q := by
 have hc : w.cell? ⟨r, k, none⟩ = some (.slice A n c) := by rw [hb.cell]; exact hk
 have H := kept (fun w hO => search_any A n c S x w hO hS hn); have HO := kept h; obtain ⟨d, hd⟩ : ∃ d, decide (x ∈ S) = d := ⟨_, rfl⟩
 rw [hd] at H ⊢; clear hb hk h hS hn hd; go_enter Tryz.func169, Tryz.ntmps169; go_wp2_with (first | (go_at_call 136; (with_reducible refine (H.out _ HO.out).mono ?_); rintro e w' ⟨rfl, q, rfl⟩))
 go_ret; exact ⟨rfl, q, rfl⟩
theorem OwI.drewN {w : World} {A : Option Addr} {n c : Nat} {S : List Int} (h : OwI w A n c S) (q : Nat) : OwI (w.drewN q) A n c S := h
theorem OwI.alloc {w : World} {A : Option Addr} {n c : Nat} {S : List Int} (h : OwI w A n c S) (o : Obj) : OwI (w.alloc o) A n c S := h.turned ((Turned.refl w (fun _ => False)).alloc o) fun _ _ h => h
theorem OwI.ne_new {w : World} {A : Option Addr} {n c : Nat} {S : List Int} (h : OwI w A n c S) : blkOf A ≠ some w.heap.size := fun e => Nat.lt_irrefl _ (h.lt e)
theorem add_any_f (r k : Nat) (T : TypeId) (cs : List Value) (A : Option Addr) (n c : Nat) (S : List Int) (x : Int) (w : World) (hb : Blk w r T cs) (hT : T ≠ 3) (hk : cs[k]? = some (.slice A n c)) (h : OwI w A n c S) (hS : Rising S) (hn : n ≤ 1000000) :
 Calls Tryz.prog 87 #[.pointer (some ⟨r, k, none⟩), .int .i64 x] w fun e w' => e = .returned (.bool (!decide (x ∈ S))) ∧ Hid (∃ A' n' c', Blk w' r T (cs.set k (.slice A' n' c')) ∧ OwI w' A' n' c' (addI x S) ∧
  Turned w w' (fun j => j = r ∨ blkOf A = some j) ∧ (∀ g, blkOf A' = some g → blkOf A = some g ∨ w.heap.size ≤ g)) := by
 have hc : w.cell? ⟨r, k, none⟩ = some (.slice A n c) := by rw [hb.cell]; exact hk
 have H := kept (fun w hO => search_any A n c S x w hO hS hn); have HO := kept h; have HB := kept hb; have hz : w.frozen? ⟨r, k, none⟩ = false := hb.frozen k; have hset : cs.set k (.slice A n c) = cs := by
  apply List.ext_getElem?; intro j; rw [List.getElem?_set]
  split
  · rename_i e
    subst e; have := (List.getElem?_eq_some_iff.1 hk).1; rw [if_pos this, hk]
  · rfl
 by_cases hm : x ∈ S
 · have hd : decide (x ∈ S) = true := by simpa using hm
   have HE := kept (show addI x S = S by unfold addI; rw [if_pos hm]); have HS := kept hset; rw [hd] at H ⊢; clear hb hk h hS hn hd hm hset hz; go_enter Tryz.func87, Tryz.ntmps87; go_wp2_with (first | (go_at_call 136; (with_reducible refine (H.out _ HO.out).mono ?_); rintro e w' ⟨rfl, q, rfl⟩))
   go_ret; refine ⟨rfl, kept ⟨A, n, c, ?_, ?_, (Turned.refl _ _).drewN q, fun g hg => .inl hg⟩⟩
   · rw [HS.out]; exact HB.out
   · rw [HE.out]; exact HO.out
 · have hd : decide (x ∈ S) = false := by simpa using hm
   have HE := kept (show addI x S = S.take (under x S) ++ x :: S.drop (under x S) by unfold addI; rw [if_neg hm, hS.at_]); have HNB := kept (And.intro (h.not_blk hb hT) hb.lt); have HI := kept (fun (q : Nat) => insert_any A n c (under x S) w.heap.size S x ((w.drewN q).alloc (.cells #[.int .i64 x] 3)) ((h.drewN q).alloc _) (by rw [← h.1]; exact under_le x S) hn (Blk.new (w.drewN q) _ _) h.ne_new); have HR := kept (fun (q : Nat) (W : World) (t : Turned ((w.drewN q).alloc (.cells #[.int .i64 x] 3)) W (fun j => blkOf A = some j)) =>
    show Hid (Blk W r T cs) ∧ W.cell? ⟨r, k, none⟩ = some (.slice A n c) ∧ W.frozen? ⟨r, k, none⟩ = false ∧ Hid (Turned w W (fun j => blkOf A = some j)) from by
     have t' : Turned w W (fun j => blkOf A = some j) := (((Turned.refl w _).drewN q).alloc _).trans t; have hb' := t'.blk hb (h.not_blk hb hT); exact ⟨hb', by rw [hb'.cell]; exact hk, hb'.frozen k, t'⟩)
   rw [hd] at H ⊢; clear hb hk h hS hn hd hm hset; generalize under x S = u at H HE HI; go_enter Tryz.func87, Tryz.ntmps87; go_wp2_with (first | (go_at_call 136; (with_reducible refine (H.out _ HO.out).mono ?_); rintro e w' ⟨rfl, q, rfl⟩) | (go_at_call 137; (with_reducible refine (HI.out q).mono ?_); rintro e w2 ⟨A2, c2, rfl, o2, t2, g2⟩; obtain ⟨b3, c3, z3, t3⟩ := HR.out q w2 t2 ; have O2 := kept o2 ; have G2 := kept g2 ; clear o2 t2 g2 hc hz))
   go_ret; refine ⟨rfl, kept ⟨A2, n + 1, c2, b3.out.set_ k _, ?_, ?_, fun g hg => ?_⟩⟩
   · rw [HE.out]; exact O2.out.keep fun g hg => Below.heap_setCell w2 _ _ g (fun e => by
      obtain rfl : g = r := e; rcases G2.out g hg with h1 | h1
      · exact HNB.out.1 h1
      · have := HNB.out.2; have h1 : (w.drewN q).heap.size + 1 ≤ g := by simpa using h1
        have h2 : (w.drewN q).heap.size = w.heap.size := rfl
        omega)
   · exact (t3.out.mono fun j _ hj => .inr hj).setCell (fun _ => .inl rfl) _
   · rcases G2.out g hg with h1 | h1
     · exact .inl h1
     · right
       have h1 : (w.drewN q).heap.size + 1 ≤ g := by simpa using h1
       have h2 : (w.drewN q).heap.size = w.heap.size := rfl; omega
theorem take_any_f (r k : Nat) (T : TypeId) (cs : List Value) (A : Option Addr) (n c : Nat) (x : Int) (S : List Int) (w : World) (hb : Blk w r T cs) (hT : T ≠ 3) (hk : cs[k]? = some (.slice A (n + 1) c)) (h : OwI w A (n + 1) c (x :: S)) :
 Calls Tryz.prog 118 #[.pointer (some ⟨r, k, none⟩)] w fun e w' => e = .returned (.tuple #[.int .i64 x, .bool true]) ∧ Hid (Blk w' r T (cs.set k (.slice A n c)) ∧ OwI w' A n c S ∧
  Turned w w' (fun j => j = r ∨ blkOf A = some j) ∧ w'.heap.size = w.heap.size) := by
 have hc : w.cell? ⟨r, k, none⟩ = some (.slice A (n + 1) c) := by rw [hb.cell]; exact hk
 have HB := kept hb; have hz : w.frozen? ⟨r, k, none⟩ = false := hb.frozen k; obtain ⟨g, hA⟩ := h.head (by omega); have h0 : w.cell? ⟨g, 0, none⟩ = some (.int .i64 x) := h.cell hA (by omega); have HD := kept (delete_any A n c x S w h); have HR := kept (fun (W : World) (t : Turned w W (fun j => blkOf A = some j)) =>
  show Hid (Blk W r T cs) ∧ W.cell? ⟨r, k, none⟩ = some (.slice A (n + 1) c) ∧ W.frozen? ⟨r, k, none⟩ = false from by
   have hb' := t.blk hb (h.not_blk hb hT); exact ⟨hb', by rw [hb'.cell]; exact hk, hb'.frozen k⟩)
 have HN := kept (h.not_blk hb hT); have hn1 : ((n + 1 : Nat) : Int) ≠ 0 := by omega
 have hn2 : 0 < n + 1 := by omega
 subst hA; clear hb hk h; go_enter Tryz.func118, Tryz.ntmps118; go_wp2_with (first | (go_at_call 168; (with_reducible refine (HD.out).mono ?_); rintro e w2 ⟨rfl, o2, t2, s2⟩; obtain ⟨b3, c3, z3⟩ := HR.out w2 t2 ; have O2 := kept o2 ; have T2 := kept t2 ; have S2 := kept s2 ; clear o2 t2 s2 hc hz h0))
 go_returns; refine ⟨rfl, kept ⟨b3.out.set_ k _, ?_, ?_, ?_⟩⟩
 · exact O2.out.keep fun j hj => Below.heap_setCell w2 _ _ j (fun e => HN.out (by obtain rfl : j = r := e; exact hj))
 · exact (T2.out.mono fun j _ hj => .inr hj).setCell (fun _ => .inl rfl) _
 · simpa [World.setCell] using S2.out
theorem take_none_f (r k : Nat) (T : TypeId) (cs : List Value) (A : Option Addr) (c : Nat) (w : World) (hb : Blk w r T cs) (hk : cs[k]? = some (.slice A 0 c)) :
 Calls Tryz.prog 118 #[.pointer (some ⟨r, k, none⟩)] w fun e w' => e = .returned (.tuple #[.int .i64 0, .bool false]) ∧ w = w' := by
 have hc : w.cell? ⟨r, k, none⟩ = some (.slice A 0 c) := by rw [hb.cell]; exact hk
 clear hb hk; go_enter Tryz.func118, Tryz.ntmps118; go_wp2; go_returns; exact ⟨rfl, rfl⟩
theorem all_any_f (r k : Nat) (T : TypeId) (cs : List Value) (A : Option Addr) (n c : Nat) (S : List Int) (w : World) (hb : Blk w r T cs) (hk : cs[k]? = some (.slice A n c)) (h : OwI w A n c S) (hn : n ≤ 1000000) :
 Calls Tryz.prog 80 #[.pointer (some ⟨r, k, none⟩)] w fun e w' => ∃ A' c', e = .returned (.slice A' n c') ∧ Hid (OwI w' A' n c' S ∧ Below w.heap.size w w' ∧ ∀ g, blkOf A' = some g → w.heap.size ≤ g) := by
 have hc : w.cell? ⟨r, k, none⟩ = some (.slice A n c) := by rw [hb.cell]; exact hk
 have HC := kept (clone_any_i A n c S w h hn); clear hb hk h hn; go_enter Tryz.func80, Tryz.ntmps80; go_wp2_with (first | (go_at_call 132; (with_reducible refine (HC.out).mono ?_); rintro e w2 ⟨A2, c2, rfl, o2⟩; have O2 := kept o2 ; clear o2))
 go_ret; exact ⟨_, _, rfl, O2⟩
def RdI (w : World) (A : Option Addr) (n : Nat) (Z : List Int) : Prop :=
 Z.length = n ∧ (0 < n → ∃ b o, A = some ⟨b, o, none⟩ ∧ ∀ j (h : j < Z.length), w.cell? ⟨b, o + j, none⟩ = some (.int .i64 Z[j]))
section
variable {w w' : World} {A : Option Addr} {n c : Nat} {Z : List Int}
theorem RdI.nil_ (w : World) (A : Option Addr) : RdI w A 0 [] := ⟨rfl, fun h => absurd h (by omega)⟩
theorem RdI.below (h : RdI w A n Z) (hb : Below w.heap.size w w') : RdI w' A n Z := ⟨h.1, fun hn => by
 obtain ⟨b, o, e, hc⟩ := h.2 hn; exact ⟨b, o, e, fun j hj => (hb.cell (World.block_lt_of_cell? w _ (hc j hj))).trans (hc j hj)⟩⟩
theorem RdI.turned (h : RdI w A n Z) {T : Nat → Prop} (t : Turned w w' T) (hn : ∀ g, blkOf A = some g → ¬ T g) : RdI w' A n Z := ⟨h.1, fun h0 => by
 obtain ⟨b, o, e, hc⟩ := h.2 h0; refine ⟨b, o, e, fun j hj => ?_⟩; rw [World.cell?_of_block (w := w) (t.block _ (World.block_lt_of_cell? w _ (hc j hj)) (hn b (by rw [e]; rfl)))]; exact hc j hj⟩
theorem RdI.at_ (h : RdI w A n Z) {k : Nat} (hk : k < n) : ∃ b o, A = some ⟨b, o, none⟩ ∧ w.cell? ⟨b, o + k, none⟩ = some (.int .i64 (Z[k]'(by rw [h.1]; exact hk))) := by
 obtain ⟨b, o, e, hc⟩ := h.2 (by omega); exact ⟨b, o, e, hc k (by rw [h.1]; exact hk)⟩
theorem OwI.reads (h : OwI w A n c Z) : RdI w A n Z := ⟨h.1, fun hn => by
 obtain ⟨g, hA⟩ := h.head hn; exact ⟨g, 0, hA, fun j hj => by rw [Nat.zero_add]; exact h.cell hA (by rw [← h.1]; exact hj)⟩⟩
end
structure Fl where
 r : Nat
 As : Option Addr
 cs : Nat
 Ah : Option Addr
 ch : Nat
def Fl.own (f : Fl) (j : Nat) : Prop := j = f.r ∨ blkOf f.As = some j ∨ blkOf f.Ah = some j
structure FSt where
 z : Int
 S : List Int
 H : List Int
def FSt.ok (s : FSt) : Prop := 8 ≤ s.z ∧ s.z ≤ 1024 ∧ Rising s.S ∧ Rising s.H ∧ (∀ x ∈ s.S, 2 ≤ x ∧ x < s.z) ∧ (∀ x ∈ s.H, 2 ≤ x ∧ x < s.z)
def Lst (w : World) (f : Fl) (s : FSt) : Prop :=
 s.ok ∧ Blk w f.r 181 [.int .i64 s.z, .slice f.As s.S.length f.cs, .slice f.Ah s.H.length f.ch] ∧ OwI w f.As s.S.length f.cs s.S ∧ OwI w f.Ah s.H.length f.ch s.H ∧ (∀ g, blkOf f.As = some g → blkOf f.Ah ≠ some g)
def LLeft (w w' : World) (f : Fl) (s : FSt) : Prop := ∃ f' : Fl, f'.r = f.r ∧ Lst w' f' s ∧ Turned w w' f.own ∧ ∀ j, f'.own j → f.own j ∨ w.heap.size ≤ j
theorem FSt.ok.short {s : FSt} (h : s.ok) : s.S.length ≤ 1022 ∧ s.H.length ≤ 1022 := by
 obtain ⟨h1, h2, h3, h4, h5, h6⟩ := h; constructor
 · rcases h3.length_le (fun x hx => (h5 x hx).1) (fun x hx => (h5 x hx).2) with h | h
   · rw [h]; simp
   · omega
 · rcases h4.length_le (fun x hx => (h6 x hx).1) (fun x hx => (h6 x hx).2) with h | h
   · rw [h]; simp
   · omega
theorem list_ne_int : 181 ≠ 3 := by decide
section
variable {w w' : World} {f : Fl} {s : FSt}
theorem Lst.c0 (h : Lst w f s) : w.cell? ⟨f.r, 0, none⟩ = some (.int .i64 s.z) := h.2.1.cell 0
theorem Lst.c1 (h : Lst w f s) : w.cell? ⟨f.r, 1, none⟩ = some (.slice f.As s.S.length f.cs) := h.2.1.cell 1
theorem Lst.lt (h : Lst w f s) {j : Nat} (hj : f.own j) : j < w.heap.size := by
 rcases hj with rfl | hj | hj
 · exact h.2.1.lt
 · exact h.2.2.1.lt hj
 · exact h.2.2.2.1.lt hj
theorem Lst.same (h : Lst w f s) (e : ∀ j, f.own j → w'.heap[j]? = w.heap[j]?) : Lst w' f s :=
 ⟨h.1, (e f.r (.inl rfl)).trans h.2.1, h.2.2.1.keep fun g hg => e g (.inr (.inl hg)), h.2.2.2.1.keep fun g hg => e g (.inr (.inr hg)), h.2.2.2.2⟩
theorem Lst.turned (h : Lst w f s) {T : Nat → Prop} (t : Turned w w' T) (hn : ∀ j, f.own j → ¬ T j) : Lst w' f s := h.same fun j hj => t.block j (h.lt hj) (hn j hj)
theorem Lst.below (h : Lst w f s) (hb : Below w.heap.size w w') : Lst w' f s := h.same fun j hj => hb.block j (h.lt hj)
theorem Lst.left_self (h : Lst w f s) (q : Nat) : LLeft w (w.drewN q) f s := ⟨f, rfl, h, (Turned.refl _ _).drewN q, fun _ hj => .inl hj⟩
theorem Lst.left_same (h : Lst w f s) : LLeft w w f s := ⟨f, rfl, h, Turned.refl _ _, fun _ hj => .inl hj⟩
theorem Lst.spare_at (h : Lst w f s) {A' : Option Addr} {n' c' : Nat} {S' : List Int} (hb : Blk w' f.r 181 (([.int .i64 s.z, .slice f.As s.S.length f.cs, .slice f.Ah s.H.length f.ch] : List Value).set 1 (.slice A' n' c'))) (ho : OwI w' A' n' c' S')
 (t : Turned w w' (fun j => j = f.r ∨ blkOf f.As = some j)) (hg : ∀ g, blkOf A' = some g → blkOf f.As = some g ∨ w.heap.size ≤ g) (hR : Rising S') (hB : ∀ x ∈ S', 2 ≤ x ∧ x < s.z) : Lst w' ⟨f.r, A', c', f.Ah, f.ch⟩ { s with S := S' } ∧ Turned w w' f.own ∧ ∀ j, (⟨f.r, A', c', f.Ah, f.ch⟩ : Fl).own j → f.own j ∨ w.heap.size ≤ j := by
 obtain ⟨h1, h2, h3, h4, h5⟩ := h; obtain rfl : n' = S'.length := ho.1.symm; refine ⟨⟨⟨h1.1, h1.2.1, hR, h1.2.2.2.1, hB, h1.2.2.2.2.2⟩, hb, ho, h4.turned t fun g hg' hT => ?_, fun g hg' hg2 => ?_⟩, t.mono fun k _ hk => ?_, fun j hj => ?_⟩
 · rcases hT with hT | hT
   · exact h4.not_blk h2 list_ne_int (by rw [← hT]; exact hg')
   · exact h5 g hT hg'
 · rcases hg g hg' with h6 | h6
   · exact h5 g h6 hg2
   · have := h4.lt hg2; omega
 · rcases hk with hk | hk
   · exact .inl hk
   · exact .inr (.inl hk)
 · rcases hj with hj | hj | hj
   · exact .inl (.inl hj)
   · rcases hg j hj with h6 | h6
     · exact .inl (.inr (.inl h6))
     · exact .inr h6
   · exact .inl (.inr (.inr hj))
theorem Lst.spare_new (h : Lst w f s) {A' : Option Addr} {n' c' : Nat} {S' : List Int} (hb : Blk w' f.r 181 (([.int .i64 s.z, .slice f.As s.S.length f.cs, .slice f.Ah s.H.length f.ch] : List Value).set 1 (.slice A' n' c'))) (ho : OwI w' A' n' c' S')
 (t : Turned w w' (fun j => j = f.r ∨ blkOf f.As = some j)) (hg : ∀ g, blkOf A' = some g → blkOf f.As = some g ∨ w.heap.size ≤ g) (hR : Rising S') (hB : ∀ x ∈ S', 2 ≤ x ∧ x < s.z) : LLeft w w' f { s with S := S' } :=
 ⟨⟨f.r, A', c', f.Ah, f.ch⟩, rfl, h.spare_at hb ho t hg hR hB⟩
theorem Lst.held_new (h : Lst w f s) {A' : Option Addr} {n' c' : Nat} {S' : List Int} (hb : Blk w' f.r 181 (([.int .i64 s.z, .slice f.As s.S.length f.cs, .slice f.Ah s.H.length f.ch] : List Value).set 2 (.slice A' n' c'))) (ho : OwI w' A' n' c' S')
 (t : Turned w w' (fun j => j = f.r ∨ blkOf f.Ah = some j)) (hg : ∀ g, blkOf A' = some g → blkOf f.Ah = some g ∨ w.heap.size ≤ g) (hR : Rising S') (hB : ∀ x ∈ S', 2 ≤ x ∧ x < s.z) : LLeft w w' f { s with H := S' } := by
 obtain ⟨h1, h2, h3, h4, h5⟩ := h; obtain rfl : n' = S'.length := ho.1.symm; refine ⟨⟨f.r, f.As, f.cs, A', c'⟩, rfl, ⟨⟨h1.1, h1.2.1, h1.2.2.1, hR, h1.2.2.2.2.1, hB⟩, hb, h3.turned t fun g hg' hT => ?_, ho, fun g hg' hg2 => ?_⟩, t.mono fun k _ hk => ?_, fun j hj => ?_⟩
 · rcases hT with hT | hT
   · exact h3.not_blk h2 list_ne_int (by rw [← hT]; exact hg')
   · exact h5 g hg' hT
 · rcases hg g hg2 with h6 | h6
   · exact h5 g hg' h6
   · have := h3.lt hg'; omega
 · rcases hk with hk | hk
   · exact .inl hk
   · exact .inr (.inr hk)
 · rcases hj with hj | hj | hj
   · exact .inl (.inl hj)
   · exact .inl (.inr (.inl hj))
   · rcases hg j hj with h6 | h6
     · exact .inl (.inr (.inr h6))
     · exact .inr h6
end
def FSt.may (s : FSt) (x : Int) : Int := if 2 ≤ x ∧ x < s.z then (if x ∈ s.S ∨ x ∈ s.H then 8 else 0) else 2
def FSt.give (s : FSt) (x : Int) : FSt := if s.may x = 0 then { s with S := addI x s.S } else s
def FSt.hold (s : FSt) (x : Int) : FSt := if s.may x = 0 then { s with H := addI x s.H } else s
def FSt.taken (s : FSt) : Int × Int := match s.S with | [] => (0, 9) | x :: _ => (x, 0)
def FSt.take (s : FSt) : FSt := { s with S := s.S.tail }
def addAll (S : List Int) (H : List Int) : List Int := H.foldl (fun S x => addI x S) S
theorem inBounds_any (f : Fl) (s : FSt) (x : Int) (w : World) (h : Lst w f s) :
 Calls Tryz.prog 86 #[.pointer (some ⟨f.r, 0, none⟩), .int .i64 x] w fun e w' => e = .returned (.bool (decide (2 ≤ x ∧ x < s.z))) ∧ w = w' := by
 have c0 := h.c0; clear h; generalize s.z = z at c0 ⊢; by_cases h2 : 2 ≤ x
 · have e : decide (2 ≤ x ∧ x < z) = decide (x < z) := by simp [h2]
   rw [e]; go_enter Tryz.func86, Tryz.ntmps86; go_wp2; go_ret; exact ⟨rfl, rfl⟩
 · have e : decide (2 ≤ x ∧ x < z) = false := by simp [h2]
   rw [e]; go_enter Tryz.func86, Tryz.ntmps86; go_wp2; go_ret; exact ⟨rfl, rfl⟩
theorem mayCome_any (f : Fl) (s : FSt) (x : Int) (w : World) (h : Lst w f s) :
 Calls Tryz.prog 119 #[.pointer (some ⟨f.r, 0, none⟩), .int .i64 x] w fun e w' => e = .returned (.int .i64 (s.may x)) ∧ ∃ q, w' = w.drewN q := by
 have HI := kept (inBounds_any f s x w h); by_cases hb : 2 ≤ x ∧ x < s.z
 · have e0 : decide (2 ≤ x ∧ x < s.z) = true := by simpa using hb
   have hs := h.1.short; have H1 := kept (has_any_f f.r 1 _ _ f.As _ f.cs s.S x w h.2.1 rfl h.2.2.1 h.1.2.2.1 (by omega)); have H2 := kept (fun q => has_any_f f.r 2 _ _ f.Ah _ f.ch s.H x (w.drewN q) h.2.1 rfl h.2.2.2.1 h.1.2.2.2.1 (by omega)); rw [e0] at HI; by_cases hS : x ∈ s.S
   · have e1 : decide (x ∈ s.S) = true := by simpa using hS
     have HE := kept (show s.may x = 8 by unfold FSt.may; rw [if_pos hb, if_pos (.inl hS)]); rw [e1] at H1; clear h hb e0 hs hS e1; go_enter Tryz.func119, Tryz.ntmps119; go_wp2_with (first | (go_at_call 86; (with_reducible refine (HI.out).mono ?_); rintro e w' ⟨rfl, rfl⟩) | (go_at_call 169; (with_reducible refine (H1.out).mono ?_); rintro e w' ⟨rfl, q, rfl⟩))
     go_ret; exact ⟨ret_int HE.out.symm, q, rfl⟩
   · have e1 : decide (x ∈ s.S) = false := by simpa using hS
     rw [e1] at H1; by_cases hH : x ∈ s.H
     · have e2 : decide (x ∈ s.H) = true := by simpa using hH
       have HE := kept (show s.may x = 8 by unfold FSt.may; rw [if_pos hb, if_pos (.inr hH)]); rw [e2] at H2; clear h hb e0 hs hS e1 hH e2; go_enter Tryz.func119, Tryz.ntmps119; go_wp2_with (first | (go_at_call 86; (with_reducible refine (HI.out).mono ?_); rintro e w' ⟨rfl, rfl⟩) | (go_at_call 169; (with_reducible refine (H1.out).mono ?_); rintro e w' ⟨rfl, q, rfl⟩) | (go_at_call 169; (with_reducible refine (H2.out q).mono ?_); rintro e w' ⟨rfl, q2, rfl⟩))
       go_ret; exact ⟨ret_int HE.out.symm, q + q2, by simp [World.drewN]⟩
     · have e2 : decide (x ∈ s.H) = false := by simpa using hH
       have HE := kept (show s.may x = 0 by unfold FSt.may; rw [if_pos hb, if_neg (by rintro (h | h); exact hS h; exact hH h)]); rw [e2] at H2; clear h hb e0 hs hS e1 hH e2; go_enter Tryz.func119, Tryz.ntmps119; go_wp2_with (first | (go_at_call 86; (with_reducible refine (HI.out).mono ?_); rintro e w' ⟨rfl, rfl⟩) | (go_at_call 169; (with_reducible refine (H1.out).mono ?_); rintro e w' ⟨rfl, q, rfl⟩) | (go_at_call 169; (with_reducible refine (H2.out q).mono ?_); rintro e w' ⟨rfl, q2, rfl⟩))
       go_ret; exact ⟨ret_int HE.out.symm, q + q2, by simp [World.drewN]⟩
 · have e0 : decide (2 ≤ x ∧ x < s.z) = false := by simpa using hb
   have HE := kept (show s.may x = 2 by unfold FSt.may; rw [if_neg hb]); rw [e0] at HI; clear h hb e0; go_enter Tryz.func119, Tryz.ntmps119; go_wp2_with (first | (go_at_call 86; (with_reducible refine (HI.out).mono ?_); rintro e w' ⟨rfl, rfl⟩))
   go_ret; exact ⟨ret_int HE.out.symm, 0, rfl⟩
theorem addI_bounds {z x : Int} {S : List Int} (h : ∀ y ∈ S, 2 ≤ y ∧ y < z) (hx : 2 ≤ x ∧ x < z) : ∀ y ∈ addI x S, 2 ≤ y ∧ y < z := fun y hy => by
 rcases mem_addI.1 hy with rfl | hy
 · exact hx
 · exact h y hy
theorem may_zero {s : FSt} {x : Int} (h : s.may x = 0) : (2 ≤ x ∧ x < s.z) ∧ x ∉ s.S ∧ x ∉ s.H := by
 unfold FSt.may at h
 split at h
 · rename_i hb
   split at h
   · cases h
   · rename_i hn
     exact ⟨hb, fun h1 => hn (.inl h1), fun h1 => hn (.inr h1)⟩
 · cases h
theorem give_any (f : Fl) (s : FSt) (x : Int) (w : World) (h : Lst w f s) :
 Calls Tryz.prog 75 #[.pointer (some ⟨f.r, 0, none⟩), .int .i64 x] w fun e w' => e = .returned (.int .i64 (s.may x)) ∧ Hid (LLeft w w' f (s.give x)) := by
 have HM := kept (mayCome_any f s x w h); by_cases h0 : s.may x = 0
 · have hs := h.1.short; have HA := kept (fun q => add_any_f f.r 1 _ _ f.As _ f.cs s.S x (w.drewN q) h.2.1 list_ne_int rfl h.2.2.1 h.1.2.2.1 (by omega)); have HG := kept (show s.give x = { s with S := addI x s.S } by unfold FSt.give; rw [if_pos h0]); have HL := kept h; have HX := kept h0; rw [h0] at HM; clear h h0 hs; go_enter Tryz.func75, Tryz.ntmps75; go_wp2_with (first | (go_at_call 119; (with_reducible refine (HM.out).mono ?_); rintro e w' ⟨rfl, q, rfl⟩) | (go_at_call 87; (with_reducible refine (HA.out q).mono ?_); rintro e w2 ⟨rfl, h2⟩))
   go_ret; refine ⟨ret_int HX.out.symm, kept ?_⟩; rw [HG.out]; obtain ⟨A', n', c', h3, h4, h5, h6⟩ := h2.out; have hm := may_zero HX.out; exact HL.out.spare_new h3 h4 (((Turned.refl w _).drewN q).trans h5) h6 (HL.out.1.2.2.1.addI x) (addI_bounds HL.out.1.2.2.2.2.1 hm.1)
 · have hb : (s.may x == 0) = false := by simpa using h0
   have HG := kept (show s.give x = s by unfold FSt.give; rw [if_neg h0]); have HL := kept h; generalize hmx : s.may x = m at HM h0 hb ⊢; clear h h0 hmx; go_enter Tryz.func75, Tryz.ntmps75; go_wp2_with (first | (go_at_call 119; (with_reducible refine (HM.out).mono ?_); rintro e w' ⟨rfl, q, rfl⟩))
   go_ret; refine ⟨rfl, kept ?_⟩; rw [HG.out]; exact HL.out.left_self q
theorem hold_any (f : Fl) (s : FSt) (x : Int) (w : World) (h : Lst w f s) :
 Calls Tryz.prog 193 #[.pointer (some ⟨f.r, 0, none⟩), .int .i64 x] w fun e w' => e = .returned (.int .i64 (s.may x)) ∧ Hid (LLeft w w' f (s.hold x)) := by
 have HM := kept (mayCome_any f s x w h); by_cases h0 : s.may x = 0
 · have hs := h.1.short; have HA := kept (fun q => add_any_f f.r 2 _ _ f.Ah _ f.ch s.H x (w.drewN q) h.2.1 list_ne_int rfl h.2.2.2.1 h.1.2.2.2.1 (by omega)); have HG := kept (show s.hold x = { s with H := addI x s.H } by unfold FSt.hold; rw [if_pos h0]); have HL := kept h; have HX := kept h0; rw [h0] at HM; clear h h0 hs; go_enter Tryz.func193, Tryz.ntmps193; go_wp2_with (first | (go_at_call 119; (with_reducible refine (HM.out).mono ?_); rintro e w' ⟨rfl, q, rfl⟩) | (go_at_call 87; (with_reducible refine (HA.out q).mono ?_); rintro e w2 ⟨rfl, h2⟩))
   go_ret; refine ⟨ret_int HX.out.symm, kept ?_⟩; rw [HG.out]; obtain ⟨A', n', c', h3, h4, h5, h6⟩ := h2.out; have hm := may_zero HX.out; exact HL.out.held_new h3 h4 (((Turned.refl w _).drewN q).trans h5) h6 (HL.out.1.2.2.2.1.addI x) (addI_bounds HL.out.1.2.2.2.2.2 hm.1)
 · have hb : (s.may x == 0) = false := by simpa using h0
   have HG := kept (show s.hold x = s by unfold FSt.hold; rw [if_neg h0]); have HL := kept h; generalize hmx : s.may x = m at HM h0 hb ⊢; clear h h0 hmx; go_enter Tryz.func193, Tryz.ntmps193; go_wp2_with (first | (go_at_call 119; (with_reducible refine (HM.out).mono ?_); rintro e w' ⟨rfl, q, rfl⟩))
   go_ret; refine ⟨rfl, kept ?_⟩; rw [HG.out]; exact HL.out.left_self q
theorem ftake_any (f : Fl) (s : FSt) (w : World) (h : Lst w f s) :
 Calls Tryz.prog 73 #[.pointer (some ⟨f.r, 0, none⟩)] w fun e w' => e = .returned (.tuple #[.int .i64 s.taken.1, .int .i64 s.taken.2]) ∧ Hid (LLeft w w' f s.take) := by
 obtain ⟨z, S, H⟩ := s; have HL := kept h; cases S with
 | nil =>
   have HT := kept (take_none_f f.r 1 _ _ f.As f.cs w h.2.1 rfl); clear h; go_enter Tryz.func73, Tryz.ntmps73; go_wp2_with (first | (go_at_call 118; (with_reducible refine (HT.out).mono ?_); rintro e w' ⟨rfl, rfl⟩))
   go_returns; exact ⟨rfl, kept HL.out.left_same⟩
 | cons x S =>
   have HT := kept (take_any_f f.r 1 _ _ f.As S.length f.cs x S w h.2.1 list_ne_int rfl h.2.2.1); clear h; go_enter Tryz.func73, Tryz.ntmps73; go_wp2_with (first | (go_at_call 118; (with_reducible refine (HT.out).mono ?_); rintro e w' ⟨rfl, h2⟩))
   go_returns; refine ⟨rfl, kept ?_⟩; obtain ⟨h3, h4, h5, h6⟩ := h2.out; exact HL.out.spare_new h3 h4 h5 (fun g hg => .inl hg) (Rising.cons.1 HL.out.1.2.2.1).2 (fun y hy => HL.out.1.2.2.2.2.1 y (List.mem_cons_of_mem _ hy))
theorem froom_any (f : Fl) (s : FSt) (w : World) (h : Lst w f s) : Calls Tryz.prog 71 #[.pointer (some ⟨f.r, 0, none⟩)] w fun e w' => e = .returned (.int .i64 (s.S.length : Int)) ∧ w = w' := by
 have c1 := h.c1; clear h; go_enter Tryz.func71, Tryz.ntmps71; go_wp2; go_ret; exact ⟨rfl, rfl⟩
def Says (w w' : World) (S : List Int) (A : Option Addr) (c : Nat) : Prop := OwI w' A S.length c S ∧ Below w.heap.size w w' ∧ ∀ g, blkOf A = some g → w.heap.size ≤ g
theorem spare_any (f : Fl) (s : FSt) (w : World) (h : Lst w f s) : Calls Tryz.prog 44 #[.pointer (some ⟨f.r, 0, none⟩)] w fun e w' => ∃ A c, e = .returned (.slice A s.S.length c) ∧ Hid (Says w w' s.S A c) := by
 have hs := h.1.short; have HA := kept (all_any_f f.r 1 _ _ f.As _ f.cs s.S w h.2.1 rfl h.2.2.1 (by omega)); clear h hs; go_enter Tryz.func44, Tryz.ntmps44; go_wp2_with (first | (go_at_call 80; (with_reducible refine (HA.out).mono ?_); rintro e w' ⟨A, c, rfl, h2⟩))
 go_ret; exact ⟨A, c, rfl, h2⟩
theorem addAll_snoc (S H : List Int) (x : Int) : addAll S (H ++ [x]) = addI x (addAll S H) := by simp [addAll]
theorem addAll_take (S H : List Int) (k : Nat) (h : k < H.length) : addAll S (H.take (k + 1)) = addI H[k] (addAll S (H.take k)) := by
 rw [← addAll_snoc, List.take_add_one, List.getElem?_eq_getElem h]; rfl
theorem mem_addAll {x : Int} {S H : List Int} : x ∈ addAll S H ↔ x ∈ S ∨ x ∈ H := by
 induction H generalizing S with
 | nil => simp [addAll]
 | cons y r ih =>
   show x ∈ addAll (addI y S) r ↔ _; rw [ih, mem_addI, List.mem_cons]; constructor
   · rintro ((h | h) | h)
     · exact .inr (.inl h)
     · exact .inl h
     · exact .inr (.inr h)
   · rintro (h | h | h)
     · exact .inl (.inr h)
     · exact .inl (.inl h)
     · exact .inr h
theorem Rising.addAll {S : List Int} (h : Rising S) (H : List Int) : Rising (addAll S H) := by
 induction H generalizing S with
 | nil => exact h
 | cons y r ih => exact ih (h.addI y)
theorem Lst.made {w' : World} {r : Nat} {As Ah : Option Addr} {cs ch : Nat} {s : FSt} (h : s.ok) (hb : Blk w' r 181 [.int .i64 s.z, .slice As s.S.length cs, .slice Ah s.H.length ch]) (h1 : OwI w' As s.S.length cs s.S) (h2 : OwI w' Ah s.H.length ch s.H)
 (hne : ∀ g, blkOf As = some g → blkOf Ah ≠ some g) : Lst w' ⟨r, As, cs, Ah, ch⟩ s := ⟨h, hb, h1, h2, hne⟩
def finB (z x : Int) : Bool := decide (2 ≤ x ∧ x < z)
def newErr (z : Int) (Z : List Int) : Int := if z < 8 ∨ 1024 < z then 1 else if Z.all (finB z) then (if Z.Nodup then 0 else 8) else 2
def FNewR (w w' : World) (z : Int) (Z : List Int) (P : Value) : Prop :=
 Below w.heap.size w w' ∧ ((newErr z Z ≠ 0 ∧ P = .pointer none) ∨ (newErr z Z = 0 ∧ ∃ f : Fl, P = .pointer (some ⟨f.r, 0, none⟩) ∧ Lst w' f ⟨z, addAll [] Z, []⟩ ∧ ∀ j, f.own j → w.heap.size ≤ j))
theorem nodup_snoc {L : List Int} {x : Int} : (L ++ [x]).Nodup ↔ L.Nodup ∧ x ∉ L := by
 rw [List.nodup_append]; constructor
 · rintro ⟨h1, _, h3⟩; exact ⟨h1, fun hx => h3 x hx x (by simp) rfl⟩
 · rintro ⟨h1, h2⟩; exact ⟨h1, by simp, fun a ha b hb => by rw [List.mem_singleton.1 hb]; exact fun e => h2 (e ▸ ha)⟩
theorem take_snoc {L : List Int} {k : Nat} (h : k < L.length) : L.take (k + 1) = L.take k ++ [L[k]] := by
 rw [List.take_add_one, List.getElem?_eq_getElem h]; rfl
def FNewK (w : World) (z : Int) (Z : List Int) (k : Nat) (wr : World) : Prop :=
 ∃ A c, Lst wr ⟨w.heap.size, A, c, none, 0⟩ ⟨z, addAll [] (Z.take k), []⟩ ∧ Below w.heap.size w wr ∧ (∀ j, blkOf A = some j → w.heap.size ≤ j) ∧ (Z.take k).Nodup
theorem fnew_any (z : Int) (A : Option Addr) (n c : Nat) (Z : List Int) (w : World) (h : RdI w A n Z) (hn : n ≤ 1000000) :
 Calls Tryz.prog 49 #[.int .i64 z, .slice A n c] w fun e w' => ∃ P, e = .returned (.tuple #[P, .int .i64 (newErr z Z)]) ∧ Hid (FNewR w w' z Z P) := by
 by_cases h8 : z < 8
 · have e : newErr z Z = 1 := by unfold newErr; rw [if_pos (.inl h8)]
   have HB : Hid (∀ P, P = Value.pointer none → FNewR w w z Z P) := kept fun P hP => ⟨Below.refl _ _, .inl ⟨by rw [e]; decide, hP⟩⟩
   rw [e]; clear h hn e; go_enter Tryz.func49, Tryz.ntmps49; go_wp2; go_returns; exact ⟨_, rfl, kept (HB.out _ rfl)⟩
 by_cases h1024 : 1024 < z
 · have e : newErr z Z = 1 := by unfold newErr; rw [if_pos (.inr h1024)]
   have HB : Hid (∀ P, P = Value.pointer none → FNewR w w z Z P) := kept fun P hP => ⟨Below.refl _ _, .inl ⟨by rw [e]; decide, hP⟩⟩
   rw [e]; clear h hn e; go_enter Tryz.func49, Tryz.ntmps49; go_wp2; go_returns; exact ⟨_, rfl, kept (HB.out _ rfl)⟩
 have HZ := kept (And.intro h8 h1024); have HE : Hid (newErr z Z = if Z.all (finB z) then (if Z.Nodup then 0 else 8) else 2) := kept (by unfold newErr; rw [if_neg (by omega)]); have HR := kept h; obtain ⟨W1, hW1⟩ : ∃ W1, W1 = w.alloc (.cells #[.int .i64 z, .slice none 0 0, .slice none 0 0] 181) := ⟨_, rfl⟩
 have HS1 : Hid (W1.heap.size = w.heap.size + 1) := kept (by rw [hW1]; simp); have HB1 : Hid (Below w.heap.size w W1) := kept (by rw [hW1]; exact (Below.refl _ _).alloc (Nat.le_refl _) _); have HL1 : Hid (Lst W1 ⟨w.heap.size, none, 0, none, 0⟩ ⟨z, [], []⟩) := kept (Lst.made ⟨by show 8 ≤ z; omega, by show z ≤ 1024; omega, Rising.nil_, Rising.nil_, fun x hx => by simp at hx, fun x hx => by simp at hx⟩ (by rw [hW1]; exact Blk.new w _ _) (OwI.nil_ _) (OwI.nil_ _) (fun g hg => by cases hg)); have HW1 := kept hW1; clear h; go_enter Tryz.func49, Tryz.ntmps49; go_wp2; rw [← HW1.out]; clear hW1; go_loopw [22] (fun i wr => ∃ k : Nat, k ≤ n ∧ i = .int .i64 (k : Int) ∧ Hid (∀ x ∈ Z.take k, finB z x = true) ∧ wr = W1) (fun i _ => n - (intOf i).toNat)
 case atStart => exact ⟨0, Nat.zero_le _, rfl, kept (fun x hx => by simp at hx), rfl⟩
 case round =>
  obtain ⟨k, hk, rfl, HA, rfl⟩ := hrel; by_cases hlt : k < n
  · have hkZ : k < Z.length := by rw [HR.out.1]; exact hlt
    obtain ⟨b, o, rfl, hc⟩ := (HR.out.below HB1.out).at_ hlt; have HT := kept (take_snoc hkZ); have HM := kept (List.getElem_mem hkZ); generalize Z[k] = x at hc HT HM; have HIN : Hid (Calls Tryz.prog 86 #[.pointer (some ⟨w.heap.size, 0, none⟩), .int .i64 x] wr fun e w' => e = .returned (.bool (finB z x)) ∧ wr = w') := kept (inBounds_any _ _ x wr HL1.out); clear hkZ; cases hib : finB z x with
    | true =>
      have HIB := kept hib; rw [hib] at HIN; clear hib; go_wp2_with (first | (go_at_call 86; (with_reducible refine (HIN.out).mono ?_); rintro e w' ⟨rfl, rfl⟩))
      have HE2 : Hid (∀ y ∈ Z.take (k + 1), finB z y = true) := kept (by
       rw [HT.out]; intro y hy; rcases List.mem_append.1 hy with hy | hy
       · exact HA.out y hy
       · rw [List.mem_singleton.1 hy]; exact HIB.out)
      clear hc; go_roundw
      case rel => exact ⟨k + 1, by omega, by go_num, HE2, by first | trivial | rfl⟩
      case measure => simp [intOf]; omega
    | false =>
      have HX : Hid (newErr z Z = 2) := kept (by rw [HE.out, if_neg (by simp only [List.all_eq_true]; intro h; rw [h x HM.out] at hib; cases hib)]); rw [hib] at HIN; clear hib; go_wp2_with (first | (go_at_call 86; (with_reducible refine (HIN.out).mono ?_); rintro e w' ⟨rfl, rfl⟩))
      go_returns; rw [HX.out]; exact ⟨_, rfl, kept ⟨HB1.out, .inl ⟨by rw [HX.out]; decide, rfl⟩⟩⟩
  · obtain rfl : k = n := by omega
    have HALL : Hid (∀ x ∈ Z, finB z x = true) := kept (fun x hx => HA.out x (by rw [List.take_of_length_le (by rw [HR.out.1]; exact Nat.le_refl _)]; exact hx)); have HE2 : Hid (newErr z Z = if Z.Nodup then 0 else 8) := kept (by rw [HE.out, if_pos (List.all_eq_true.2 HALL.out)]); have H0 : Hid (FNewK w z Z 0 wr) := kept ⟨none, 0, HL1.out, HB1.out, fun j hj => (by cases hj), (by simp)⟩; clear HA HE hlt hk; go_wp2; go_loopw [33] (fun i wx => ∃ j : Nat, j ≤ k ∧ i = .int .i64 (j : Int) ∧ Hid (FNewK w z Z j wx)) (fun i _ => k - (intOf i).toNat)
    case atStart => exact ⟨0, Nat.zero_le _, rfl, H0⟩
    case round =>
     obtain ⟨j, hj, rfl, hrel⟩ := hrel; obtain ⟨A2, c2, hl, hb, hg, hnd⟩ := hrel.out; have HL := kept hl; have HB := kept hb; have HG := kept hg; have HND := kept hnd; clear hl hb hg hnd hrel H0; by_cases hlt : j < k
     · have hjZ : j < Z.length := by rw [HR.out.1]; exact hlt
       obtain ⟨b, o, rfl, hc⟩ := (HR.out.below HB.out).at_ hlt; have HT := kept (take_snoc hjZ); have HAT := kept (addAll_take [] Z j hjZ); have HM := kept (List.getElem_mem hjZ); generalize Z[j] = x at hc HT HM HAT; have HA : Hid (Calls Tryz.prog 87 #[.pointer (some ⟨w.heap.size, 1, none⟩), .int .i64 x] wr fun e w' => e = .returned (.bool (!decide (x ∈ addAll [] (Z.take j)))) ∧ Hid (∃ A' n' c', Blk w' w.heap.size 181 (([.int .i64 z, .slice A2 (addAll [] (Z.take j)).length c2, .slice none 0 0] : List Value).set 1 (.slice A' n' c')) ∧ OwI w' A' n' c' (addI x (addAll [] (Z.take j))) ∧
        Turned wr w' (fun i => i = w.heap.size ∨ blkOf A2 = some i) ∧ (∀ g, blkOf A' = some g → blkOf A2 = some g ∨ wr.heap.size ≤ g))) :=
        kept (add_any_f w.heap.size 1 _ _ A2 _ c2 _ x wr HL.out.2.1 list_ne_int rfl HL.out.2.2.1 HL.out.1.2.2.1 (by have h9 : (addAll [] (Z.take j)).length ≤ 1022 := HL.out.1.short.1; show (addAll [] (Z.take j)).length ≤ 1000000; omega))
       have HMM : Hid (x ∈ addAll [] (Z.take j) ↔ x ∈ Z.take j) := kept (by rw [mem_addAll]; simp); clear hjZ; cases hib : decide (x ∈ addAll [] (Z.take j)) with
       | true =>
         have HX : Hid (newErr z Z = 8) := kept (by
          rw [HE2.out, if_neg]; intro hnd; have h1 := (nodup_snoc.1 (HT.out ▸ (List.Sublist.nodup (List.take_sublist (j + 1) Z) hnd))).2; exact h1 (HMM.out.1 (by simpa using hib)))
         rw [hib] at HA; clear hib; go_wp2_with (first | (go_at_call 87; (with_reducible refine (HA.out).mono ?_); rintro e w2 ⟨rfl, h2⟩))
         go_returns; rw [HX.out]; refine ⟨_, rfl, kept ⟨?_, .inl ⟨by rw [HX.out]; decide, rfl⟩⟩⟩; obtain ⟨A', n', c', h3, h4, h5, h6⟩ := h2.out; exact Turned.only_new HB.out h5 HB.out.size (fun i hi => by
          rcases hi with rfl | hi
          · exact Nat.le_refl _
          · exact HG.out i hi)
       | false =>
         have hx : x ∉ Z.take j := fun h => by have := HMM.out.2 h; rw [decide_eq_true this] at hib; cases hib
         have HX : Hid ((Z.take (j + 1)).Nodup) := kept (by rw [HT.out]; exact nodup_snoc.2 ⟨HND.out, hx⟩); have HBX : Hid (2 ≤ x ∧ x < z) := kept (by have := HALL.out x HM.out; simpa [finB] using this); rw [hib] at HA; clear hib hx; go_wp2_with (first | (go_at_call 87; (with_reducible refine (HA.out).mono ?_); rintro e w2 ⟨rfl, h2⟩))
         have HEE : Hid (FNewK w z Z (j + 1) w2) := by
          obtain ⟨A', n', c', h3, h4, h5, h6⟩ := h2.out; obtain ⟨l1, l2, l3⟩ := HL.out.spare_at h3 h4 h5 h6 (HL.out.1.2.2.1.addI x) (addI_bounds HL.out.1.2.2.2.2.1 HBX.out); refine kept ⟨A', c', ?_, ?_, fun i hi => ?_, HX.out⟩
          · rw [HAT.out]; exact l1
          · exact Turned.only_new HB.out h5 HB.out.size (fun i hi => by
             rcases hi with rfl | hi
             · exact Nat.le_refl _
             · exact HG.out i hi)
          · rcases h6 i hi with h7 | h7
            · exact HG.out i h7
            · exact Nat.le_trans HB.out.size h7
         clear h2 hc; go_roundw
         case rel => exact ⟨j + 1, by omega, by go_num, HEE⟩
         case measure => simp [intOf]; omega
     · obtain rfl : j = k := by omega
       have ht : Z.take j = Z := List.take_of_length_le (by rw [HR.out.1]; exact Nat.le_refl _); have HX : Hid (newErr z Z = 0) := kept (by rw [HE2.out, if_pos]; have := HND.out; rwa [ht] at this); have HLL : Hid (Lst wr ⟨w.heap.size, A2, c2, none, 0⟩ ⟨z, addAll [] Z, []⟩) := kept (by have := HL.out; rwa [ht] at this); clear ht; go_wp2; go_returns; rw [HX.out]; refine ⟨_, rfl, kept ⟨HB.out, .inr ⟨HX.out, ⟨w.heap.size, A2, c2, none, 0⟩, rfl, HLL.out, fun i hi => ?_⟩⟩⟩; rcases hi with rfl | hi | hi
       · exact Nat.le_refl _
       · exact HG.out i hi
       · cases hi
theorem fnew_good (z : Int) (A : Option Addr) (n c : Nat) (Z : List Int) (w : World) (h : RdI w A n Z) (hn : n ≤ 1000000) (he : newErr z Z = 0) :
 Calls Tryz.prog 49 #[.int .i64 z, .slice A n c] w fun e w' => ∃ f : Fl, e = .returned (.tuple #[.pointer (some ⟨f.r, 0, none⟩), .int .i64 0]) ∧ Hid (Lst w' f ⟨z, addAll [] Z, []⟩ ∧ Below w.heap.size w w' ∧ ∀ j, f.own j → w.heap.size ≤ j) := by
 refine (fnew_any z A n c Z w h hn).mono ?_; rintro e w' ⟨P, rfl, hr⟩; rw [he]; rcases hr.out with ⟨hb, ⟨h0, _⟩ | ⟨_, f, rfl, hl, ho⟩⟩
 · exact absurd he h0
 · exact ⟨f, rfl, kept ⟨hl, hb, ho⟩⟩
end Go.Proofs.YtblbhhijddcbeaaGreatDoor
end
