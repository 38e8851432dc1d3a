/-
  What the methods of free's set do, wherever its slice stands in a block.
-/
import Derived.Test.YtahciaccnblfoaaFs
import Derived.Test.YtahciaccnblfoaaHnd
namespace Go.Proofs.Ytahciaccnblfoaa
open Go.ChangeShapes Go.WideShapes Go.ChangeAt Go.RowKit
set_option linter.unusedVariables false

section
variable {w w' : World} {r k : Nat} {T : TypeId} {cs : List Value} {A : Option Addr} {n c : Nat} {S : List Int}
/-- The block that holds the slice is not the slice's own. -/
theorem OwI.not_blk (h : OwI w A n c S) (hb : Blk w r T cs) (hT : T ≠ 3) : blkOf A ≠ some r := fun e => by
  rcases h.form with ⟨rfl, _⟩ | ⟨g, cur, rfl, hg, _⟩
  · cases e
  · cases e
    unfold Blk at hb
    rw [hg] at hb
    injection hb with hb
    injection hb with _ hb _
    exact hT hb.symm
end

theorem has_any_f (r k : Nat) (T : TypeId) (cs : List Value) (A : Option Addr) (n c : Nat) (S : List Int) (x : Int) (w : World) (hb : Blk w r T cs) (hk : cs[k]? = some (.slice A n c)) (h : OwI w A n c S) (hS : Rising S) (hn : n ≤ 1000000) :
    Calls Try.prog 34 #[.pointer (some ⟨r, k, none⟩), .int .i64 x] w fun e w' => e = .returned (.bool (decide (x ∈ S))) ∧ ∃ q, w' = w.drewN q := by
  have hc : w.cell? ⟨r, k, none⟩ = some (.slice A n c) := by rw [hb.cell]; exact hk
  have H := kept (fun w hO => search_any A n c S x w hO hS hn)
  have HO := kept h
  obtain ⟨d, hd⟩ : ∃ d, decide (x ∈ S) = d := ⟨_, rfl⟩
  rw [hd] at H ⊢
  clear hb hk h hS hn hd
  go_enter Try.func34, Try.ntmps34
  go_wp2_with (first | (go_at_call 31; (with_reducible refine (H.out _ HO.out).mono ?_); rintro e w' ⟨rfl, q, rfl⟩))
  go_ret
  exact ⟨rfl, q, rfl⟩

theorem OwI.drewN {w : World} {A : Option Addr} {n c : Nat} {S : List Int} (h : OwI w A n c S) (q : Nat) : OwI (w.drewN q) A n c S := h
theorem OwI.drew {w : World} {A : Option Addr} {n c : Nat} {S : List Int} (h : OwI w A n c S) : OwI w.drew A n c S := h
theorem OwI.alloc {w : World} {A : Option Addr} {n c : Nat} {S : List Int} (h : OwI w A n c S) (o : Obj) : OwI (w.alloc o) A n c S := h.turned ((Turned.refl w (fun _ => False)).alloc o) fun _ _ h => h
theorem OwI.ne_new {w : World} {A : Option Addr} {n c : Nat} {S : List Int} (h : OwI w A n c S) : blkOf A ≠ some w.heap.size := fun e => Nat.lt_irrefl _ (h.lt e)

set_option maxHeartbeats 1000000 in
theorem add_any_f (r k : Nat) (T : TypeId) (cs : List Value) (A : Option Addr) (n c : Nat) (S : List Int) (x : Int) (w : World) (hb : Blk w r T cs) (hT : T ≠ 3) (hk : cs[k]? = some (.slice A n c)) (h : OwI w A n c S) (hS : Rising S) (hn : n ≤ 1000000) :
    Calls Try.prog 26 #[.pointer (some ⟨r, k, none⟩), .int .i64 x] w fun e w' => e = .returned (.bool (!decide (x ∈ S))) ∧ Hid (∃ A' n' c', Blk w' r T (cs.set k (.slice A' n' c')) ∧ OwI w' A' n' c' (addI x S) ∧
      Turned w w' (fun j => j = r ∨ blkOf A = some j) ∧ (∀ g, blkOf A' = some g → blkOf A = some g ∨ w.heap.size ≤ g)) := by
  have hc : w.cell? ⟨r, k, none⟩ = some (.slice A n c) := by rw [hb.cell]; exact hk
  have H := kept (fun w hO => search_any A n c S x w hO hS hn)
  have HO := kept h
  have HB := kept hb
  have hz : w.frozen? ⟨r, k, none⟩ = false := hb.frozen k
  have hset : cs.set k (.slice A n c) = cs := by
    apply List.ext_getElem?
    intro j
    rw [List.getElem?_set]
    split
    · rename_i e
      subst e
      have := (List.getElem?_eq_some_iff.1 hk).1
      rw [if_pos this, hk]
    · rfl
  by_cases hm : x ∈ S
  · have hd : decide (x ∈ S) = true := by simpa using hm
    have HE := kept (show addI x S = S by unfold addI; rw [if_pos hm])
    have HS := kept hset
    rw [hd] at H ⊢
    clear hb hk h hS hn hd hm hset hz
    go_enter Try.func26, Try.ntmps26
    go_wp2_with (first | (go_at_call 31; (with_reducible refine (H.out _ HO.out).mono ?_); rintro e w' ⟨rfl, q, rfl⟩))
    go_ret
    refine ⟨rfl, kept ⟨A, n, c, ?_, ?_, (Turned.refl _ _).drewN q, fun g hg => .inl hg⟩⟩
    · rw [HS.out]; exact HB.out
    · rw [HE.out]; exact HO.out
  · have hd : decide (x ∈ S) = false := by simpa using hm
    have HE := kept (show addI x S = S.take (under x S) ++ x :: S.drop (under x S) by unfold addI; rw [if_neg hm, hS.at_])
    have HNB := kept (And.intro (h.not_blk hb hT) hb.lt)
    have HI := kept (fun (q : Nat) => insert_any A n c (under x S) w.heap.size S x ((w.drewN q).alloc (.cells #[.int .i64 x] 3)) ((h.drewN q).alloc _) (by rw [← h.1]; exact under_le x S) hn (Blk.new (w.drewN q) _ _) h.ne_new)
    have HR := kept (fun (q : Nat) (W : World) (t : Turned ((w.drewN q).alloc (.cells #[.int .i64 x] 3)) W (fun j => blkOf A = some j)) =>
      show Hid (Blk W r T cs) ∧ W.cell? ⟨r, k, none⟩ = some (.slice A n c) ∧ W.frozen? ⟨r, k, none⟩ = false ∧ Hid (Turned w W (fun j => blkOf A = some j)) from by
        have t' : Turned w W (fun j => blkOf A = some j) := (((Turned.refl w _).drewN q).alloc _).trans t
        have hb' := t'.blk hb (h.not_blk hb hT)
        exact ⟨hb', by rw [hb'.cell]; exact hk, hb'.frozen k, t'⟩)
    rw [hd] at H ⊢
    clear hb hk h hS hn hd hm hset
    generalize under x S = u at H HE HI
    go_enter Try.func26, Try.ntmps26
    go_wp2_with (first | (go_at_call 31; (with_reducible refine (H.out _ HO.out).mono ?_); rintro e w' ⟨rfl, q, rfl⟩) | (go_at_call 32; (with_reducible refine (HI.out q).mono ?_); rintro e w2 ⟨A2, c2, rfl, o2, t2, g2⟩; obtain ⟨b3, c3, z3, t3⟩ := HR.out q w2 t2 ; have O2 := kept o2 ; have G2 := kept g2 ; clear o2 t2 g2 hc hz))
    go_ret
    refine ⟨rfl, kept ⟨A2, n + 1, c2, b3.out.set_ k _, ?_, ?_, fun g hg => ?_⟩⟩
    · rw [HE.out]
      exact O2.out.keep fun g hg => Below.heap_setCell w2 _ _ g (fun e => by
        obtain rfl : g = r := e
        rcases G2.out g hg with h1 | h1
        · exact HNB.out.1 h1
        · have := HNB.out.2; have h1 : (w.drewN q).heap.size + 1 ≤ g := by simpa using h1
          have h2 : (w.drewN q).heap.size = w.heap.size := rfl
          omega)
    · exact (t3.out.mono fun j _ hj => .inr hj).setCell (fun _ => .inl rfl) _
    · rcases G2.out g hg with h1 | h1
      · exact .inl h1
      · right
        have h1 : (w.drewN q).heap.size + 1 ≤ g := by simpa using h1
        have h2 : (w.drewN q).heap.size = w.heap.size := rfl
        omega

theorem take_any_f (r k : Nat) (T : TypeId) (cs : List Value) (A : Option Addr) (n c : Nat) (x : Int) (S : List Int) (w : World) (hb : Blk w r T cs) (hT : T ≠ 3) (hk : cs[k]? = some (.slice A (n + 1) c)) (h : OwI w A (n + 1) c (x :: S)) :
    Calls Try.prog 27 #[.pointer (some ⟨r, k, none⟩)] w fun e w' => e = .returned (.tuple #[.int .i64 x, .bool true]) ∧ Hid (Blk w' r T (cs.set k (.slice A n c)) ∧ OwI w' A n c S ∧
      Turned w w' (fun j => j = r ∨ blkOf A = some j) ∧ w'.heap.size = w.heap.size) := by
  have hc : w.cell? ⟨r, k, none⟩ = some (.slice A (n + 1) c) := by rw [hb.cell]; exact hk
  have HB := kept hb
  have hz : w.frozen? ⟨r, k, none⟩ = false := hb.frozen k
  obtain ⟨g, hA⟩ := h.head (by omega)
  have h0 : w.cell? ⟨g, 0, none⟩ = some (.int .i64 x) := h.cell hA (by omega)
  have HD := kept (delete_any A n c x S w h)
  have HR := kept (fun (W : World) (t : Turned w W (fun j => blkOf A = some j)) =>
    show Hid (Blk W r T cs) ∧ W.cell? ⟨r, k, none⟩ = some (.slice A (n + 1) c) ∧ W.frozen? ⟨r, k, none⟩ = false from by
      have hb' := t.blk hb (h.not_blk hb hT)
      exact ⟨hb', by rw [hb'.cell]; exact hk, hb'.frozen k⟩)
  have HN := kept (h.not_blk hb hT)
  have hn1 : ((n + 1 : Nat) : Int) ≠ 0 := by omega
  have hn2 : 0 < n + 1 := by omega
  subst hA
  clear hb hk h
  go_enter Try.func27, Try.ntmps27
  go_wp2_with (first | (go_at_call 33; (with_reducible refine (HD.out).mono ?_); rintro e w2 ⟨rfl, o2, t2, s2⟩; obtain ⟨b3, c3, z3⟩ := HR.out w2 t2 ; have O2 := kept o2 ; have T2 := kept t2 ; have S2 := kept s2 ; clear o2 t2 s2 hc hz h0))
  go_returns
  refine ⟨rfl, kept ⟨b3.out.set_ k _, ?_, ?_, ?_⟩⟩
  · exact O2.out.keep fun j hj => Below.heap_setCell w2 _ _ j (fun e => HN.out (by obtain rfl : j = r := e; exact hj))
  · exact (T2.out.mono fun j _ hj => .inr hj).setCell (fun _ => .inl rfl) _
  · simpa [World.setCell] using S2.out

theorem take_none_f (r k : Nat) (T : TypeId) (cs : List Value) (A : Option Addr) (c : Nat) (w : World) (hb : Blk w r T cs) (hk : cs[k]? = some (.slice A 0 c)) :
    Calls Try.prog 27 #[.pointer (some ⟨r, k, none⟩)] w fun e w' => e = .returned (.tuple #[.int .i64 0, .bool false]) ∧ w = w' := by
  have hc : w.cell? ⟨r, k, none⟩ = some (.slice A 0 c) := by rw [hb.cell]; exact hk
  clear hb hk
  go_enter Try.func27, Try.ntmps27
  go_wp2
  go_returns
  exact ⟨rfl, rfl⟩

theorem all_any_f (r k : Nat) (T : TypeId) (cs : List Value) (A : Option Addr) (n c : Nat) (S : List Int) (w : World) (hb : Blk w r T cs) (hk : cs[k]? = some (.slice A n c)) (h : OwI w A n c S) (hn : n ≤ 1000000) :
    Calls Try.prog 29 #[.pointer (some ⟨r, k, none⟩)] w fun e w' => ∃ A' c', e = .returned (.slice A' n c') ∧ Hid (OwI w' A' n c' S ∧ Below w.heap.size w w' ∧ ∀ g, blkOf A' = some g → w.heap.size ≤ g) := by
  have hc : w.cell? ⟨r, k, none⟩ = some (.slice A n c) := by rw [hb.cell]; exact hk
  have HC := kept (clone_any_i A n c S w h hn)
  clear hb hk h hn
  go_enter Try.func29, Try.ntmps29
  go_wp2_with (first | (go_at_call 35; (with_reducible refine (HC.out).mono ?_); rintro e w2 ⟨A2, c2, rfl, o2⟩; have O2 := kept o2 ; clear o2))
  go_ret
  exact ⟨_, _, rfl, O2⟩

theorem apart_any_f (r k : Nat) (T : TypeId) (cs : List Value) (A : Option Addr) (n c : Nat) (S : List Int) (w : World) (hb : Blk w r T cs) (hk : cs[k]? = some (.slice A n c)) (h : OwI w A n c S) (hn : n ≤ 1000000) :
    Calls Try.prog 30 #[.pointer (some ⟨r, k, none⟩)] w fun e w' => ∃ A' c', e = .returned (.agg #[.slice A' n c']) ∧ Hid (OwI w' A' n c' S ∧ Below w.heap.size w w' ∧ ∀ g, blkOf A' = some g → w.heap.size ≤ g) := by
  have hlt : r < w.heap.size := hb.lt
  have HA := kept (fun (W : World) (hb' : Blk W r T cs) (h' : OwI W A n c S) => all_any_f r k T cs A n c S W hb' hk h' hn)
  have HW := kept (fun o => (hb.alloc o : Blk (w.alloc o) r T cs))
  have HO := kept (fun o => h.alloc (o := o))
  have HX := kept (fun (W : World) (hbl : Below (w.alloc (.cells #[.slice none 0 0] 52)).heap.size (w.alloc (.cells #[.slice none 0 0] 52)) W) =>
    show Hid (Blk W w.heap.size 52 [.slice none 0 0]) ∧ W.cell? ⟨w.heap.size, 0, none⟩ = some (.slice none 0 0) ∧ W.frozen? ⟨w.heap.size, 0, none⟩ = false from by
      have hx := (Blk.new w 52 #[.slice none 0 0]).below hbl (by simp)
      exact ⟨hx, hx.cell 0, hx.frozen 0⟩)
  clear hb hk h hn
  go_enter Try.func30, Try.ntmps30
  go_wp2_with (first | (go_at_call 29; (with_reducible refine (HA.out _ (HW.out _) (HO.out _)).mono ?_); rintro e w2 ⟨A2, c2, rfl, o2⟩; obtain ⟨b3, c3, z3⟩ := HX.out w2 o2.out.2.1))
  have e3 := b3.out.set_ 0 (.slice A2 n c2)
  have c4 : (w2.setCell ⟨w.heap.size, 0, none⟩ (.slice A2 n c2)).cell? ⟨w.heap.size, 0, none⟩ = some (.slice A2 n c2) := e3.cell 0
  clear c3 z3
  refine bodyPost_ret (v := .agg #[.slice A2 n c2]) (by simp [results, Try.results30, go_sem, c4]) rfl ?_
  refine ⟨A2, c2, rfl, kept ⟨?_, ?_, ?_⟩⟩
  · exact o2.out.1.keep fun g hg => Below.heap_setCell w2 _ _ g (fun e => by
      have e : g = w.heap.size := e
      have := o2.out.2.2 g hg
      simp at this
      omega)
  · have h1 : Below w.heap.size w w2 := ((Below.refl _ w).alloc (Nat.le_refl _) _).trans (o2.out.2.1.mono (by simp))
    exact h1.setCell (Nat.le_refl _) _
  · intro g hg
    have := o2.out.2.2 g hg
    simp at this
    omega
end Go.Proofs.Ytahciaccnblfoaa
