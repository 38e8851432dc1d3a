/-
  What is read of a page's body is the page. No program is named.
-/
import Derived.Test.YtfgpkgenahlikaaDoorDcd
import Derived.Test.YtfgpkgenahlikaaDoorFr
namespace Go.Proofs.YtfgpkgenahlikaaDoor
open Go.ChangeShapes Go.WideShapes Go.ChangeAt Go.RowKit
set_option linter.unusedVariables false
set_option linter.unusedSimpArgs false

theorem page_small {i : Int} (h : isPg i = true) : 0 ≤ i ∧ i < 1024 := by
  unfold isPg at h
  simp only [Bool.and_eq_true, decide_eq_true_eq] at h
  omega
theorem Fro.id {ys zs : List UInt8} {pos : Nat} {i : Int} (h : Fro ys pos (encId i ++ zs)) (h0 : 0 ≤ i) (h1 : i < 1024) : rid ys (pos, 0) = (i, (pos + (encId i).length, 0)) ∧ Fro ys (pos + (encId i).length) zs := by
  obtain ⟨e, h2⟩ := h.num (by omega)
  rw [encId_length]
  exact ⟨by unfold rid; rw [e]; simp only [Prod.mk.injEq, and_true]; omega, h2⟩
theorem Fro.kid {ys zs : List UInt8} {pos : Nat} {x : Kd} (h : Fro ys pos (encKid x ++ zs)) (hx : kidOk x = true) : rkid ys (pos, 0) = (x, (pos + (encKid x).length, 0)) ∧ Fro ys (pos + (encKid x).length) zs := by
  unfold kidOk at hx
  simp only [Bool.and_eq_true, decide_eq_true_eq] at hx
  obtain ⟨p0, p1⟩ := page_small hx.2
  unfold encKid at h
  rw [List.append_assoc, List.append_assoc] at h
  obtain ⟨e1, h1⟩ := h.num (by omega)
  obtain ⟨e2, h2⟩ := h1.bytes rfl
  obtain ⟨e3, h3⟩ := h2.num (by omega)
  have hl : pos + (encKid x).length = pos + 1 + x.key.length + 4 := by
    rw [encKid_length]
    unfold kidUse
    omega
  rw [hl]
  refine ⟨?_, h3⟩
  simp only [rkid, e1, e2, e3, Prod.mk.injEq, and_true]
  obtain ⟨key, page⟩ := x
  simp only [Kd.mk.injEq, true_and]
  simp only at p0
  omega
theorem Fro.item {ys zs : List UInt8} {pos : Nat} {x : Itm} (h : Fro ys pos (encItem x ++ zs)) (hx : itemOk x = true) : ritem ys (pos, 0) = (x, (pos + (encItem x).length, 0)) ∧ Fro ys (pos + (encItem x).length) zs := by
  unfold itemOk at hx
  simp only [Bool.and_eq_true, decide_eq_true_eq] at hx
  obtain ⟨⟨⟨hk, s0⟩, s1⟩, hv⟩ := hx
  rw [encItem_length]
  unfold encItem at h
  rw [List.append_assoc, List.append_assoc, List.append_assoc] at h
  obtain ⟨e1, h1⟩ := h.num (by omega)
  obtain ⟨e2, h2⟩ := h1.num (by omega)
  obtain ⟨e3, h3⟩ := h2.bytes rfl
  obtain ⟨key, val, size, more⟩ := x
  simp only at s0 s1 hk hv e1 e2 e3 h1 h2 h3 ⊢
  by_cases hin : size ≤ 64
  · rw [if_pos hin] at hv h3
    simp only [Bool.and_eq_true, decide_eq_true_eq] at hv
    obtain ⟨hv1, rfl⟩ := hv
    obtain ⟨e4, h4⟩ := h3.bytes (k := size.toNat) (by omega)
    have hl : pos + itemUse ⟨key, val, size, 0⟩ = pos + 1 + 2 + key.length + size.toNat := by
      unfold itemUse
      simp only [if_pos hin]
      omega
    rw [hl]
    refine ⟨?_, h4⟩
    have hn : size.toNat ≤ 64 := by omega
    simp only [ritem, e1, e2, e3, if_pos hn, e4, Prod.mk.injEq, Itm.mk.injEq, and_true, true_and]
    omega
  · rw [if_neg hin] at hv h3
    simp only [Bool.and_eq_true, decide_eq_true_eq] at hv
    obtain ⟨hv1, hm⟩ := hv
    obtain rfl := List.eq_nil_of_length_eq_zero hv1
    obtain ⟨p0, p1⟩ := page_small hm
    obtain ⟨e4, h4⟩ := h3.num (k := 4) (v := more.toNat) (by omega)
    have hl : pos + itemUse ⟨key, [], size, more⟩ = pos + 1 + 2 + key.length + 4 := by
      unfold itemUse
      simp only [if_neg hin]
      omega
    rw [hl]
    refine ⟨?_, h4⟩
    have hn : ¬ size.toNat ≤ 64 := by omega
    simp only [ritem, e1, e2, e3, if_neg hn, e4, Prod.mk.injEq, Itm.mk.injEq, and_true, true_and]
    omega
theorem Fro.list {α : Type} {ys : List UInt8} {one : St → α × St} {f : α → List UInt8} {zs : List UInt8} : ∀ (I : List α) (pos : Nat), (∀ x ∈ I, ∀ p us, Fro ys p (f x ++ us) → one (p, 0) = (x, (p + (f x).length, 0)) ∧ Fro ys (p + (f x).length) us) →
    Fro ys pos ((I.map f).flatten ++ zs) → rlist one I.length (pos, 0) = (I, (pos + ((I.map f).flatten).length, 0)) ∧ Fro ys (pos + ((I.map f).flatten).length) zs
  | [], pos, _, h => ⟨by simp [rlist], by simpa using h⟩
  | x :: r, pos, ho, h => by
    rw [List.map_cons, List.flatten_cons, List.append_assoc] at h
    obtain ⟨e1, h1⟩ := ho x (by simp) pos _ h
    obtain ⟨e2, h2⟩ := Fro.list r _ (fun y hy => ho y (by simp [hy])) h1
    have hl : pos + (((x :: r).map f).flatten).length = pos + (f x).length + ((r.map f).flatten).length := by
      simp only [List.map_cons, List.flatten_cons, List.length_append]
      omega
    rw [hl]
    refine ⟨?_, h2⟩
    simp only [List.length_cons, rlist, ne_eq, not_true_eq_false, if_false, e1, e2]
theorem body_reads {P : Pg} (hR : rightB P = true) (t0 : 0 ≤ P.txn) (t1 : P.txn < 18446744073709551616) : DecP (bodyOf P) P := by
  obtain ⟨hown, hnext, hth, hu⟩ := right_parts hR
  obtain ⟨k1, k4⟩ := own_kind hown
  obtain ⟨x0, x1⟩ := next_range hnext
  have hcnt := cntP_le hu
  have hz : ∀ m, zeroB (List.replicate m 0) = true := fun m => by
    unfold zeroB
    rw [List.all_eq_true]
    intro x hx
    obtain ⟨_, rfl⟩ := List.mem_replicate.1 hx
    rfl
  have h0 : Fro (bodyOf P) 0 (be P.kind.toNat 1 ++ (be P.txn.toNat 8 ++ (be P.next.toNat 4 ++ (be (cntP P) 2 ++ (roomOf P ++ List.replicate (252 - (encPg P).length) 0))))) := ⟨by simp [bodyOf, pad, encPg, List.append_assoc], Nat.zero_le _⟩
  obtain ⟨e1, h1⟩ := h0.num (by omega)
  obtain ⟨e2, h2⟩ := h1.num (by omega)
  obtain ⟨e3, h3⟩ := h2.num (by omega)
  obtain ⟨e4, h4⟩ := h3.num (by omega)
  unfold thingsB at hth
  simp only [Bool.and_eq_true] at hth
  obtain ⟨⟨o1, o2⟩, o3⟩ := hth
  generalize hb : bodyOf P = ys at *
  generalize hm : 252 - (encPg P).length = m at *
  obtain ⟨kind, txn, next, I, J, D, N⟩ := P
  unfold ownB at hown
  simp only [Bool.and_eq_true, Bool.or_eq_true, decide_eq_true_eq] at hown
  simp only at *
  have hkd : kind = 1 ∨ kind = 2 ∨ kind = 3 ∨ kind = 4 := by omega
  have et : ((txn.toNat : Nat) : Int) = txn := by omega
  have ex : ((next.toNat : Nat) : Int) = next := by omega
  unfold DecP
  rcases hkd with rfl | rfl | rfl | rfl
  · obtain rfl : J = [] := List.eq_nil_of_length_eq_zero (by omega)
    obtain rfl : D = [] := List.eq_nil_of_length_eq_zero (by omega)
    obtain rfl : N = [] := List.eq_nil_of_length_eq_zero (by omega)
    simp only [cntP, roomOf, List.length_nil, Nat.add_zero, List.map_nil, List.flatten_nil, List.append_nil, Nat.zero_add] at e4 h4
    obtain ⟨e5, h5⟩ := Fro.list (one := ritem ys) I _ (fun x hx p us hf => hf.item (ordU_all o1 x hx)) h4
    have hr : rpage ys (0, 0) = (⟨1, txn, next, I, [], [], []⟩, (0 + 1 + 8 + 4 + 2 + ((I.map encItem).flatten).length, 0)) := by
      simp only [rpage, e1, e2, e3, e4, e5, et, ex, show (1 : Int).toNat = 1 from rfl, if_true]
    rw [hr]
    exact ⟨rfl, rfl, by rw [h5.1]; exact hz _, hR⟩
  · obtain rfl : I = [] := List.eq_nil_of_length_eq_zero (by omega)
    obtain rfl : D = [] := List.eq_nil_of_length_eq_zero (by omega)
    obtain rfl : N = [] := List.eq_nil_of_length_eq_zero (by omega)
    simp only [cntP, roomOf, List.length_nil, Nat.add_zero, List.map_nil, List.flatten_nil, List.append_nil, List.nil_append, Nat.zero_add] at e4 h4
    obtain ⟨e5, h5⟩ := Fro.list (one := rkid ys) J _ (fun x hx p us hf => hf.kid (ordU_all o2 x hx)) h4
    have hr : rpage ys (0, 0) = (⟨2, txn, next, [], J, [], []⟩, (0 + 1 + 8 + 4 + 2 + ((J.map encKid).flatten).length, 0)) := by
      simp only [rpage, e1, e2, e3, e4, e5, et, ex, show (2 : Int).toNat = 2 from rfl, if_true, show ¬ (2 : Nat) = 1 by omega, if_false]
    rw [hr]
    exact ⟨rfl, rfl, by rw [h5.1]; exact hz _, hR⟩
  · obtain rfl : I = [] := List.eq_nil_of_length_eq_zero (by omega)
    obtain rfl : J = [] := List.eq_nil_of_length_eq_zero (by omega)
    obtain rfl : N = [] := List.eq_nil_of_length_eq_zero (by omega)
    simp only [cntP, roomOf, List.length_nil, Nat.add_zero, List.map_nil, List.flatten_nil, List.append_nil, List.nil_append, Nat.zero_add] at e4 h4
    obtain ⟨e5, h5⟩ := h4.bytes rfl
    have hr : rpage ys (0, 0) = (⟨3, txn, next, [], [], D, []⟩, (0 + 1 + 8 + 4 + 2 + D.length, 0)) := by
      simp only [rpage, e1, e2, e3, e4, e5, et, ex, show (3 : Int).toNat = 3 from rfl, if_true, show ¬ (3 : Nat) = 1 by omega, show ¬ (3 : Nat) = 2 by omega, if_false]
    rw [hr]
    exact ⟨rfl, rfl, by rw [h5.1]; exact hz _, hR⟩
  · obtain rfl : I = [] := List.eq_nil_of_length_eq_zero (by omega)
    obtain rfl : J = [] := List.eq_nil_of_length_eq_zero (by omega)
    obtain rfl : D = [] := List.eq_nil_of_length_eq_zero (by omega)
    simp only [cntP, roomOf, List.length_nil, Nat.add_zero, List.map_nil, List.flatten_nil, List.append_nil, List.nil_append, Nat.zero_add] at e4 h4
    obtain ⟨e5, h5⟩ := Fro.list (one := rid ys) N _ (fun x hx p us hf => hf.id (page_small (ordU_all o3 x hx)).1 (page_small (ordU_all o3 x hx)).2) h4
    have hr : rpage ys (0, 0) = (⟨4, txn, next, [], [], [], N⟩, (0 + 1 + 8 + 4 + 2 + ((N.map encId).flatten).length, 0)) := by
      simp only [rpage, e1, e2, e3, e4, e5, et, ex, show (4 : Int).toNat = 4 from rfl, if_true, show ¬ (4 : Nat) = 1 by omega, show ¬ (4 : Nat) = 2 by omega, show ¬ (4 : Nat) = 3 by omega, if_false]
    rw [hr]
    exact ⟨rfl, rfl, by rw [h5.1]; exact hz _, hR⟩
/-- Bodies tell pages apart. -/
theorem body_inj {P Q : Pg} (hP : rightB P = true) (hQ : rightB Q = true) (p0 : 0 ≤ P.txn) (p1 : P.txn < 18446744073709551616) (q0 : 0 ≤ Q.txn) (q1 : Q.txn < 18446744073709551616) (h : bodyOf P = bodyOf Q) : P = Q := by
  have h1 := (body_reads hP p0 p1).1
  have h2 := (body_reads hQ q0 q1).1
  rw [h] at h1
  exact h1.symm.trans h2
end Go.Proofs.YtfgpkgenahlikaaDoor
