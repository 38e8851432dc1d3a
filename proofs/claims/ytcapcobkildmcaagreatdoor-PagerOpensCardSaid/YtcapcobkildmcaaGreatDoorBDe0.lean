/- De0 -/
import Derived.Test.YtcapcobkildmcaaGreatDoorBRp
import Derived.Test.YtcapcobkildmcaaGreatDoorBPh
import Derived.Test.YtcapcobkildmcaaGreatDoorBWr
import Derived.Test.YtcapcobkildmcaaGreatDoorBRok
section
/-
 A body that is a page's is the page's body; what stands while the document reads; its Decode of pages of no kind.
-/
namespace Go.Proofs.YtcapcobkildmcaaGreatDoor
open Go.ChangeShapes Go.WideShapes Go.ChangeAt Go.RowKit
set_option linter.unusedVariables false
set_option linter.unusedSimpArgs false
theorem sevC {w : World} {b : Nat} {t : TypeId} {v0 v1 v2 v3 v4 v5 v6 : Value} (h : Blk w b t [v0, v1, v2, v3, v4, v5, v6]) : w.cell? ⟨b, 0, none⟩ = some v0 ∧ w.cell? ⟨b, 1, none⟩ = some v1 ∧ w.cell? ⟨b, 2, none⟩ = some v2 ∧ w.cell? ⟨b, 3, none⟩ = some v3 ∧ w.cell? ⟨b, 4, none⟩ = some v4 ∧ w.cell? ⟨b, 5, none⟩ = some v5 ∧ w.cell? ⟨b, 6, none⟩ = some v6 :=
 ⟨h.cell 0, h.cell 1, h.cell 2, h.cell 3, h.cell 4, h.cell 5, h.cell 6⟩
theorem sevF {w : World} {b : Nat} {t : TypeId} {cs : List Value} (h : Blk w b t cs) : w.frozen? ⟨b, 0, none⟩ = false ∧ w.frozen? ⟨b, 1, none⟩ = false ∧ w.frozen? ⟨b, 2, none⟩ = false ∧ w.frozen? ⟨b, 3, none⟩ = false ∧ w.frozen? ⟨b, 4, none⟩ = false ∧ w.frozen? ⟨b, 5, none⟩ = false ∧ w.frozen? ⟨b, 6, none⟩ = false :=
 ⟨h.frozen 0, h.frozen 1, h.frozen 2, h.frozen 3, h.frozen 4, h.frozen 5, h.frozen 6⟩
theorem part_app (xs : List UInt8) (p a b : Nat) : part xs p (a + b) = part xs p a ++ part xs (p + a) b := by
 unfold part; rw [List.take_add, List.drop_drop]
structure Got (ys : List UInt8) (s t : Rst) (zs : List UInt8) : Prop where
 a : s.2 = 0
 b : t.2 = 0
 at_ : t.1 = s.1 + zs.length
 le : t.1 ≤ ys.length
 is_ : part ys s.1 zs.length = zs
theorem Got.trans {ys : List UInt8} {s t u : Rst} {xs zs : List UInt8} (h : Got ys s t xs) (k : Got ys t u zs) : Got ys s u (xs ++ zs) :=
 ⟨h.a, k.b, by rw [k.at_, h.at_, List.length_append]; omega, k.le, by rw [List.length_append, part_app, h.is_, ← h.at_, k.is_]⟩
theorem got_num {ys : List UInt8} {k : Nat} {s : Rst} (h : (rnum ys k s).2.2 = 0) : Got ys s (rnum ys k s).2 (be (rnum ys k s).1 k) := by
 unfold rnum at h ⊢; by_cases h0 : s.2 = 0
 · by_cases hk : s.1 + k ≤ ys.length
   · simp only [h0, ne_eq, not_true_eq_false, if_false, hk, if_true]; have hl := part_length ys s.1 k hk; have e := be_num (part ys s.1 k) 0; rw [hl] at e; exact ⟨h0, rfl, by rw [e, hl], hk, by rw [e, hl]⟩
   · simp only [h0, ne_eq, not_true_eq_false, if_false, hk] at h; exact absurd h (by decide)
 · simp only [h0, ne_eq, not_false_eq_true, if_true] at h
theorem got_bytes {ys : List UInt8} {k : Nat} {s : Rst} (h : (rbytes ys k s).2.2 = 0) : Got ys s (rbytes ys k s).2 (rbytes ys k s).1 ∧ (rbytes ys k s).1.length = k := by
 unfold rbytes at h ⊢; by_cases h0 : s.2 = 0
 · by_cases hk : s.1 + k ≤ ys.length
   · simp only [h0, ne_eq, not_true_eq_false, if_false, hk, if_true]; have hl := part_length ys s.1 k hk; exact ⟨⟨h0, rfl, by rw [hl], hk, by rw [hl]⟩, hl⟩
   · simp only [h0, ne_eq, not_true_eq_false, if_false, hk] at h; exact absurd h (by decide)
 · simp only [h0, ne_eq, not_false_eq_true, if_true] at h
theorem got_id {ys : List UInt8} {s : Rst} (h : (rid ys s).2.2 = 0) : Got ys s (rid ys s).2 (encId (rid ys s).1) := by
 unfold rid at h ⊢; exact got_num h
theorem got_kid {ys : List UInt8} {s : Rst} (h : (rkid ys s).2.2 = 0) : Got ys s (rkid ys s).2 (encKid (rkid ys s).1) := by
 unfold rkid at h ⊢; simp only at h ⊢; have h3 := got_num h; obtain ⟨h2, hl⟩ := got_bytes h3.a; have h1 := got_num h2.a; have := (h1.trans h2).trans h3; unfold encKid; simp only [hl, Int.toNat_natCast]; exact this
theorem got_item {ys : List UInt8} {s : Rst} (h : (ritem ys s).2.2 = 0) : Got ys s (ritem ys s).2 (encItem (ritem ys s).1) := by
 unfold ritem at h ⊢; by_cases hz : (rnum ys 2 (rnum ys 1 s).2).1 ≤ 64
 · simp only [hz, if_true] at h ⊢; obtain ⟨h4, hl4⟩ := got_bytes h; obtain ⟨h3, hl⟩ := got_bytes h4.a; have h2 := got_num h3.a; have h1 := got_num h2.a; have := ((h1.trans h2).trans h3).trans h4; unfold encItem; simp only [hl, Int.toNat_natCast]; rw [if_pos (by omega)]; exact this
 · simp only [hz, if_false] at h ⊢; have h4 := got_num h; obtain ⟨h3, hl⟩ := got_bytes h4.a; have h2 := got_num h3.a; have h1 := got_num h2.a; have := ((h1.trans h2).trans h3).trans h4; unfold encItem; simp only [hl, Int.toNat_natCast]; rw [if_neg (by omega)]; exact this
def rmany {α : Type} (one : Rst → α × Rst) : Nat → Rst → List α × Rst
 | 0, s => ([], s)
 | k + 1, s => ((one s).1 :: (rmany one k (one s).2).1, (rmany one k (one s).2).2)
theorem rmany_snoc {α : Type} (one : Rst → α × Rst) : ∀ (k : Nat) (s : Rst), rmany one (k + 1) s = ((rmany one k s).1 ++ [(one (rmany one k s).2).1], (one (rmany one k s).2).2)
 | 0, s => by simp [rmany]
 | k + 1, s => by
   rw [show rmany one (k + 1 + 1) s = ((one s).1 :: (rmany one (k + 1) (one s).2).1, (rmany one (k + 1) (one s).2).2) from rfl, rmany_snoc one k]; simp [rmany]
theorem rlist_start {α : Type} {one : Rst → α × Rst} {k : Nat} {s : Rst} (h : (rlist one k s).2.2 = 0) : s.2 = 0 := by
 cases k with
 | zero => exact h
 | succ k =>
   by_cases h0 : s.2 = 0
   · exact h0
   · simp only [rlist, h0, ne_eq, not_false_eq_true, if_true] at h
theorem got_list {α : Type} {ys : List UInt8} {one : Rst → α × Rst} {f : α → List UInt8} (ho : ∀ s, (one s).2.2 = 0 → Got ys s (one s).2 (f (one s).1)) : ∀ (k : Nat) (s : Rst), s.1 ≤ ys.length → (rlist one k s).2.2 = 0 →
 Got ys s (rlist one k s).2 (((rlist one k s).1.map f).flatten) ∧ (rlist one k s).1.length = k ∧ rmany one k s = rlist one k s
 | 0, s, hs, h => ⟨⟨h, h, rfl, hs, by simp [rlist, part]⟩, rfl, rfl⟩
 | k + 1, s, hs, h => by
   by_cases h0 : s.2 = 0
   · simp only [rlist, h0, ne_eq, not_true_eq_false, if_false] at h ⊢; have key : (one s).2.2 = 0 := by
      cases k with
      | zero => exact h
      | succ k =>
        by_cases hh : (one s).2.2 = 0
        · exact hh
        · simp only [rlist, hh, ne_eq, not_false_eq_true, if_true] at h
     have h1 := ho s key; obtain ⟨h2, h3, h4⟩ := got_list ho k (one s).2 h1.le h; refine ⟨?_, by simp [h3], by simp only [rmany, h4]⟩; rw [List.map_cons, List.flatten_cons]; exact h1.trans h2
   · simp only [rlist, h0, ne_eq, not_false_eq_true, if_true] at h
theorem many_bytes {ys : List UInt8} : ∀ (k pos : Nat), pos + k ≤ ys.length → (rmany (rbytes ys 1) k (pos, 0)).1.flatten = part ys pos k
 | 0, pos, h => by simp [rmany, part]
 | k + 1, pos, h => by
   have e : rbytes ys 1 (pos, 0) = (part ys pos 1, (pos + 1, 0)) := by
    unfold rbytes; simp only [ne_eq, not_true_eq_false, if_false, show pos + 1 ≤ ys.length by omega, if_true]
   simp only [rmany, e, List.flatten_cons]; rw [many_bytes k (pos + 1) (by omega), Nat.add_comm k 1, part_app]
def refpage (xs : List UInt8) (s : Rst) : Pg :=
 let a := rnum xs 1 s
 let t := rnum xs 8 a.2
 let x := rnum xs 4 t.2
 let k := rnum xs 2 x.2
 let n := min k.1 240
 ⟨(a.1 : Int), (t.1 : Int), (x.1 : Int), if a.1 = 1 then (rmany (ritem xs) n k.2).1 else [], if a.1 = 2 then (rmany (rkid xs) n k.2).1 else [], if a.1 = 3 then (rmany (rbytes xs 1) n k.2).1.flatten else [], if a.1 = 4 then (rmany (rid xs) n k.2).1 else []⟩
theorem zeroB_rep {xs : List UInt8} (h : zeroB xs = true) : xs = List.replicate xs.length 0 :=
 List.eq_replicate_iff.2 ⟨rfl, fun x hx => by simpa using List.all_eq_true.1 h x hx⟩
theorem body_is {ys : List UInt8} {P : Pg} (hl : ys.length = 252) (h : DecP ys P) : bodyOf P = ys ∧ refpage ys (0, 0) = P ∧ 0 ≤ P.txn ∧ P.txn < 18446744073709551616 := by
 obtain ⟨hP, hE, hZ, hR⟩ := h; obtain ⟨hown, hnext, hth, hu⟩ := right_parts hR; have hc := cntP_le hu; have hkd : 1 ≤ P.kind ∧ P.kind ≤ 4 := own_kind hown; have ht : (rnum ys 8 (rnum ys 1 (0, 0)).2).1 < 256 ^ 8 := rnum_lt ys 8 _
 -- what has been got, and the count
 suffices hg : ∃ q, Got ys (0, 0) q (encPg P) ∧ q = (rpage ys (0, 0)).2 ∧ refpage ys (0, 0) = P ∧ P.txn = ((rnum ys 8 (rnum ys 1 (0, 0)).2).1 : Int) by
  obtain ⟨q, hq, he, hrp, htx⟩ := hg; have ha := hq.at_; have hle := hq.le; simp only [Nat.zero_add] at ha; have hi := hq.is_; simp only [part, List.drop_zero] at hi; refine ⟨?_, hrp, by omega, by rw [htx]; omega⟩; have hzz := zeroB_rep hZ; rw [← he, ha, List.length_drop, hl] at hzz; unfold bodyOf pad; rw [← hzz]
  conv => rhs; rw [← List.take_append_drop (encPg P).length ys]
  rw [hi]
 obtain ⟨a, ea⟩ : ∃ a, rnum ys 1 (0, 0) = a := ⟨_, rfl⟩
 obtain ⟨t, et⟩ : ∃ a', rnum ys 8 a.2 = a' := ⟨_, rfl⟩
 obtain ⟨x, ex⟩ : ∃ a', rnum ys 4 t.2 = a' := ⟨_, rfl⟩
 obtain ⟨k, ek⟩ : ∃ a', rnum ys 2 x.2 = a' := ⟨_, rfl⟩
 have gk : k.2.2 = 0 → Got ys (0, 0) k.2 (be a.1 1 ++ be t.1 8 ++ be x.1 4 ++ be k.1 2) := by
  intro h4; rw [← ek] at h4; have g4 := got_num h4; have g3 := got_num (ys := ys) (k := 4) (s := t.2) (by rw [ex]; exact g4.a); rw [ex] at g3; have g2 := got_num (ys := ys) (k := 8) (s := a.2) (by rw [et]; exact g3.a); rw [et] at g2; have g1 := got_num (ys := ys) (k := 1) (s := (0, 0)) (by rw [ea]; exact g2.a); rw [ea] at g1; rw [ek] at g4; exact ((g1.trans g2).trans g3).trans g4
 rw [ea, et]; simp only [rpage, ea, et, ex, ek] at hP hE ⊢; simp only [refpage, ea, et, ex, ek]; by_cases k1 : a.1 = 1
 · simp only [k1, if_true, if_false, Nat.reduceEqDiff] at hP hE ⊢; subst hP; have hk0 := rlist_start hE; obtain ⟨g5, l5, m5⟩ := got_list (fun s => got_item (ys := ys) (s := s)) k.1 k.2 (gk hk0).le hE; have hkk : min k.1 240 = k.1 := by simp only [cntP, l5, List.length_nil] at hc; omega
   refine ⟨_, ?_, rfl, by simp [hkk, m5], rfl⟩; have g := (gk hk0).trans g5; simp only [k1] at g; unfold encPg cntP roomOf; simp only [l5, List.length_nil, Nat.add_zero, Nat.zero_add, List.map_nil, List.flatten_nil, List.append_nil, List.nil_append, Int.toNat_natCast, show (1 : Int).toNat = 1 from rfl]; exact g
 by_cases k2 : a.1 = 2
 · simp only [k2, if_true, if_false, Nat.reduceEqDiff] at hP hE ⊢; subst hP; have hk0 := rlist_start hE; obtain ⟨g5, l5, m5⟩ := got_list (fun s => got_kid (ys := ys) (s := s)) k.1 k.2 (gk hk0).le hE; have hkk : min k.1 240 = k.1 := by simp only [cntP, l5, List.length_nil] at hc; omega
   refine ⟨_, ?_, rfl, by simp [hkk, m5], rfl⟩; have g := (gk hk0).trans g5; simp only [k2] at g; unfold encPg cntP roomOf; simp only [l5, List.length_nil, Nat.add_zero, Nat.zero_add, List.map_nil, List.flatten_nil, List.append_nil, List.nil_append, Int.toNat_natCast, show (2 : Int).toNat = 2 from rfl]; exact g
 by_cases k3 : a.1 = 3
 · simp only [k3, if_true, if_false, Nat.reduceEqDiff] at hP hE ⊢; subst hP; obtain ⟨g5, l5⟩ := got_bytes hE; have g0 := gk g5.a; have hkk : min k.1 240 = k.1 := by simp only [cntP, l5, List.length_nil] at hc; omega
   have hk2 : k.2 = (k.2.1, 0) := Prod.ext rfl g5.a; have hle : k.2.1 + k.1 ≤ ys.length := by have := g5.at_; have := g5.le; rw [l5] at *; omega
   have hb : (rbytes ys k.1 k.2).1 = part ys k.2.1 k.1 := by have := g5.is_; rw [l5] at this; exact this.symm
   refine ⟨_, ?_, rfl, ?_, rfl⟩
   · have g := g0.trans g5; simp only [k3] at g; unfold encPg cntP roomOf; simp only [l5, List.length_nil, Nat.add_zero, Nat.zero_add, List.map_nil, List.flatten_nil, List.append_nil, List.nil_append, Int.toNat_natCast, show (3 : Int).toNat = 3 from rfl]; exact g
   · rw [hkk, hb, hk2, many_bytes k.1 k.2.1 hle]; rfl
 by_cases k4 : a.1 = 4
 · simp only [k4, if_true, if_false, Nat.reduceEqDiff] at hP hE ⊢; subst hP; have hk0 := rlist_start hE; obtain ⟨g5, l5, m5⟩ := got_list (fun s => got_id (ys := ys) (s := s)) k.1 k.2 (gk hk0).le hE; have hkk : min k.1 240 = k.1 := by simp only [cntP, l5, List.length_nil] at hc; omega
   refine ⟨_, ?_, rfl, by simp [hkk, m5], rfl⟩; have g := (gk hk0).trans g5; simp only [k4] at g; unfold encPg cntP roomOf; simp only [l5, List.length_nil, Nat.add_zero, Nat.zero_add, List.map_nil, List.flatten_nil, List.append_nil, List.nil_append, Int.toNat_natCast, show (4 : Int).toNat = 4 from rfl]; exact g
 simp only [k1, k2, k3, k4, if_false] at hP; subst hP; simp only at hkd; omega
end Go.Proofs.YtcapcobkildmcaaGreatDoor
namespace Go.Proofs.YtcapcobkildmcaaGreatDoor
open Go.ChangeShapes Go.WideShapes Go.ChangeAt Go.RowKit
set_option linter.unusedVariables false
set_option linter.unusedSimpArgs false
theorem open_long4 (A : Option Addr) (n c : Nat) (xs : List UInt8) (w : World) (hr : Rd w A n xs) (hc : n ≤ c) (hl : n ≤ 140737488351232) (h4 : 4 ≤ n) (hb : decide (sealed (xs.drop 4) = xs) = true) :
 Calls Tryz.prog 147 #[.slice A n c] w fun e w' => ∃ A' c', e = .returned (.tuple #[.slice A' (n - 4) c', .int .i64 0]) ∧ Rd w' A' (n - 4) (xs.drop 4) ∧ n - 4 ≤ c' ∧ Below w.heap.size w w' := by
 obtain ⟨X, hX, hd⟩ := cut4 hr hc h4; have HR := kept hr; have HD := kept hd; have hs := refSeal_any X (n - 4) (c - 4) (xs.drop 4) w hd (by omega); rw [show 4 + (n - 4) = n by omega] at hs; have HS := kept hs; have HEQ := fun A1 c1 W h1 h2 => kept (same_any A1 A n n c1 c (sealed (xs.drop 4)) xs W h1 h2 true hb)
 have HN := kept (show n - 4 ≤ 140737488355328 by omega); clear hr hd hs hb; go_enter Tryz.func147, Tryz.ntmps147; go_wp2_with fail
 with_reducible refine HS.out.mono ?_
 rintro e w1 ⟨A1, c1, rfl, hown, hbl⟩; have HSAME := kept (HEQ A1 c1 w1 (Rd.of_own hown) (HR.out.below hbl)).out; have HB := kept hbl; clear hown hbl; go_wp2_with fail
 with_reducible refine HSAME.out.mono ?_
 rintro e w2 ⟨rfl, rfl⟩; have HT := kept (twin_any X (n - 4) (c - 4) (xs.drop 4) w1 (HD.out.below HB.out) HN.out); go_wp2_with fail
 with_reducible refine HT.out.mono ?_
 rintro e w3 ⟨A3, c3, rfl, hown3, hb3⟩; have HO3 := kept (And.intro (Rd.of_own hown3) (own_cap hown3)); have HB3 := kept hb3; clear hown3 hb3; go_wp2; go_ret2; exact ⟨_, _, rfl, HO3.out.1, HO3.out.2, HB.out.trans (HB3.out.mono HB.out.size)⟩
theorem open_good4 (A : Option Addr) (c : Nat) (xs : List UInt8) (w : World) (hr : Rd w A 256 xs) (hc : 256 ≤ c) (hw : num (xs.take 4) 0 = csum (xs.drop 4)) :
 Calls Tryz.prog 147 #[.slice A 256 c] w fun e w' => ∃ A' c', e = .returned (.tuple #[.slice A' 252 c', .int .i64 0]) ∧ Rd w' A' 252 (xs.drop 4) ∧ 252 ≤ c' ∧ Below w.heap.size w w' :=
 open_long4 A 256 c xs w hr hc (by omega) (by omega) (by rw [decide_eq_true_eq]; exact (sealed_iff xs (by have := hr.1; omega)).2 hw)
theorem open_bad4 (A : Option Addr) (c : Nat) (xs : List UInt8) (w : World) (hr : Rd w A 256 xs) (hc : 256 ≤ c) (hw : num (xs.take 4) 0 ≠ csum (xs.drop 4)) :
 Calls Tryz.prog 147 #[.slice A 256 c] w fun e w' => ∃ A' n' c', e = .returned (.tuple #[.slice A' n' c', .int .i64 6]) ∧ Below w.heap.size w w' := by
 have h := refOpen_long A 256 c xs w hr hc (by omega) (by omega) false (by rw [decide_eq_false_iff_not]; exact fun e => hw ((sealed_iff xs (by have := hr.1; omega)).1 e)); refine h.mono ?_; rintro e w' ⟨A', n', c', he, _, hb⟩; exact ⟨A', n', c', he, hb⟩
def Und (A : Option Addr) (n B : Nat) : Prop := ∀ a, A = some a → 0 < n → a.block < B
theorem Und.apart {A : Option Addr} {n B g : Nat} (h : Und A n B) (hg : B ≤ g) : apartA A n g := fun a e h0 => by have := h a e h0; omega
theorem Rd.und {w : World} {A : Option Addr} {n : Nat} {xs : List UInt8} (h : Rd w A n xs) : Und A n w.heap.size := fun a e h0 => by
 obtain ⟨b, e', hb⟩ := h.lt h0; rw [e] at e'; obtain rfl := Option.some.inj e'; exact hb
theorem Rd.at_und {w w' : World} {A : Option Addr} {n B : Nat} {xs : List UInt8} (h : Rd w A n xs) (hu : Und A n B) (hb : Below B w w') : Rd w' A n xs := by
 refine ⟨h.1, fun h0 => ?_⟩; obtain ⟨a, e, hc⟩ := h.2 h0; refine ⟨a, e, fun j hj => ?_⟩; have hl := hu a e h0; rw [World.cell?_of_block (w := w) (hb.block _ (by rw [add_block]; exact hl))]; exact hc j hj
abbrev rz7 : List Value := [.int .i64 0, .int .u64 0, .int .i64 0, .slice none 0 0, .slice none 0 0, .slice none 0 0, .slice none 0 0]
structure DkR (w wr : World) (r q B : Nat) (A : Option Addr) (c : Nat) (ys : List UInt8) (s : Rst) (vs : List Value) : Prop where
 rf : RF wr r A 252 c ys s
 box : Blk wr q 197 vs
 res : Blk wr w.heap.size 197 rz7
 bel : Below w.heap.size w wr
 wr_ : w.heap.size < r
 rq : r < q
 qB : q < B
 size : B ≤ wr.heap.size
 und : Und A 252 r
section
variable {w w1 w2 : World} {r q B : Nat} {A : Option Addr} {c : Nat} {ys : List UInt8} {s s' : Rst} {vs : List Value}
theorem DkR.call (h : DkR w w1 r q B A c ys s vs) (hr : RF w2 r A 252 c ys s') (ho : Only w1 w2 r) : DkR w w2 r q B A c ys s' vs :=
 ⟨hr, h.box.only ho (by have := h.rq; omega), h.res.only ho (by have := h.wr_; omega), ho.below h.bel h.bel.size (by have := h.wr_; omega), h.wr_, h.rq, h.qB, Nat.le_trans h.size ho.size, h.und⟩
theorem DkR.new (h : DkR w w1 r q B A c ys s vs) (hb : Below B w1 w2) : DkR w w2 r q B A c ys s vs := by
 have h1 := h.wr_; have h2 := h.rq; have h3 := h.qB; refine ⟨⟨⟨(hb.block r (by omega)).trans h.rf.1.1, h.rf.1.2.at_und h.und (hb.mono (by omega))⟩, h.rf.2⟩, (hb.block q h3).trans h.box, (hb.block _ (by omega)).trans h.res, h.bel.trans (hb.mono (by omega)), h1, h2, h3, Nat.le_trans h.size hb.size, h.und⟩
theorem DkR.alloc (h : DkR w w1 r q B A c ys s vs) (o : Obj) : DkR w (w1.alloc o) r q B A c ys s vs := h.new ((Below.refl _ _).alloc h.size o)
theorem DkR.setq (h : DkR w w1 r q B A c ys s vs) (i : Nat) (u : Value) : DkR w (w1.setCell ⟨q, i, none⟩ u) r q B A c ys s (vs.set i u) := by
 have h1 := h.wr_; have h2 := h.rq; exact ⟨h.rf.set_ (by omega) (h.und.apart (by omega)) i u, h.box.set_ i u, h.res.far (p := ⟨q, i, none⟩) (by show w.heap.size ≠ q; omega) u, ((Only.refl w1 q).setCell i u).below h.bel h.bel.size (by omega), h1, h2, h.qB, by simpa [World.setCell] using h.size, h.und⟩
theorem DkR.setg (h : DkR w w1 r q B A c ys s vs) {g : Nat} (hg : B ≤ g) (i : Nat) (u : Value) : DkR w (w1.setCell ⟨g, i, none⟩ u) r q B A c ys s vs := by
 have h1 := h.wr_; have h2 := h.rq; have h3 := h.qB; exact ⟨h.rf.set_ (by omega) (h.und.apart (by omega)) i u, h.box.far (p := ⟨g, i, none⟩) (by show q ≠ g; omega) u, h.res.far (p := ⟨g, i, none⟩) (by show w.heap.size ≠ g; omega) u, ((Only.refl w1 g).setCell i u).below h.bel h.bel.size (by omega), h1, h2, h3, by simpa [World.setCell] using h.size, h.und⟩
theorem DkR.fin (h : DkR w w1 r q B A c ys s vs) (u0 u1 u2 u3 u4 u5 u6 : Value) : Below w.heap.size w (set7 w1 w.heap.size u0 u1 u2 u3 u4 u5 u6) ∧ Blk (set7 w1 w.heap.size u0 u1 u2 u3 u4 u5 u6) w.heap.size 197 [u0, u1, u2, u3, u4, u5, u6] :=
 ⟨(only7 w1 w.heap.size u0 u1 u2 u3 u4 u5 u6).below h.bel h.bel.size (Nat.le_refl _), ((((((h.res.set_ 0 u0).set_ 1 u1).set_ 2 u2).set_ 3 u3).set_ 4 u4).set_ 5 u5).set_ 6 u6⟩
structure Bx (wr w1 : World) (r g : Nat) (t : TypeId) (cs : List Value) : Prop where
 blk : Blk w1 g t cs
 only : Only wr w1 r
 rg : r < wr.heap.size
 new : wr.heap.size ≤ g
theorem Bx.call {wr w1 w2 : World} {r g : Nat} {t : TypeId} {cs : List Value} (h : Bx wr w1 r g t cs) (ho : Only w1 w2 r) : Bx wr w2 r g t cs :=
 ⟨h.blk.only ho (by have := h.rg; have := h.new; omega), h.only.trans ho, h.rg, h.new⟩
theorem Bx.set_ {wr w1 : World} {r g : Nat} {t : TypeId} {cs : List Value} (h : Bx wr w1 r g t cs) (i : Nat) (u : Value) : Bx wr (w1.setCell ⟨g, i, none⟩ u) r g t (cs.set i u) :=
 ⟨h.blk.set_ i u, h.only.set_new h.new i u, h.rg, h.new⟩
structure Nt (wr w1 : World) (r g : Nat) (A' : Option Addr) (n' : Nat) (b : List UInt8) : Prop where
 rd : Rd w1 A' n' b
 new : New A' n' wr.heap.size
 ag : apartA A' n' g
 ar : apartA A' n' r
theorem Bx.bytes {wr w1 w2 : World} {r g : Nat} {t : TypeId} {cs : List Value} (h : Bx wr w1 r g t cs) {A' : Option Addr} {n' : Nat} {b : List UInt8} (hd : Rd w2 A' n' b) (hn : New A' n' w1.heap.size) : Nt wr w2 r g A' n' b :=
 ⟨hd, fun k hk => hn k (Nat.lt_of_lt_of_le hk h.only.size), hn g h.blk.lt, hn r (Nat.lt_of_lt_of_le h.rg h.only.size)⟩
theorem Nt.call {wr w1 w2 : World} {r g : Nat} {A' : Option Addr} {n' : Nat} {b : List UInt8} (h : Nt wr w1 r g A' n' b) (ho : Only w1 w2 r) : Nt wr w2 r g A' n' b := ⟨h.rd.only h.ar ho, h.new, h.ag, h.ar⟩
theorem Nt.set_ {wr w1 : World} {r g : Nat} {A' : Option Addr} {n' : Nat} {b : List UInt8} (h : Nt wr w1 r g A' n' b) (i : Nat) (u : Value) : Nt wr (w1.setCell ⟨g, i, none⟩ u) r g A' n' b := ⟨h.rd.grown h.ag ((Only.refl w1 g).setCell i u), h.new, h.ag, h.ar⟩
end
end Go.Proofs.YtcapcobkildmcaaGreatDoor
namespace Go.Proofs.YtcapcobkildmcaaGreatDoor
open Go.ChangeShapes Go.WideShapes Go.ChangeAt Go.RowKit
set_option linter.unusedVariables false
set_option linter.unusedSimpArgs false
attribute [local go_sem ↓] Go.wp_at_zero Go.wp_at_succ
def DecAns (w : World) (xs : List UInt8) (e : Ending) (w' : World) : Prop :=
 Below w.heap.size w w' ∧ (((rightB (refpage (xs.drop 4) (0, 0)) = true ∧ bodyOf (refpage (xs.drop 4) (0, 0)) = xs.drop 4) ∧ ∃ l : Lay, e = .returned (.tuple #[l.val, .int .i64 0]) ∧ Hid (RdPg w' l (refpage (xs.drop 4) (0, 0))) ∧ l.n1 ≤ 1000 ∧ l.n2 ≤ 1000 ∧ l.n4 ≤ 1000) ∨
  (¬ (rightB (refpage (xs.drop 4) (0, 0)) = true ∧ bodyOf (refpage (xs.drop 4) (0, 0)) = xs.drop 4) ∧ e = .returned (.tuple #[zeroV, .int .i64 4])))
set_option maxRecDepth 100000 in
set_option maxHeartbeats 4000000 in
theorem refDecode_none (A : Option Addr) (c : Nat) (xs : List UInt8) (w : World) (hr : Rd w A 256 xs) (hc : 256 ≤ c) (hw : num (xs.take 4) 0 = csum (xs.drop 4)) (hk : (rnum (xs.drop 4) 1 (0, 0)).1 ≠ 1 ∧ (rnum (xs.drop 4) 1 (0, 0)).1 ≠ 2 ∧ (rnum (xs.drop 4) 1 (0, 0)).1 ≠ 3 ∧ (rnum (xs.drop 4) 1 (0, 0)).1 ≠ 4) :
 Calls Tryz.prog 94 #[.slice A 256 c] w (DecAns w xs) := by
 have HO := fun o => kept (open_good4 A c xs (w.alloc o) (hr.alloc o) hc hw)
 have hyl : (xs.drop 4).length = 252 := by rw [List.length_drop, hr.1]
 have HR := kept hr; have HSI : Hid (∀ zs, (sealed zs = xs) ↔ (zs = xs.drop 4)) := kept (fun zs => ⟨fun e => by rw [← e, sealed_drop], fun e => by rw [e]; exact (sealed_iff xs (by have := hr.1; omega)).2 hw⟩); have HPG : Hid (refpage (xs.drop 4) (0, 0) = refpage (xs.drop 4) (0, 0)) := rfl; obtain ⟨ys, hys⟩ : ∃ ys, xs.drop 4 = ys := ⟨_, rfl⟩
 rw [hys] at HO hyl HSI hk; unfold DecAns; rw [hys]; clear hr hw hys HPG; have h1 := fun W r A c (k : RF W r A 252 c ys (0, 0)) => refNum1 r A 252 c ys (0, 0) W k
 have l1 := rnum_lt ys 1 (0, 0); obtain ⟨v1, hv1⟩ : ∃ v, (rnum ys 1 (0, 0)).1 = v := ⟨_, rfl⟩
 obtain ⟨s1, hs1⟩ : ∃ v, (rnum ys 1 (0, 0)).2 = v := ⟨_, rfl⟩
 rw [hv1, hs1] at h1; rw [hv1] at l1 hk; have h2 := fun W r A c (k : RF W r A 252 c ys s1) => refNum8 r A 252 c ys s1 W k
 have l2 := rnum_lt ys 8 s1; obtain ⟨v2, hv2⟩ : ∃ v, (rnum ys 8 s1).1 = v := ⟨_, rfl⟩
 obtain ⟨s2, hs2⟩ : ∃ v, (rnum ys 8 s1).2 = v := ⟨_, rfl⟩
 rw [hv2, hs2] at h2; rw [hv2] at l2; have h3 := fun W r A c (k : RF W r A 252 c ys s2) => refNum4 r A 252 c ys s2 W k
 have l3 := rnum_lt ys 4 s2; obtain ⟨v3, hv3⟩ : ∃ v, (rnum ys 4 s2).1 = v := ⟨_, rfl⟩
 obtain ⟨s3, hs3⟩ : ∃ v, (rnum ys 4 s2).2 = v := ⟨_, rfl⟩
 rw [hv3, hs3] at h3; rw [hv3] at l3; have h4 := fun W r A c (k : RF W r A 252 c ys s3) => refNum2 r A 252 c ys s3 W k
 have l4 := rnum_lt ys 2 s3; obtain ⟨v4, hv4⟩ : ∃ v, (rnum ys 2 s3).1 = v := ⟨_, rfl⟩
 obtain ⟨s4, hs4⟩ : ∃ v, (rnum ys 2 s3).2 = v := ⟨_, rfl⟩
 rw [hv4, hs4] at h4; rw [hv4] at l4; have hrp : refpage ys (0, 0) = ⟨(v1 : Int), (v2 : Int), (v3 : Int), if v1 = 1 then (rmany (ritem ys) (min v4 240) s4).1 else [], if v1 = 2 then (rmany (rkid ys) (min v4 240) s4).1 else [], if v1 = 3 then (rmany (rbytes ys 1) (min v4 240) s4).1.flatten else [], if v1 = 4 then (rmany (rid ys) (min v4 240) s4).1 else []⟩ := by
  simp only [refpage, hv1, hs1, hv2, hs2, hv3, hs3, hv4, hs4]
 rw [if_neg hk.1, if_neg hk.2.1, if_neg hk.2.2.1, if_neg hk.2.2.2] at hrp; obtain ⟨P, hP⟩ : ∃ P, refpage ys (0, 0) = P := ⟨_, rfl⟩
 rw [hP]; rw [hP] at hrp; have HP := kept hrp; clear hrp hP hv1 hs1 hv2 hs2 hv3 hs3 hv4 hs4; have H1 := kept h1; have H2 := kept h2; have H3 := kept h3; have H4 := kept h4; have HV := kept (And.intro l1 (And.intro l2 (And.intro l3 l4))); have hw1 : IntKind.i64.wrap (v1 : Int) = (v1 : Int) := IntWalk.i64_in _ ⟨by omega, by omega⟩; have hw3 : IntKind.i64.wrap (v3 : Int) = (v3 : Int) := IntWalk.i64_in _ ⟨by omega, by omega⟩; have hw4 : IntKind.i64.wrap (v4 : Int) = (v4 : Int) := IntWalk.i64_in _ ⟨by omega, by omega⟩; clear l1 l2 l3 l4 h1 h2 h3 h4; go_enter Tryz.func94, Tryz.ntmps94; go_wp2_with fail
 with_reducible refine (HO _).out.mono ?_
 rintro e w0 ⟨A0, c0, rfl, hd, hc0, hb⟩; have hx : ∀ W : World, W = (w0.alloc (.cells #[.slice A0 252 c0, .int .i64 0, .int .i64 0] 275)).alloc (.cells #[.int .i64 0, .int .u64 0, .int .i64 0, .slice none 0 0, .slice none 0 0, .slice none 0 0, .slice none 0 0] 197) → DkR w W w0.heap.size (w0.heap.size + 1) (w0.heap.size + 2) A0 c0 ys (0, 0) rz7 ∧ W.heap.size = w0.heap.size + 2 := by
  intro W e; have hn := Blk.new (w0.alloc (.cells #[.slice A0 252 c0, .int .i64 0, .int .i64 0] 275)) 197 #[.int .i64 0, .int .u64 0, .int .i64 0, .slice none 0 0, .slice none 0 0, .slice none 0 0, .slice none 0 0]; rw [World.size_alloc] at hn; have hq := (Blk.new w 197 #[.int .i64 0, .int .u64 0, .int .i64 0, .slice none 0 0, .slice none 0 0, .slice none 0 0, .slice none 0 0]).below hb (by simp); have hbb := below_to hb ((Below.refl _ w).alloc (Nat.le_refl _) (.cells #[.int .i64 0, .int .u64 0, .int .i64 0, .slice none 0 0, .slice none 0 0, .slice none 0 0, .slice none 0 0] 197)); rw [e]; exact ⟨⟨⟨⟨(Blk.new w0 275 #[.slice A0 252 c0, .int .i64 0, .int .i64 0]).alloc _, (hd.alloc _).alloc _⟩, Nat.zero_le _, .inl rfl, hc0, by omega⟩, hn, (hq.alloc _).alloc _, (hbb.alloc hbb.size _).alloc (by have := hbb.size; simp; omega) _, hq.lt, Nat.lt_succ_self _, by omega, by simp, hd.und⟩, by simp⟩
 have HX := kept hx; clear hd hc0 hb hx; go_wp2_with fail
 obtain ⟨W0, hW0⟩ : ∃ W, W = (w0.alloc (.cells #[.slice A0 252 c0, .int .i64 0, .int .i64 0] 275)).alloc (.cells #[.int .i64 0, .int .u64 0, .int .i64 0, .slice none 0 0, .slice none 0 0, .slice none 0 0, .slice none 0 0] 197) := ⟨_, rfl⟩
 rw [← hW0]; obtain ⟨hk0, hsz⟩ := HX.out W0 hW0; have HK0 := kept hk0; have HZ0 := kept hsz; clear hW0 HX hk0 hsz; generalize w0.heap.size = r at HK0 HZ0 ⊢; with_reducible refine (H1.out _ r A0 c0 HK0.out.rf).mono ?_
 rintro e w1 ⟨rfl, hR, hO⟩; have hk1 := HK0.out.call hR hO; clear hR hO; have e0 := hk1.box.cell 0; have f0 := hk1.box.frozen 0; simp only [List.getElem?_cons_zero, List.getElem?_cons_succ] at e0; have hs := hk1.setq 0 (.int .i64 (v1 : Int)); simp only [List.set_cons_zero, List.set_cons_succ] at hs; have HS := kept hs; clear hk1 hs; go_wp2_with fail
 clear e0 f0; generalize (w1.setCell ⟨r + 1, 0, none⟩ (.int .i64 (v1 : Int))) = X1 at HS ⊢; have HK1 := HS; clear HS; with_reducible refine (H2.out _ r A0 c0 HK1.out.rf).mono ?_
 rintro e w2 ⟨rfl, hR, hO⟩; have hk2 := HK1.out.call hR hO; clear hR hO; have e0 := hk2.box.cell 1; have f0 := hk2.box.frozen 1; simp only [List.getElem?_cons_zero, List.getElem?_cons_succ] at e0; have hs := hk2.setq 1 (.int .u64 (v2 : Int)); simp only [List.set_cons_zero, List.set_cons_succ] at hs; have HS := kept hs; clear hk2 hs; go_wp2_with fail
 clear e0 f0; generalize (w2.setCell ⟨r + 1, 1, none⟩ (.int .u64 (v2 : Int))) = X2 at HS ⊢; have HK2 := HS; clear HS; with_reducible refine (H3.out _ r A0 c0 HK2.out.rf).mono ?_
 rintro e w3 ⟨rfl, hR, hO⟩; have hk3 := HK2.out.call hR hO; clear hR hO; have e0 := hk3.box.cell 2; have f0 := hk3.box.frozen 2; simp only [List.getElem?_cons_zero, List.getElem?_cons_succ] at e0; have hs := hk3.setq 2 (.int .i64 (v3 : Int)); simp only [List.set_cons_zero, List.set_cons_succ] at hs; have HS := kept hs; clear hk3 hs; go_wp2_with fail
 clear e0 f0; generalize (w3.setCell ⟨r + 1, 2, none⟩ (.int .i64 (v3 : Int))) = X3 at HS ⊢; have HK3 := HS; clear HS; with_reducible refine (H4.out _ r A0 c0 HK3.out.rf).mono ?_
 rintro e w4 ⟨rfl, hR, hO⟩; have hk4 := HK3.out.call hR hO; clear hR hO; have HK4 := kept hk4; clear hk4; go_wp2; have HST0 : Hid (∀ wr, RdPg wr ⟨(v1 : Int), (v2 : Int), (v3 : Int), none, 0, 0, none, 0, 0, none, 0, 0, none, 0, 0⟩ P) := kept (fun wr => by rw [HP.out]; exact ⟨rfl, rfl, rfl, RdItems.nil_ _ _, RdKids.nil_ _ _, Rd.nil_ _ _, RdNums.nil_ _ _, by show (0 : Int) ≤ (v2 : Int); omega, by have := HV.out.2.1; show (v2 : Int) < _; omega, Nat.zero_le _, Nat.zero_le _, Nat.zero_le _, Nat.zero_le _⟩); have HM : Hid ((0 : Nat) ≤ 1000 ∧ (0 : Nat) ≤ 1000 ∧ (0 : Nat) ≤ 1000) := kept (by omega); have d1 : ((v1 : Int) == 1) = false := by simp; omega
 have d2 : ((v1 : Int) == 2) = false := by simp; omega
 have d3 : ((v1 : Int) == 3) = false := by simp; omega
 have d4 : ((v1 : Int) == 4) = false := by simp; omega
 clear hw1 hw3 hw4; go_loopw [9] (fun i wr => ∃ k : Nat, k ≤ 240 ∧ i = .int .i64 k ∧ Hid (DkR w wr r (r + 1) (r + 2) A0 c0 ys s4 [.int .i64 (v1 : Int), .int .u64 (v2 : Int), .int .i64 (v3 : Int), .slice none 0 0, .slice none 0 0, .slice none 0 0, .slice none 0 0])) (fun i _ => 240 - (intOf i).toNat)
 case atStart => exact ⟨0, by omega, rfl, HK4⟩
 case round =>
  obtain ⟨k, hk2, rfl, HKL⟩ := hrel; by_cases hlt : k < v4 ∧ k < 240
  · obtain ⟨hlt1, hlt2⟩ := hlt; have z0 : wr.cell? ⟨r + 1, 0, none⟩ = some (.int .i64 (v1 : Int)) := HKL.out.box.cell 0; go_wp2; go_roundw
    case rel => exact ⟨k + 1, by omega, by go_num, HKL⟩
    case measure => simp [intOf]; omega
  · have HST : Hid (Sta (r + 2) wr (fun w2 => RdPg w2 ⟨(v1 : Int), (v2 : Int), (v3 : Int), none, 0, 0, none, 0, 0, none, 0, 0, none, 0, 0⟩ P)) := kept (fun w2 _ => HST0.out w2); rcases (by omega : v4 ≤ k ∨ (k < v4 ∧ k = 240)) with hx | ⟨hx, rfl⟩
    all_goals clear hlt d1 d2 d3 d4
    · go_upto_region 34 with fail
      obtain ⟨z0, z1, z2, z3, z4, z5, z6⟩ := sevC HKL.out.box; have hrt := refRight04_any ⟨(v1 : Int), (v2 : Int), (v3 : Int), none, 0, 0, none, 0, 0, none, 0, 0, none, 0, 0⟩ P wr HST.out.here HM.out.1 HM.out.2.1 HM.out.2.2; cases hrb : rightB P with
      | false =>
        rw [hrb] at hrt; have HRT := kept hrt; have HNO : Hid (¬ (rightB P = true ∧ bodyOf P = ys)) := kept (by rw [hrb]; exact fun h => Bool.false_ne_true h.1); clear hrt hrb; go_wp2_with fail
        with_reducible refine HRT.out.mono ?_
        rintro e w5 ⟨rfl, hb5⟩; have hk5 := HKL.out.new (hb5.mono HKL.out.size); obtain ⟨p0, p1, p2, p3, p4, p5, p6⟩ := sevC hk5.res; obtain ⟨t0, t1, t2, t3, t4, t5, t6⟩ := sevF hk5.res; have HK5 := kept hk5; clear hb5 hk5 z0 z1 z2 z3 z4 z5 z6; go_wp2; have hfin := HK5.out.fin (.int .i64 0) (.int .u64 0) (.int .i64 0) (.slice none 0 0) (.slice none 0 0) (.slice none 0 0) (.slice none 0 0); unfold set7 at hfin; generalize (((((((w5.setCell ⟨w.heap.size, 0, none⟩ (.int .i64 0)).setCell ⟨w.heap.size, 1, none⟩ (.int .u64 0)).setCell ⟨w.heap.size, 2, none⟩ (.int .i64 0)).setCell ⟨w.heap.size, 3, none⟩ (.slice none 0 0)).setCell ⟨w.heap.size, 4, none⟩ (.slice none 0 0)).setCell ⟨w.heap.size, 5, none⟩ (.slice none 0 0)).setCell ⟨w.heap.size, 6, none⟩ (.slice none 0 0)) = X at hfin ⊢; obtain ⟨x0, x1, x2, x3, x4, x5, x6⟩ := sevC hfin.2; exact bodyPost_ret (v := .tuple #[zeroV, .int .i64 4]) (by simp [results, Tryz.results94, go_sem, x0, x1, x2, x3, x4, x5, x6]) rfl ⟨hfin.1, .inr ⟨HNO.out, rfl⟩⟩
      | true =>
        rw [hrb] at hrt; have HRT := kept hrt; have HRB := kept hrb; clear hrt hrb; go_wp2_with fail
        with_reducible refine HRT.out.mono ?_
        rintro e w4 ⟨rfl, hb5⟩; have HE := kept (refEncode04_any ⟨(v1 : Int), (v2 : Int), (v3 : Int), none, 0, 0, none, 0, 0, none, 0, 0, none, 0, 0⟩ P w4 (HST.out.here.below hb5) HRB.out HM.out.1 HM.out.2.1 HM.out.2.2); have HB4 := kept hb5; have hk4 := HKL.out.new (hb5.mono HKL.out.size); clear z0 z1 z2 z3 z4 z5 z6; obtain ⟨z0, z1, z2, z3, z4, z5, z6⟩ := sevC hk4.box; have HK4' := kept hk4; clear hb5 hk4; go_wp2_with fail
        with_reducible refine HE.out.mono ?_
        rintro e w5 ⟨A5, c5, rfl, hown, hb5⟩; have HB5 := kept hb5; have hk5 := HK4'.out.new (hb5.mono HK4'.out.size); obtain ⟨p0, p1, p2, p3, p4, p5, p6⟩ := sevC hk5.res; obtain ⟨t0, t1, t2, t3, t4, t5, t6⟩ := sevF hk5.res; have HRX := kept (HR.out.below hk5.bel); have HRO := kept (Rd.of_own hown); have HK5 := kept hk5; clear z0 z1 z2 z3 z4 z5 z6; obtain ⟨z0, z1, z2, z3, z4, z5, z6⟩ := sevC hk5.box; have hgq : r + 1 ≠ w.heap.size := by have := hk5.wr_; omega
        clear hk5 hb5 hown; by_cases hbd : bodyOf P = ys
        · have HSM := kept (same_any A5 A 256 256 c5 c (sealed (bodyOf P)) xs w5 HRO.out HRX.out true (by rw [decide_eq_true_eq]; exact (HSI.out _).2 hbd)); have HYES := kept (And.intro HRB.out hbd); clear hbd; go_wp2_with (first | (go_at_call 21; (with_reducible refine (HSM.out).mono ?_); rintro e w9 ⟨rfl, rfl⟩))
          have hfin := HK5.out.fin (.int .i64 (v1 : Int)) (.int .u64 (v2 : Int)) (.int .i64 (v3 : Int)) (.slice none 0 0) (.slice none 0 0) (.slice none 0 0) (.slice none 0 0); have ho7 := only7 w5 w.heap.size (.int .i64 (v1 : Int)) (.int .u64 (v2 : Int)) (.int .i64 (v3 : Int)) (.slice none 0 0) (.slice none 0 0) (.slice none 0 0) (.slice none 0 0); unfold set7 at hfin ho7; generalize (((((((w5.setCell ⟨w.heap.size, 0, none⟩ (.int .i64 (v1 : Int))).setCell ⟨w.heap.size, 1, none⟩ (.int .u64 (v2 : Int))).setCell ⟨w.heap.size, 2, none⟩ (.int .i64 (v3 : Int))).setCell ⟨w.heap.size, 3, none⟩ (.slice none 0 0)).setCell ⟨w.heap.size, 4, none⟩ (.slice none 0 0)).setCell ⟨w.heap.size, 5, none⟩ (.slice none 0 0)).setCell ⟨w.heap.size, 6, none⟩ (.slice none 0 0)) = X at hfin ho7 ⊢; obtain ⟨x0, x1, x2, x3, x4, x5, x6⟩ := sevC hfin.2; have hst := HST.out X (((Onl.refl.step (Only.of_below (r := r) HB4.out) (by omega)).step (Only.of_below (r := r) HB5.out) (by omega)).step ho7 (by have := HK5.out.wr_; omega)); exact bodyPost_ret (v := .tuple #[.agg #[.int .i64 (v1 : Int), .int .u64 (v2 : Int), .int .i64 (v3 : Int), .slice none 0 0, .slice none 0 0, .slice none 0 0, .slice none 0 0], .int .i64 0]) (by simp [results, Tryz.results94, go_sem, x0, x1, x2, x3, x4, x5, x6]) rfl ⟨hfin.1, .inl ⟨HYES.out, ⟨(v1 : Int), (v2 : Int), (v3 : Int), none, 0, 0, none, 0, 0, none, 0, 0, none, 0, 0⟩, rfl, hst, HM.out⟩⟩
        · have HSM := kept (same_any A5 A 256 256 c5 c (sealed (bodyOf P)) xs w5 HRO.out HRX.out false (by rw [decide_eq_false_iff_not]; exact fun e => hbd ((HSI.out _).1 e))); have HNO : Hid (¬ (rightB P = true ∧ bodyOf P = ys)) := kept (fun h => hbd h.2); clear hbd; go_wp2_with (first | (go_at_call 21; (with_reducible refine (HSM.out).mono ?_); rintro e w9 ⟨rfl, rfl⟩))
          have hfin := HK5.out.fin (.int .i64 0) (.int .u64 0) (.int .i64 0) (.slice none 0 0) (.slice none 0 0) (.slice none 0 0) (.slice none 0 0); unfold set7 at hfin; generalize (((((((w5.setCell ⟨w.heap.size, 0, none⟩ (.int .i64 0)).setCell ⟨w.heap.size, 1, none⟩ (.int .u64 0)).setCell ⟨w.heap.size, 2, none⟩ (.int .i64 0)).setCell ⟨w.heap.size, 3, none⟩ (.slice none 0 0)).setCell ⟨w.heap.size, 4, none⟩ (.slice none 0 0)).setCell ⟨w.heap.size, 5, none⟩ (.slice none 0 0)).setCell ⟨w.heap.size, 6, none⟩ (.slice none 0 0)) = X at hfin ⊢; obtain ⟨x0, x1, x2, x3, x4, x5, x6⟩ := sevC hfin.2; exact bodyPost_ret (v := .tuple #[zeroV, .int .i64 4]) (by simp [results, Tryz.results94, go_sem, x0, x1, x2, x3, x4, x5, x6]) rfl ⟨hfin.1, .inr ⟨HNO.out, rfl⟩⟩
    · go_upto_region 34 with fail
      obtain ⟨z0, z1, z2, z3, z4, z5, z6⟩ := sevC HKL.out.box; have hrt := refRight04_any ⟨(v1 : Int), (v2 : Int), (v3 : Int), none, 0, 0, none, 0, 0, none, 0, 0, none, 0, 0⟩ P wr HST.out.here HM.out.1 HM.out.2.1 HM.out.2.2; cases hrb : rightB P with
      | false =>
        rw [hrb] at hrt; have HRT := kept hrt; have HNO : Hid (¬ (rightB P = true ∧ bodyOf P = ys)) := kept (by rw [hrb]; exact fun h => Bool.false_ne_true h.1); clear hrt hrb; go_wp2_with fail
        with_reducible refine HRT.out.mono ?_
        rintro e w5 ⟨rfl, hb5⟩; have hk5 := HKL.out.new (hb5.mono HKL.out.size); obtain ⟨p0, p1, p2, p3, p4, p5, p6⟩ := sevC hk5.res; obtain ⟨t0, t1, t2, t3, t4, t5, t6⟩ := sevF hk5.res; have HK5 := kept hk5; clear hb5 hk5 z0 z1 z2 z3 z4 z5 z6; go_wp2; have hfin := HK5.out.fin (.int .i64 0) (.int .u64 0) (.int .i64 0) (.slice none 0 0) (.slice none 0 0) (.slice none 0 0) (.slice none 0 0); unfold set7 at hfin; generalize (((((((w5.setCell ⟨w.heap.size, 0, none⟩ (.int .i64 0)).setCell ⟨w.heap.size, 1, none⟩ (.int .u64 0)).setCell ⟨w.heap.size, 2, none⟩ (.int .i64 0)).setCell ⟨w.heap.size, 3, none⟩ (.slice none 0 0)).setCell ⟨w.heap.size, 4, none⟩ (.slice none 0 0)).setCell ⟨w.heap.size, 5, none⟩ (.slice none 0 0)).setCell ⟨w.heap.size, 6, none⟩ (.slice none 0 0)) = X at hfin ⊢; obtain ⟨x0, x1, x2, x3, x4, x5, x6⟩ := sevC hfin.2; exact bodyPost_ret (v := .tuple #[zeroV, .int .i64 4]) (by simp [results, Tryz.results94, go_sem, x0, x1, x2, x3, x4, x5, x6]) rfl ⟨hfin.1, .inr ⟨HNO.out, rfl⟩⟩
      | true =>
        rw [hrb] at hrt; have HRT := kept hrt; have HRB := kept hrb; clear hrt hrb; go_wp2_with fail
        with_reducible refine HRT.out.mono ?_
        rintro e w4 ⟨rfl, hb5⟩; have HE := kept (refEncode04_any ⟨(v1 : Int), (v2 : Int), (v3 : Int), none, 0, 0, none, 0, 0, none, 0, 0, none, 0, 0⟩ P w4 (HST.out.here.below hb5) HRB.out HM.out.1 HM.out.2.1 HM.out.2.2); have HB4 := kept hb5; have hk4 := HKL.out.new (hb5.mono HKL.out.size); clear z0 z1 z2 z3 z4 z5 z6; obtain ⟨z0, z1, z2, z3, z4, z5, z6⟩ := sevC hk4.box; have HK4' := kept hk4; clear hb5 hk4; go_wp2_with fail
        with_reducible refine HE.out.mono ?_
        rintro e w5 ⟨A5, c5, rfl, hown, hb5⟩; have HB5 := kept hb5; have hk5 := HK4'.out.new (hb5.mono HK4'.out.size); obtain ⟨p0, p1, p2, p3, p4, p5, p6⟩ := sevC hk5.res; obtain ⟨t0, t1, t2, t3, t4, t5, t6⟩ := sevF hk5.res; have HRX := kept (HR.out.below hk5.bel); have HRO := kept (Rd.of_own hown); have HK5 := kept hk5; clear z0 z1 z2 z3 z4 z5 z6; obtain ⟨z0, z1, z2, z3, z4, z5, z6⟩ := sevC hk5.box; have hgq : r + 1 ≠ w.heap.size := by have := hk5.wr_; omega
        clear hk5 hb5 hown; by_cases hbd : bodyOf P = ys
        · have HSM := kept (same_any A5 A 256 256 c5 c (sealed (bodyOf P)) xs w5 HRO.out HRX.out true (by rw [decide_eq_true_eq]; exact (HSI.out _).2 hbd)); have HYES := kept (And.intro HRB.out hbd); clear hbd; go_wp2_with (first | (go_at_call 21; (with_reducible refine (HSM.out).mono ?_); rintro e w9 ⟨rfl, rfl⟩))
          have hfin := HK5.out.fin (.int .i64 (v1 : Int)) (.int .u64 (v2 : Int)) (.int .i64 (v3 : Int)) (.slice none 0 0) (.slice none 0 0) (.slice none 0 0) (.slice none 0 0); have ho7 := only7 w5 w.heap.size (.int .i64 (v1 : Int)) (.int .u64 (v2 : Int)) (.int .i64 (v3 : Int)) (.slice none 0 0) (.slice none 0 0) (.slice none 0 0) (.slice none 0 0); unfold set7 at hfin ho7; generalize (((((((w5.setCell ⟨w.heap.size, 0, none⟩ (.int .i64 (v1 : Int))).setCell ⟨w.heap.size, 1, none⟩ (.int .u64 (v2 : Int))).setCell ⟨w.heap.size, 2, none⟩ (.int .i64 (v3 : Int))).setCell ⟨w.heap.size, 3, none⟩ (.slice none 0 0)).setCell ⟨w.heap.size, 4, none⟩ (.slice none 0 0)).setCell ⟨w.heap.size, 5, none⟩ (.slice none 0 0)).setCell ⟨w.heap.size, 6, none⟩ (.slice none 0 0)) = X at hfin ho7 ⊢; obtain ⟨x0, x1, x2, x3, x4, x5, x6⟩ := sevC hfin.2; have hst := HST.out X (((Onl.refl.step (Only.of_below (r := r) HB4.out) (by omega)).step (Only.of_below (r := r) HB5.out) (by omega)).step ho7 (by have := HK5.out.wr_; omega)); exact bodyPost_ret (v := .tuple #[.agg #[.int .i64 (v1 : Int), .int .u64 (v2 : Int), .int .i64 (v3 : Int), .slice none 0 0, .slice none 0 0, .slice none 0 0, .slice none 0 0], .int .i64 0]) (by simp [results, Tryz.results94, go_sem, x0, x1, x2, x3, x4, x5, x6]) rfl ⟨hfin.1, .inl ⟨HYES.out, ⟨(v1 : Int), (v2 : Int), (v3 : Int), none, 0, 0, none, 0, 0, none, 0, 0, none, 0, 0⟩, rfl, hst, HM.out⟩⟩
        · have HSM := kept (same_any A5 A 256 256 c5 c (sealed (bodyOf P)) xs w5 HRO.out HRX.out false (by rw [decide_eq_false_iff_not]; exact fun e => hbd ((HSI.out _).1 e))); have HNO : Hid (¬ (rightB P = true ∧ bodyOf P = ys)) := kept (fun h => hbd h.2); clear hbd; go_wp2_with (first | (go_at_call 21; (with_reducible refine (HSM.out).mono ?_); rintro e w9 ⟨rfl, rfl⟩))
          have hfin := HK5.out.fin (.int .i64 0) (.int .u64 0) (.int .i64 0) (.slice none 0 0) (.slice none 0 0) (.slice none 0 0) (.slice none 0 0); unfold set7 at hfin; generalize (((((((w5.setCell ⟨w.heap.size, 0, none⟩ (.int .i64 0)).setCell ⟨w.heap.size, 1, none⟩ (.int .u64 0)).setCell ⟨w.heap.size, 2, none⟩ (.int .i64 0)).setCell ⟨w.heap.size, 3, none⟩ (.slice none 0 0)).setCell ⟨w.heap.size, 4, none⟩ (.slice none 0 0)).setCell ⟨w.heap.size, 5, none⟩ (.slice none 0 0)).setCell ⟨w.heap.size, 6, none⟩ (.slice none 0 0)) = X at hfin ⊢; obtain ⟨x0, x1, x2, x3, x4, x5, x6⟩ := sevC hfin.2; exact bodyPost_ret (v := .tuple #[zeroV, .int .i64 4]) (by simp [results, Tryz.results94, go_sem, x0, x1, x2, x3, x4, x5, x6]) rfl ⟨hfin.1, .inr ⟨HNO.out, rfl⟩⟩
end Go.Proofs.YtcapcobkildmcaaGreatDoor
end
