/-
  terrierref04.room: the document's own test of a page and its bytes. What it answers, kind by kind; here: numbers and bytes.
-/
import Derived.Test.YtfgpkgenahlikaaDoorEn
namespace Go.Proofs.YtfgpkgenahlikaaDoor
open Go.ChangeShapes Go.WideShapes Go.ChangeAt Go.RowKit
set_option linter.unusedVariables false
set_option linter.unusedSimpArgs false

/-- What room answers of a page. -/
def RoomAns (P : Pg) (w : World) (e : Ending) (w' : World) : Prop :=
  (rightB P = true ∧ (∃ A c, e = .returned (.tuple #[.slice A (usedN P) c, .int .i64 ((cntP P : Nat) : Int), .bool true]) ∧ w'.ownsRow w.heap.size 5 1 (.slice A (usedN P) c) (usedN P) (cellsOf (roomOf P))) ∧ Below w.heap.size w w') ∨
  (rightB P = false ∧ e = .returned (.tuple #[.slice none 0 0, .int .i64 0, .bool false]) ∧ Below w.heap.size w w')
theorem rightB_no_things {P : Pg} (h : thingsB P = false) : rightB P = false := by
  unfold rightB
  rw [h]
  simp
theorem right3 {P : Pg} (hk : P.kind = 3) : rightB P = (decide (0 < P.data.length) && decide (P.items.length + P.kids.length + P.ids.length = 0) && decide (P.data.length ≤ 237) && decide (0 ≤ P.next) && decide (P.next < 1024)) := by
  obtain ⟨kind, txn, next, I, J, D, N⟩ := P
  simp only at hk
  subst hk
  by_cases h0 : I.length + J.length + N.length = 0
  · obtain rfl : I = [] := List.eq_nil_of_length_eq_zero (by omega)
    obtain rfl : J = [] := List.eq_nil_of_length_eq_zero (by omega)
    obtain rfl : N = [] := List.eq_nil_of_length_eq_zero (by omega)
    rw [Bool.eq_iff_iff]
    simp [rightB, ownB, nextB, thingsB, usedN, ordU, isPg]
    omega
  · have h1 : ownB ⟨3, txn, next, I, J, D, N⟩ = false := by
      unfold ownB
      rw [Bool.eq_false_iff]
      intro hh
      simp only [Bool.and_eq_true, Bool.or_eq_true, decide_eq_true_eq] at hh
      omega
    unfold rightB
    rw [h1, decide_eq_false h0]
    simp
theorem right4 {P : Pg} (hk : P.kind = 4) (ho : ordU isPg cmpN P.ids P.ids.length = true) : rightB P = (decide (P.items.length + P.kids.length + P.data.length = 0) && decide (P.ids.length * 4 ≤ 237) && decide (0 ≤ P.next) && decide (P.next < 1024)) := by
  obtain ⟨kind, txn, next, I, J, D, N⟩ := P
  simp only at hk ho
  subst hk
  by_cases h0 : I.length + J.length + D.length = 0
  · obtain rfl : I = [] := List.eq_nil_of_length_eq_zero (by omega)
    obtain rfl : J = [] := List.eq_nil_of_length_eq_zero (by omega)
    obtain rfl : D = [] := List.eq_nil_of_length_eq_zero (by omega)
    rw [Bool.eq_iff_iff]
    unfold rightB thingsB
    simp only
    rw [ho]
    simp [ownB, nextB, usedN, ordU, isPg]
    omega
  · have h1 : ownB ⟨4, txn, next, I, J, D, N⟩ = false := by
      unfold ownB
      rw [Bool.eq_false_iff]
      intro hh
      simp only [Bool.and_eq_true, Bool.or_eq_true, decide_eq_true_eq] at hh
      omega
    unfold rightB
    rw [h1, decide_eq_false h0]
    simp
theorem cmpN_ge {a b : Int} (h : b ≤ a) : 0 ≤ cmpN a b := by
  unfold cmpN
  rw [if_neg (by omega)]
  split <;> omega
theorem cmpN_lt {a b : Int} (h : a < b) : cmpN a b < 0 := by
  unfold cmpN
  rw [if_pos h]
  omega
theorem page_small' {i : Int} (h : isPg i = true) : 1 ≤ i ∧ i < 1024 := by
  unfold isPg at h
  simp only [Bool.and_eq_true, decide_eq_true_eq] at h
  omega
/-- The box, as the loops keep it. -/
theorem sev_old {w1 W : World} {b : Nat} {kind txn next : Int} {a1 : Option Addr} {n1 c1 : Nat} {a2 : Option Addr} {n2 c2 : Nat} {a3 : Option Addr} {n3 c3 : Nat} {a4 : Option Addr} {n4 c4 : Nat} (h : Sev w1 b kind txn next a1 n1 c1 a2 n2 c2 a3 n3 c3 a4 n4 c4) (hb : Below (b + 1) w1 W) : Sev W b kind txn next a1 n1 c1 a2 n2 c2 a3 n3 c3 a4 n4 c4 := by
  have key : ∀ (i : Nat) (v : Value), w1.cell? ⟨b, i, none⟩ = some v → W.cell? ⟨b, i, none⟩ = some v := fun i v hv => (hb.cell (p := ⟨b, i, none⟩) (Nat.lt_succ_self _)).trans hv
  exact ⟨key _ _ h.1, key _ _ h.2.1, key _ _ h.2.2.1, key _ _ h.2.2.2.1, key _ _ h.2.2.2.2.1, key _ _ h.2.2.2.2.2.1, key _ _ h.2.2.2.2.2.2⟩
theorem refPut4 (m : Nat) (w : World) (hm : m < 1024) :
    Calls Tryd.prog 44 #[.int .u64 (m : Int), .int .i64 4] w fun e w' => ∃ A c, e = .returned (.slice A 4 c) ∧ Rd w' A 4 (be m 4) ∧ Below w.heap.size w w' := refPut_ok m 4 w (by omega) (by omega)
/-- append, with the sum and the bytes named. -/
theorem wpList_append_is {P : Program} {w : World} {ops : Array Oper} {rest : List Oper} {o : Oper} {a : Act} {Q : Exit → Act → World → Prop} (hgd : o.guard = none) (s x : Operand) (t : TypeId)
    (ho : o.op = .call { callee := .builtin .append, args := #[s, x], argTypes := #[t, t] })
    (base : Nat) (e : TypeId) {n : Nat} {xs : List UInt8} {v : Value} {A : Option Addr} {m c : Nat} {ys : List UInt8} (hs : a.eval s = v) (hx : a.eval x = .slice A m c)
    (ht : P.underlying t = some (.slice e)) (hinfo : (P.info? e).map (fun i => (i.zero, i.size, i.bytes)) = some (some (.int .u8 0), 1, 1)) (hown : w.ownsRow base e 1 v n (cellsOf xs)) (hr : Rd w A m ys)
    (hm : n + m ≤ 140737488355328) (hbase : base ≤ w.heap.size) (tot : Nat) (zs : List UInt8) (htot : n + m = tot) (hz : xs ++ ys = zs)
    (h : ∀ A' c' w', w'.ownsRow base e 1 (.slice A' tot c') tot (cellsOf zs) → Below base w w' → wpList P ops Q rest (a.put o.dst (.slice A' tot c')) w') : wpList P ops Q (o :: rest) a w := by
  subst htot hz
  exact wpList_append_rd hgd s x t ho base e hs hx ht hinfo hown hr hm hbase h
/-- The world in which room begins: the page's box, an empty row. -/
structure Ro (w w1 w2 : World) (kind txn next : Int) (a1 : Option Addr) (n1 c1 : Nat) (a2 : Option Addr) (n2 c2 : Nat) (a3 : Option Addr) (n3 c3 : Nat) (a4 : Option Addr) (n4 c4 : Nat) : Prop where
  size : w1.heap.size = w.heap.size + 1
  box : Sev w1 w.heap.size kind txn next a1 n1 c1 a2 n2 c2 a3 n3 c3 a4 n4 c4
  below : Below w.heap.size w w1
  next_ : Below (w.heap.size + 1) w1 w2
  own : w2.ownsRow (w.heap.size + 1) 5 1 (.slice (some ⟨w.heap.size + 1, 0, none⟩) 0 0) 0 (cellsOf [])
theorem ro_new (w : World) (kind txn next : Int) (a1 : Option Addr) (n1 c1 : Nat) (a2 : Option Addr) (n2 c2 : Nat) (a3 : Option Addr) (n3 c3 : Nat) (a4 : Option Addr) (n4 c4 : Nat) :
    Ro w (w.alloc (.cells #[.int .i64 kind, .int .u64 txn, .int .i64 next, .slice a1 n1 c1, .slice a2 n2 c2, .slice a3 n3 c3, .slice a4 n4 c4] 34)) ((w.alloc (.cells #[.int .i64 kind, .int .u64 txn, .int .i64 next, .slice a1 n1 c1, .slice a2 n2 c2, .slice a3 n3 c3, .slice a4 n4 c4] 34)).alloc (.cells #[] 5)) kind txn next a1 n1 c1 a2 n2 c2 a3 n3 c3 a4 n4 c4 := by
  refine ⟨by simp, sev_box w kind txn next a1 n1 c1 a2 n2 c2 a3 n3 c3 a4 n4 c4 _ (Below.refl _ _), (Below.refl _ _).alloc (Nat.le_refl _) _, (Below.refl _ _).alloc (by simp) _, ?_⟩
  have hE := (World.ownsRow_made (base := w.heap.size + 1) (e := 5) (size := 1) (w.alloc (.cells #[.int .i64 kind, .int .u64 txn, .int .i64 next, .slice a1 n1 c1, .slice a2 n2 c2, .slice a3 n3 c3, .slice a4 n4 c4] 34)) #[] 0 (by simp) (Nat.zero_le _) rfl)
  rw [World.size_alloc] at hE
  exact hE
set_option maxRecDepth 100000 in
set_option maxHeartbeats 4000000 in
theorem room4_any (l : Lay) (P : Pg) (w : World) (h : RdPg w l P) (hk : l.kind = 4) (hn : l.n4 ≤ 1000) :
    Calls Tryd.prog 39 #[l.val] w (RoomAns P w) := by
  have hkP : P.kind = 4 := by rw [h.kind, hk]
  have HR4 := kept (fun ho => right4 hkP ho)
  have HI := kept h.ids
  have HIL := kept h.n4
  have hL : cntP P = l.n1 + l.n2 + l.n3 + l.n4 ∧ P.items.length = l.n1 ∧ P.kids.length = l.n2 ∧ P.data.length = l.n3 := ⟨by unfold cntP; rw [h.n1, h.n2, h.n3, h.n4], h.n1, h.n2, h.n3⟩
  have HLN := kept hL
  have HNX := kept h.next
  have HRN := kept (fun (ho : ordU isPg cmpN P.ids P.ids.length = false) => rightB_no_things (P := P) (by unfold thingsB; rw [ho]; simp))
  have HUS := kept (fun (h0 : P.items.length + P.kids.length + P.data.length = 0) => (show roomOf P = encTo encId P.ids P.ids.length ∧ usedN P = 4 * P.ids.length from by
    have e1 : P.items = [] := List.eq_nil_of_length_eq_zero (by omega)
    have e2 : P.kids = [] := List.eq_nil_of_length_eq_zero (by omega)
    have e3 : P.data = [] := List.eq_nil_of_length_eq_zero (by omega)
    refine ⟨?_, ?_⟩
    · unfold roomOf
      rw [e1, e2, e3, encTo_all]
      simp
    · unfold usedN
      rw [e1, e2, e3]
      simp
      omega))
  have hb := And.intro h.b1 (And.intro h.b2 h.b3)
  obtain ⟨s1, hs1⟩ : ∃ s : Nat, s = l.n1 + l.n2 := ⟨_, rfl⟩
  obtain ⟨s2, hs2⟩ : ∃ s : Nat, s = s1 + l.n3 := ⟨_, rfl⟩
  obtain ⟨s3, hs3⟩ : ∃ s : Nat, s = s2 + l.n4 := ⟨_, rfl⟩
  have hw1 : IntKind.i64.wrap ((l.n1 : Int) + (l.n2 : Int)) = (s1 : Int) := by rw [show (l.n1 : Int) + (l.n2 : Int) = (s1 : Int) by omega]; exact IntWalk.i64_in _ ⟨by omega, by omega⟩
  have hw2 : IntKind.i64.wrap ((s1 : Int) + (l.n3 : Int)) = (s2 : Int) := by rw [show (s1 : Int) + (l.n3 : Int) = (s2 : Int) by omega]; exact IntWalk.i64_in _ ⟨by omega, by omega⟩
  have hw3 : IntKind.i64.wrap ((s2 : Int) + (l.n4 : Int)) = (s3 : Int) := by rw [show (s2 : Int) + (l.n4 : Int) = (s3 : Int) by omega]; exact IntWalk.i64_in _ ⟨by omega, by omega⟩
  have hw4 : IntKind.i64.wrap ((s3 : Int) - (l.n4 : Int)) = (s2 : Int) := by rw [show (s3 : Int) - (l.n4 : Int) = (s2 : Int) by omega]; exact IntWalk.i64_in _ ⟨by omega, by omega⟩
  have HS2 := kept (show s2 = l.n1 + l.n2 + l.n3 by omega)
  have HN := kept hn
  obtain ⟨I, hI⟩ : ∃ I, P.ids = I := ⟨_, rfl⟩
  rw [hI] at HR4 HI HIL HRN HUS
  clear h hkP hL hs1 hs2 hs3 hb hI
  obtain ⟨kind, txn, next, a1, n1, c1, a2, n2, c2, a3, n3, c3, a4, n4, c4⟩ := l
  simp only at hk hw1 hw2 hw3 hw4 hn HI HIL HLN HNX HS2 HN
  subst hk
  have HRO := kept (ro_new w 4 txn next a1 n1 c1 a2 n2 c2 a3 n3 c3 a4 n4 c4)
  go_enter Tryd.func39, Tryd.ntmps39
  go_wp2
  generalize (w.alloc (.cells #[.int .i64 4, .int .u64 txn, .int .i64 next, .slice a1 n1 c1, .slice a2 n2 c2, .slice a3 n3 c3, .slice a4 n4 c4] 34)) = w1 at HRO ⊢
  generalize (w1.alloc (.cells #[] 5)) = w2 at HRO ⊢
  have HBW := kept (fun (X : World) (hX : Below (w.heap.size + 1) w1 X) => HRO.out.below.trans (hX.mono (Nat.le_succ _)))
  have HSB := kept (fun (X : World) (hX : Below (w.heap.size + 1) w1 X) => (show w.heap.size + 1 ≤ X.heap.size from Nat.le_trans (Nat.le_of_eq HRO.out.size.symm) hX.size))
  have HSV := kept (fun (X : World) (hX : Below (w.heap.size + 1) w1 X) => sev_old HRO.out.box hX)
  go_loopw [5, 201] (fun o i wr => ∃ (k : Nat) (A : Option Addr) (c : Nat), k ≤ n4 ∧ i = .int .i64 k ∧ o = .slice A (4 * k) c ∧ Hid (wr.ownsRow (w.heap.size + 1) 5 1 (.slice A (4 * k) c) (4 * k) (cellsOf (encTo encId I k))) ∧ Hid (Below (w.heap.size + 1) w1 wr) ∧ Hid (ordU isPg cmpN I k = true)) (fun _ i _ => n4 - (intOf i).toNat)
  case atStart => exact ⟨0, _, _, by omega, rfl, rfl, kept HRO.out.own, kept HRO.out.next_, ordU_zero⟩
  case round =>
    obtain ⟨k, A, c, hk, rfl, rfl, HO, HB, HU⟩ := hrel
    by_cases hlt : k < n4
    · have hrd := HI.out.below (HBW.out _ HB.out)
      obtain ⟨b, o, ea4, hc⟩ := hrd.at_ hlt
      subst ea4
      have hki : k < I.length := by rw [HIL.out]; exact hlt
      have hi1 : (0 : Int) ≤ (k : Int) := by omega
      have hi2 : (k : Int) < (n4 : Int) := by omega
      cases hok : isPg (I[k]'hki) with
      | false =>
        have HF := kept (HRN.out (by rw [HIL.out]; exact ordU_bad hki hlt hok))
        have HP := fun w => kept (refId_any (I[k]'hki) w false hok)
        have HBX := kept (HBW.out _ HB.out)
        generalize I[k]'hki = x at hc HP
        clear hok hrd
        go_wp2_with (first | (go_at_call 68; (with_reducible refine ((HP _).out).mono ?_); rintro e w' ⟨rfl, rfl⟩))
        go_ret3
        exact .inr ⟨HF.out, rfl, HBX.out⟩
      | true =>
        have hx := page_small' hok
        obtain ⟨v, hv, hv2⟩ : ∃ v : Nat, I[k]'hki = (v : Int) ∧ v < 1024 := ⟨(I[k]'hki).toNat, by omega, by omega⟩
        have HPU := fun w => kept (refPut4 v w hv2)
        have HEN := kept (show encTo encId I k ++ be v 4 = encTo encId I (k + 1) from by rw [encTo_succ hki, hv]; rfl)
        have hok' := hok
        rw [hv] at hok'
        have HP := fun w => kept (refId_any (v : Int) w true hok')
        have hv0 : IntKind.u64.wrap (v : Int) = (v : Int) := IntWalk.u64_in _ ⟨by omega, by omega⟩
        rw [hv] at hc
        have HSB1 := kept (HSB.out _ HB.out)
        have HSV1 := kept (HSV.out _ HB.out)
        cases k with
        | zero =>
          have HU2 : Hid (ordU isPg cmpN I 1 = true) := kept (ordU_first hki hok)
          have HVV := kept hv2
          clear hok hok' hv hv2 hx hrd
          rw [Nat.add_zero] at hc
          go_wp2_with fail
          with_reducible refine (HP _).out.mono ?_
          rintro e w3 ⟨rfl, rfl⟩
          go_wp2_with fail
          with_reducible refine (HPU _).out.mono ?_
          rintro e w3 ⟨A3, c3', rfl, hrd, hb⟩
          have HO3 := kept (own_stays HO.out hb)
          have HR3 := kept hrd
          have HB3 := kept (HB.out.trans (hb.mono HSB1.out |>.mono (Nat.le_refl _)))
          have HS3 := kept (Nat.le_trans HSB1.out hb.size)
          clear hrd hb
          go_wp2_with (first | (at_builtin; refine wpList_append_is rfl _ _ 25 rfl (w.heap.size + 1) 5 rfl rfl Tryd.underlying25 u8info HO3.out HR3.out (by omega) HS3.out (4 * (0 + 1)) (encTo encId I (0 + 1)) rfl HEN.out ?_; intro A4 c4' w4 hown4 hb4; have HO4 := kept hown4; have HB4 := kept (HB3.out.trans hb4); clear hown4 hb4))
          go_roundw
          case rel => exact ⟨1, A4, c4', by omega, by go_num, rfl, HO4, HB4, HU2⟩
          case measure => simp [intOf]; omega
        | succ k =>
          have hc0 := hrd.2.2 b o rfl k (by omega)
          have hi3 : (0 : Int) ≤ (k : Int) + 1 - 1 := by omega
          obtain ⟨n0, n1', n2', n3', n4', n5', n6'⟩ := HSV1.out
          by_cases hcm : I[k]'(by omega) < I[k + 1]'hki
          · have HU2 : Hid (ordU isPg cmpN I (k + 1 + 1) = true) := kept (ordU_next hki HU.out hok (cmpN_lt hcm))
            rw [hv] at hcm
            generalize I[k]'(by omega) = y at hc0 hcm
            have hd : decide ((v : Int) ≤ y) = false := by simp; omega
            clear hok hok' hv hv2 hx hrd
            go_wp2_with fail
            with_reducible refine (HP _).out.mono ?_
            rintro e w3 ⟨rfl, rfl⟩
            go_wp2_with fail
            with_reducible refine (HPU _).out.mono ?_
            rintro e w3 ⟨A3, c3', rfl, hrd, hb⟩
            have HO3 := kept (own_stays HO.out hb)
            have HR3 := kept hrd
            have HB3 := kept (HB.out.trans (hb.mono HSB1.out |>.mono (Nat.le_refl _)))
            have HS3 := kept (Nat.le_trans HSB1.out hb.size)
            clear hrd hb n0 n1' n2' n3' n4' n5' n6'
            go_wp2_with (first | (at_builtin; refine wpList_append_is rfl _ _ 25 rfl (w.heap.size + 1) 5 rfl rfl Tryd.underlying25 u8info HO3.out HR3.out (by have := HN.out; omega) HS3.out (4 * (k + 1 + 1)) (encTo encId I (k + 1 + 1)) (by omega) HEN.out ?_; intro A4 c4' w4 hown4 hb4; have HO4 := kept hown4; have HB4 := kept (HB3.out.trans hb4); clear hown4 hb4))
            go_roundw
            case rel => exact ⟨k + 1 + 1, A4, c4', by omega, by go_num, rfl, HO4, HB4, HU2⟩
            case measure => simp [intOf]; omega
          · have HF := kept (HRN.out (by rw [HIL.out]; exact ordU_back hki hlt (cmpN_ge (by omega))))
            have HBX := kept (HBW.out _ HB.out)
            rw [hv] at hcm
            generalize I[k]'(by omega) = y at hc0 hcm
            have hd : decide ((v : Int) ≤ y) = true := by simp; omega
            clear hok hok' hv hv2 hx hrd
            go_wp2_with (first | (go_at_call 68; (with_reducible refine ((HP _).out).mono ?_); rintro e w' ⟨rfl, rfl⟩))
            go_ret3
            exact .inr ⟨HF.out, rfl, HBX.out⟩
    · obtain rfl : k = n4 := by omega
      have HR5 := kept (HR4.out (by rw [HIL.out]; exact HU.out))
      have HBX := kept (HBW.out _ HB.out)
      obtain ⟨n0, n1', n2', n3', n4', n5', n6'⟩ := HSV.out _ HB.out
      clear hlt hk
      have hs2 := HS2.out
      have hll := HLN.out
      have hnx := HNX.out
      by_cases t1 : s2 = 0
      · by_cases t2 : 237 < 4 * k
        · have HFF : Hid (rightB P = false) := kept (by rw [HR5.out, HIL.out, decide_eq_false (p := k * 4 ≤ 237) (by omega)]; simp)
          have g2 : decide ((237 : Int) < 4 * (k : Int)) = true := by rw [decide_eq_true_eq]; omega
          have g1 : ((s2 : Int) != 0) = false := by rw [t1]; rfl
          have g0 : ((k : Int) == 0) = false := by rw [beq_eq_false_iff_ne]; omega
          clear hs2 hll hnx t1 t2
          go_wp2
          all_goals
            go_ret3
            exact .inr ⟨HFF.out, rfl, HBX.out⟩
        · have g2 : decide ((237 : Int) < 4 * (k : Int)) = false := by rw [decide_eq_false_iff_not]; omega
          have g1 : ((s2 : Int) != 0) = false := by rw [t1]; rfl
          by_cases t3 : next < 0
          · have HFF : Hid (rightB P = false) := kept (by rw [HR5.out, decide_eq_false (p := 0 ≤ P.next) (by omega)]; simp)
            have g3 : decide (next < 0) = true := by rw [decide_eq_true_eq]; omega
            clear hs2 hll hnx t1 t2 t3
            go_wp2
            all_goals
              go_ret3
              exact .inr ⟨HFF.out, rfl, HBX.out⟩
          · have g3 : decide (next < 0) = false := by rw [decide_eq_false_iff_not]; omega
            by_cases t4 : 1024 ≤ next
            · have HFF : Hid (rightB P = false) := kept (by rw [HR5.out, decide_eq_false (p := P.next < 1024) (by omega)]; simp)
              have g4 : decide (1024 ≤ next) = true := by rw [decide_eq_true_eq]; omega
              clear hs2 hll hnx t1 t2 t3 t4
              go_wp2
              all_goals
                go_ret3
                exact .inr ⟨HFF.out, rfl, HBX.out⟩
            · have HTT : Hid (rightB P = true) := kept (by rw [HR5.out, HIL.out]; simp only [Bool.and_eq_true, decide_eq_true_eq]; omega)
              have g4 : decide (1024 ≤ next) = false := by rw [decide_eq_false_iff_not]; omega
              have hus := HUS.out (by omega)
              rw [HIL.out] at hus
              have HU1 := kept hus
              have HU2 : Hid (cntP P = k) := kept (by omega)
              clear hs2 hll hnx t1 t2 t3 t4 hus
              go_wp2
              all_goals
                go_ret3
                refine .inl ⟨HTT.out, ⟨A, c, by rw [HU1.out.2, HU2.out] <;> first | done | rfl | (simp <;> omega), ?_⟩, HBX.out⟩
                rw [HU1.out.1, HU1.out.2]
                exact own_mono HO.out (Nat.le_succ _)
      · have HFF : Hid (rightB P = false) := kept (by rw [HR5.out, decide_eq_false (p := P.items.length + P.kids.length + P.data.length = 0) (by omega)]; rfl)
        have g1 : ((s2 : Int) != 0) = true := by rw [bne_iff_ne]; omega
        clear hs2 hll hnx t1
        go_wp2
        all_goals
          go_ret3
          exact .inr ⟨HFF.out, rfl, HBX.out⟩
end Go.Proofs.YtfgpkgenahlikaaDoor
