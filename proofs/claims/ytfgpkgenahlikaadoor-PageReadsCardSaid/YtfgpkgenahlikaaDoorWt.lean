/-
  The writer's things: all that a page has.
-/
import Derived.Test.YtfgpkgenahlikaaDoorWi
namespace Go.Proofs.YtfgpkgenahlikaaDoor
open Go.ChangeShapes Go.WideShapes Go.ChangeAt Go.RowKit
set_option linter.unusedVariables false
set_option linter.unusedSimpArgs false

/-- The bytes of the first k. -/
def encTo {α : Type} (f : α → List UInt8) (I : List α) (k : Nat) : List UInt8 := ((I.take k).map f).flatten
section
variable {α : Type} {f : α → List UInt8} {g : α → Nat} {I : List α}
theorem encTo_zero : encTo f I 0 = [] := rfl
theorem encTo_succ {k : Nat} (h : k < I.length) : encTo f I (k + 1) = encTo f I k ++ f I[k] := by
  unfold encTo
  rw [List.take_succ_eq_append_getElem h]
  simp only [List.map_append, List.map_cons, List.map_nil, List.flatten_append, List.flatten_cons, List.flatten_nil, List.append_nil]
theorem encTo_all : encTo f I I.length = (I.map f).flatten := by unfold encTo; rw [List.take_length]
theorem flatten_len (h : ∀ x, (f x).length = g x) : ∀ J : List α, (J.map f).flatten.length = (J.map g).sum
  | [] => rfl
  | x :: r => by rw [List.map_cons, List.flatten_cons, List.length_append, h, flatten_len h r, List.map_cons, List.sum_cons]
theorem encTo_length (h : ∀ x, (f x).length = g x) (k : Nat) : (encTo f I k).length = sumTo g I k := flatten_len h _
end
def roomOf (P : Pg) : List UInt8 := (P.items.map encItem).flatten ++ (P.kids.map encKid).flatten ++ P.data ++ (P.ids.map encId).flatten
theorem sum_rep (n c : Nat) : (List.replicate n c).sum = n * c := by
  induction n with
  | zero => simp
  | succ n ih => rw [List.replicate_succ, List.sum_cons, ih, Nat.succ_mul, Nat.add_comm]
theorem encId_length (i : Int) : (encId i).length = 4 := be_length _ _
theorem roomOf_length (P : Pg) : (roomOf P).length = usedN P := by
  unfold roomOf usedN
  rw [List.length_append, List.length_append, List.length_append, flatten_len encItem_length, flatten_len encKid_length, flatten_len (f := encId) (g := fun _ => 4) encId_length]
  rw [List.map_const', sum_rep]
  omega
theorem box2 (w : World) (b : Nat) (v0 v1 : Value) (t : TypeId) (hb : b < w.heap.size) {X : World} (h : Only (w.alloc (.cells #[v0, v1] t)) X b) : X.cell? ⟨w.heap.size, 0, none⟩ = some v0 ∧ X.cell? ⟨w.heap.size, 1, none⟩ = some v1 := by
  have key : ∀ (i : Nat) (v : Value), #[v0, v1][i]? = some v → (w.alloc (.cells #[v0, v1] t)).cell? ⟨w.heap.size, i, none⟩ = some v := fun i v hv => by rw [cell_of_row _ w.heap.size i _ _ _ (heap_alloc_new w _)]; exact hv
  exact ⟨h.cell_ (by simp; omega) (key 0 _ rfl), h.cell_ (by simp; omega) (key 1 _ rfl)⟩
theorem sev_only (w : World) (b : Nat) (kind txn next : Int) (a1 : Option Addr) (n1 c1 : Nat) (a2 : Option Addr) (n2 c2 : Nat) (a3 : Option Addr) (n3 c3 : Nat) (a4 : Option Addr) (n4 c4 : Nat) (t : TypeId) (hb : b < w.heap.size) {X : World}
    (h : Only (w.alloc (.cells #[.int .i64 kind, .int .u64 txn, .int .i64 next, .slice a1 n1 c1, .slice a2 n2 c2, .slice a3 n3 c3, .slice a4 n4 c4] t)) X b) : Sev X w.heap.size kind txn next a1 n1 c1 a2 n2 c2 a3 n3 c3 a4 n4 c4 := by
  have key : ∀ (i : Nat) (v : Value), #[Value.int .i64 kind, .int .u64 txn, .int .i64 next, .slice a1 n1 c1, .slice a2 n2 c2, .slice a3 n3 c3, .slice a4 n4 c4][i]? = some v → (w.alloc (.cells #[.int .i64 kind, .int .u64 txn, .int .i64 next, .slice a1 n1 c1, .slice a2 n2 c2, .slice a3 n3 c3, .slice a4 n4 c4] t)).cell? ⟨w.heap.size, i, none⟩ = some v := fun i v hv => by rw [cell_of_row _ w.heap.size i _ _ _ (heap_alloc_new w _)]; exact hv
  exact ⟨h.cell_ (by simp; omega) (key 0 _ rfl), h.cell_ (by simp; omega) (key 1 _ rfl), h.cell_ (by simp; omega) (key 2 _ rfl), h.cell_ (by simp; omega) (key 3 _ rfl), h.cell_ (by simp; omega) (key 4 _ rfl), h.cell_ (by simp; omega) (key 5 _ rfl), h.cell_ (by simp; omega) (key 6 _ rfl)⟩
theorem kidOk_parts {x : Kd} (h : kidOk x = true) : x.key.length ≤ 32 ∧ 1 ≤ x.page ∧ x.page < 1024 := by
  unfold kidOk isPg at h
  simpa using h
theorem things_parts {P : Pg} (h : thingsB P = true) : (∀ x ∈ P.items, itemOk x = true) ∧ (∀ x ∈ P.kids, kidOk x = true) ∧ (∀ x ∈ P.ids, isPg x = true) := by
  unfold thingsB at h
  simp only [Bool.and_eq_true] at h
  exact ⟨ordU_all h.1.1, ordU_all h.1.2, ordU_all h.2⟩
/-- A writer's state in a loop. -/
def Wst (W0 : World) (b : Nat) (zs : List UInt8) (w : World) : Prop := Wr w b zs ∧ Only W0 w b
set_option maxRecDepth 100000 in
set_option maxHeartbeats 2000000 in
theorem wthings_any (w0 : World) (b : Nat) (xs : List UInt8) (l : Lay) (P : Pg) (w : World) (hw : Wr w b xs) (hr : RdPg w0 l P) (hf : Fr w0 b w) (hT : thingsB P = true) (hfit : xs.length + usedN P ≤ 252) :
    Calls Tryd.prog 37 #[.pointer (some ⟨b, 0, none⟩), l.val] w fun e w' => e = .returned (.tuple #[]) ∧ Hid (Wst w b (xs ++ roomOf P) w') := by
  obtain ⟨t1, t2, t3⟩ := things_parts hT
  have hbl := hw.lt
  obtain ⟨I, hI⟩ : ∃ I, P.items = I := ⟨_, rfl⟩
  obtain ⟨J, hJ⟩ : ∃ J, P.kids = J := ⟨_, rfl⟩
  obtain ⟨D, hD⟩ : ∃ D, P.data = D := ⟨_, rfl⟩
  obtain ⟨S, hS⟩ : ∃ S, P.ids = S := ⟨_, rfl⟩
  have hn1 := hr.n1
  have hn2 := hr.n2
  have hn3 := hr.n3
  have hn4 := hr.n4
  have b1 := hr.b1
  have b2 := hr.b2
  have b4 := hr.b4
  have r1 := hr.items
  have r2 := hr.kids
  have r3 := hr.data
  have r4 := hr.ids
  rw [hI] at t1 hn1 r1
  rw [hJ] at t2 hn2 r2
  rw [hD] at hn3 r3
  rw [hS] at t3 hn4 r4
  have hU : usedN P = D.length + S.length * 4 + (I.map itemUse).sum + (J.map kidUse).sum := by rw [← hI, ← hJ, ← hD, ← hS]; rfl
  have HE : Hid (roomOf P = encTo encItem I l.n1 ++ encTo encKid J l.n2 ++ D ++ encTo encId S l.n4) := kept (by unfold roomOf; rw [hI, hJ, hD, hS, ← hn1, ← hn2, ← hn4, encTo_all, encTo_all, encTo_all])
  generalize roomOf P = rm at HE
  obtain ⟨p, hp⟩ : ∃ p, xs.length = p := ⟨_, rfl⟩
  rw [hU, hn3, hn4] at hfit
  obtain ⟨si, hsi⟩ : ∃ si, (I.map itemUse).sum = si := ⟨_, rfl⟩
  obtain ⟨sk, hsk⟩ : ∃ sk, (J.map kidUse).sum = sk := ⟨_, rfl⟩
  rw [hsi, hsk, hp] at hfit
  have L1 : ∀ k, (encTo encItem I k).length ≤ si := fun k => by rw [encTo_length encItem_length, ← hsi]; exact sumTo_le k
  have L2 : ∀ k, (encTo encKid J k).length ≤ sk := fun k => by rw [encTo_length encKid_length, ← hsk]; exact sumTo_le k
  have L4 : ∀ k, k ≤ l.n4 → (encTo encId S k).length = 4 * k := fun k hk => by
    rw [encTo_length (f := encId) (g := fun _ => 4) encId_length]
    unfold sumTo
    rw [List.map_const', sum_rep, List.length_take, Nat.min_eq_left (by omega)]
    omega
  clear hr hT hI hJ hD hS hU hsi hsk
  obtain ⟨kind, txn, next, a1, n1, c1, a2, n2, c2, a3, n3, c3, a4, n4, c4⟩ := l
  simp only at hn1 hn2 hn3 hn4 b1 b2 b4 r1 r2 r3 r4 HE L4 hfit
  obtain ⟨W0, hW0⟩ : ∃ W0, w.alloc (.cells #[.int .i64 kind, .int .u64 txn, .int .i64 next, .slice a1 n1 c1, .slice a2 n2 c2, .slice a3 n3 c3, .slice a4 n4 c4] 28) = W0 := ⟨_, rfl⟩
  have HS : Hid (∀ {X : World}, Only W0 X b → Sev X w.heap.size kind txn next a1 n1 c1 a2 n2 c2 a3 n3 c3 a4 n4 c4) := kept (by subst hW0; exact sev_only w b kind txn next a1 n1 c1 a2 n2 c2 a3 n3 c3 a4 n4 c4 _ hbl)
  have HO0 : Hid (Only w W0 b) := kept (by rw [← hW0]; exact Only.alloc_ _ _ _)
  have HST0 : Hid (Wst W0 b xs W0) := kept ⟨by rw [← hW0]; exact hw.alloc _, Only.refl _ _⟩
  have HFR : Hid (∀ {X : World}, Only W0 X b → Fr w0 b X) := kept (fun h => hf.only (HO0.out.trans h))
  have HW0 := kept hW0
  have HR1 := kept r1
  have HR2 := kept r2
  have HR3 := kept r3
  have HR4 := kept r4
  have HT1 := kept t1
  have HT2 := kept t2
  have HT3 := kept t3
  have HL1 := kept L1
  have HL2 := kept L2
  have HL4 := kept L4
  have HN1 := kept hn1
  have HN2 := kept hn2
  have HN3 := kept hn3
  have HN4 := kept hn4
  have HP := kept hp
  obtain ⟨y0, y1, y2, y3, y4, y5, y6⟩ := HS.out (Only.refl W0 b)
  have hwe : W0.heap.size = w.heap.size + 1 := by rw [← hW0]; simp
  have HWE := kept hwe
  clear hw hf hW0 r1 r2 r3 r4 t1 t2 t3 L1 L2 L4 hn1 hn2 hn3 hn4 hp hwe
  go_enter Tryd.func37, Tryd.ntmps37
  go_wp2
  rw [HW0.out]
  go_loopw [13] (fun i wr => ∃ k : Nat, k ≤ n1 ∧ i = .int .i64 k ∧ Hid (Wst W0 b (xs ++ encTo encItem I k) wr)) (fun i _ => n1 - (intOf i).toNat)
  case atStart => exact ⟨0, by omega, rfl, by rw [encTo_zero, List.append_nil]; exact HST0⟩
  case round =>
    obtain ⟨k, hk, rfl, HW⟩ := hrel
    by_cases hlt : k < n1
    · have hbw := HW.out.1.lt
      obtain ⟨bb, o, L, rfl, hrd, hc0, hc1, hc2, hc3⟩ := HR1.out.at_ hlt
      have hc0 := cell_below (HFR.out HW.out.2).1 hc0
      have hc1 := cell_below (HFR.out HW.out.2).1 hc1
      have hc2 := cell_below (HFR.out HW.out.2).1 hc2
      have hc3 := cell_below (HFR.out HW.out.2).1 hc3
      have hki : k < I.length := by rw [HN1.out]; exact hlt
      have HSU := kept (encTo_succ (f := encItem) hki)
      have hle := HL1.out (k + 1)
      rw [HSU.out, List.length_append, encItem_length] at hle
      have HIT := kept (witem_any w0 b (xs ++ encTo encItem I k) L (I[k]'hki) (wr.alloc (.cells #[.slice L.ka L.kn L.kc, .slice L.va L.vn L.vc, .int .i64 L.size, .int .i64 L.more] 67)) (HW.out.1.alloc _) hrd ((HFR.out HW.out.2).alloc _) (HT1.out _ (List.getElem_mem hki)) (by rw [List.length_append, HP.out]; omega))
      clear hrd hle
      obtain ⟨ka, kn, kc, va, vn, vc, size, more⟩ := L
      simp only at hc0 hc1 hc2 hc3 HIT
      go_wp2_with (first | (go_at_call 66; (with_reducible refine (HIT.out).mono ?_); rintro e w1 ⟨rfl, h1⟩))
      have HNX : Hid (Wst W0 b (xs ++ encTo encItem I (k + 1)) w1) := kept ⟨by rw [HSU.out, ← List.append_assoc]; exact h1.out.1, (HW.out.2.trans (Only.alloc_ _ _ _)).trans h1.out.2⟩
      clear h1
      go_roundw
      case rel => exact ⟨k + 1, by omega, by go_num, HNX⟩
      case measure => simp [intOf]; omega
    · obtain rfl : k = n1 := by omega
      obtain ⟨x0, x1, x2, x3, x4, x5, x6⟩ := HS.out HW.out.2
      obtain ⟨zs, hzs⟩ : ∃ zs, xs ++ encTo encItem I k = zs := ⟨_, rfl⟩
      have hzl : zs.length ≤ p + si := by rw [← hzs, List.length_append, HP.out]; have := HL1.out k; omega
      have HZ := kept hzs
      rw [hzs] at HW
      clear hzs
      go_wp2
      go_loopw [24] (fun i wx => ∃ j : Nat, j ≤ n2 ∧ i = .int .i64 j ∧ Hid (Wst W0 b (zs ++ encTo encKid J j) wx)) (fun i _ => n2 - (intOf i).toNat)
      case atStart => exact ⟨0, by omega, rfl, by rw [encTo_zero, List.append_nil]; exact HW⟩
      case round =>
        obtain ⟨j, hj, rfl, HX⟩ := hrel
        rename World => wx
        by_cases hlt : j < n2
        · have hbw := HX.out.1.lt
          obtain ⟨bb, o, L, rfl, hrd, hg0, hg1⟩ := HR2.out.at_ hlt
          have hg0 := cell_below (HFR.out HX.out.2).1 hg0
          have hg1 := cell_below (HFR.out HX.out.2).1 hg1
          have hki : j < J.length := by rw [HN2.out]; exact hlt
          have HSU := kept (encTo_succ (f := encKid) hki)
          have hle := HL2.out (j + 1)
          rw [HSU.out, List.length_append, encKid_length] at hle
          obtain ⟨p1, p2, p3⟩ := kidOk_parts (HT2.out _ (List.getElem_mem hki))
          have hue : kidUse (J[j]'hki) = 5 + L.kn := by unfold kidUse; rw [hrd.1.1]
          rw [hue] at hle
          have HKE : Hid (encKid (J[j]'hki) = be L.kn 1 ++ (J[j]'hki).key ++ be L.page.toNat 4) := kept (by unfold encKid; rw [hrd.1.1, hrd.2.1])
          rw [hrd.1.1] at p1
          rw [hrd.2.1] at p2 p3
          have HKR := fun {X : World} (h : Only W0 X b) => kept (hrd.1.below (HFR.out h).1)
          generalize J[j]'hki = y at HKE HKR HSU
          obtain ⟨ka, kn, kc, page⟩ := L
          simp only at hg0 hg1 HKE HKR p1 p2 p3 hle
          obtain ⟨pn, rfl⟩ := Int.eq_ofNat_of_zero_le (show 0 ≤ page by omega)
          have HPN : Hid (((pn : Int)).toNat = pn) := kept (Int.toNat_natCast pn)
          have HBX := fun {X : World} (h : Only (wx.alloc (.cells #[.slice ka kn kc, .int .i64 (pn : Int)] 69)) X b) => kept (box2 wx b _ _ _ hbw h)
          have HOX : Hid (∀ {X : World}, Only (wx.alloc (.cells #[.slice ka kn kc, .int .i64 (pn : Int)] 69)) X b → Only W0 X b) := kept (fun h => (HX.out.2.trans (Only.alloc_ _ _ _)).trans h)
          have H1 := kept (wnum1 b (zs ++ encTo encKid J j) kn (wx.alloc (.cells #[.slice ka kn kc, .int .i64 (pn : Int)] 69)) (HX.out.1.alloc _) (by rw [List.length_append]; omega) (by omega))
          have hq1 : (zs ++ encTo encKid J j).length + (5 + kn) ≤ 252 := by rw [List.length_append]; omega
          generalize hys : zs ++ encTo encKid J j = ys at H1 hq1
          have HYS := kept hys
          clear hrd hle hue hys
          go_wp2_with fail
          with_reducible refine H1.out.mono ?_
          rintro e w1 ⟨rfl, h1⟩
          obtain ⟨z0, z1⟩ := (HBX h1.out.2).out
          have H2 := kept (wbytes_any b _ y.key ka kn kc w1 h1.out.1 (HKR (HOX.out h1.out.2)).out (by rw [List.length_append, be_length]; omega))
          go_wp2_with fail
          with_reducible refine H2.out.mono ?_
          rintro e w2 ⟨rfl, h2⟩
          have HO2 := kept (h1.out.2.trans h2.out.2)
          obtain ⟨u0, u1⟩ := (HBX HO2.out).out
          have hkl := (HKR (HOX.out HO2.out)).out.1
          have H3 := kept (wid_any b _ pn w2 h2.out.1 (by rw [List.length_append, List.length_append, be_length, hkl]; omega) (by omega))
          clear hkl
          go_wp2_with (first | (go_at_call 35; (with_reducible refine (H3.out).mono ?_); rintro e w3 ⟨rfl, h3⟩))
          have HNX : Hid (Wst W0 b (zs ++ encTo encKid J (j + 1)) w3) := kept ⟨by have := h3.out.1; rw [HSU.out, HKE.out, HPN.out, ← List.append_assoc, HYS.out]; simpa only [List.append_assoc] using this, HOX.out (HO2.out.trans h3.out.2)⟩
          clear h1 h2 h3
          go_roundw
          case rel => exact ⟨j + 1, by omega, by go_num, HNX⟩
          case measure => simp [intOf]; omega
        · obtain rfl : j = n2 := by omega
          obtain ⟨v0, v1, v2, v3, v4, v5, v6⟩ := HS.out HX.out.2
          have hl2 := HL2.out j
          have H4 := kept (wbytes_any b (zs ++ encTo encKid J j) D a3 n3 c3 wx HX.out.1 (HR3.out.below (HFR.out HX.out.2).1) (by rw [List.length_append]; omega))
          obtain ⟨ys, hys⟩ : ∃ ys, zs ++ encTo encKid J j ++ D = ys := ⟨_, rfl⟩
          have hyl : ys.length ≤ p + si + sk + n3 := by rw [← hys, List.length_append, List.length_append, HN3.out]; omega
          rw [hys] at H4
          have HYS := kept hys
          clear hys hl2
          go_wp2_with fail
          with_reducible refine H4.out.mono ?_
          rintro e w4 ⟨rfl, h4⟩
          have HW4 : Hid (Wst W0 b ys w4) := kept ⟨h4.out.1, HX.out.2.trans h4.out.2⟩
          clear h4
          obtain ⟨q0, q1, q2, q3, q4, q5, q6⟩ := HS.out HW4.out.2
          go_wp2
          go_loopw [50] (fun i wy => ∃ m : Nat, m ≤ n4 ∧ i = .int .i64 m ∧ Hid (Wst W0 b (ys ++ encTo encId S m) wy)) (fun i _ => n4 - (intOf i).toNat)
          case atStart => exact ⟨0, by omega, rfl, by rw [encTo_zero, List.append_nil]; exact HW4⟩
          case round =>
            obtain ⟨m, hm, rfl, HY⟩ := hrel
            rename World => wy
            by_cases hlt : m < n4
            · obtain ⟨bb, o, rfl, hg0⟩ := HR4.out.at_ hlt
              have hg0 := cell_below (HFR.out HY.out.2).1 hg0
              have hki : m < S.length := by rw [HN4.out]; exact hlt
              have HSU := kept (encTo_succ (f := encId) hki)
              have hl4 := HL4.out m (by omega)
              have hpg := HT3.out _ (List.getElem_mem hki)
              generalize S[m]'hki = y at hg0 hpg HSU
              have hpp : 1 ≤ y ∧ y < 1024 := by simpa [isPg] using hpg
              obtain ⟨pn, rfl⟩ := Int.eq_ofNat_of_zero_le (show 0 ≤ y by omega)
              have HPN : Hid (encId (pn : Int) = be pn 4) := kept (by unfold encId; rw [Int.toNat_natCast])
              have H5 := kept (wid_any b (ys ++ encTo encId S m) pn wy HY.out.1 (by rw [List.length_append, hl4]; omega) (by omega))
              clear hl4 hpg
              go_wp2_with (first | (go_at_call 35; (with_reducible refine (H5.out).mono ?_); rintro e w5 ⟨rfl, h5⟩))
              have HNX : Hid (Wst W0 b (ys ++ encTo encId S (m + 1)) w5) := kept ⟨by rw [HSU.out, HPN.out, ← List.append_assoc]; exact h5.out.1, HY.out.2.trans h5.out.2⟩
              clear h5
              go_roundw
              case rel => exact ⟨m + 1, by omega, by go_num, HNX⟩
              case measure => simp [intOf]; omega
            · obtain rfl : m = n4 := by omega
              have HFIN : Hid (Wst w b (xs ++ rm) wy) := kept ⟨by
                have := HY.out.1
                rw [← HYS.out, ← HZ.out] at this
                rw [HE.out]
                simpa only [List.append_assoc] using this, HO0.out.trans HY.out.2⟩
              go_wp2
              go_end0
              exact ⟨rfl, HFIN⟩
end Go.Proofs.YtfgpkgenahlikaaDoor
