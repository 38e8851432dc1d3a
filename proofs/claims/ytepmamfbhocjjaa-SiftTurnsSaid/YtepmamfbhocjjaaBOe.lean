/-
  Texts laid together: Oe Oi.
-/
import Derived.Test.YtepmamfbhocjjaaBOc
import Derived.Deep.CutRange
import Derived.Test.YtepmamfbhocjjaaBOb
section
/-
  slices.symMergeCmpFunc at records, whole; slices.stableCmpFunc.
-/
namespace Go.Proofs.Ytepmamfbhocjjaa
open Go.Shelf Go.RowKit Go.Lib Go.Sort
set_option linter.unusedVariables false
set_option linter.unusedSimpArgs false
set_option linter.unusedSectionVars false
section
variable {α : Type} [Inhabited α] {enc : α → List Value} {w0 : World} {blk off k : Nat} {d0 : Array α} {P : Program} {cf : α → α → Int}
theorem perm_four (A1 B1 A2 B2 : List α) : ((A1 ++ B1) ++ (A2 ++ B2)).Perm ((A1 ++ A2) ++ (B1 ++ B2)) := by
  rw [List.append_assoc, List.append_assoc]
  refine List.Perm.append (List.Perm.refl _) ?_
  rw [← List.append_assoc, ← List.append_assoc]
  exact List.Perm.append List.perm_append_comm (List.Perm.refl _)
/-- What a merge answers. -/
def MergeC (P : Program) (enc : α → List Value) (k : Nat) (w0 : World) (blk off : Nat) (cf : α → α → Int) (g : Nat) (cb : Array Value) (cap sz a m b : Nat) (X A B Y : List α) (w : World) : Prop :=
  Calls P 31 #[.slice (some ⟨blk, off, none⟩) sz cap, .int .i64 a, .int .i64 m, .int .i64 b, .func (.func g) #[] cb] w fun e w' => e = .returned (.tuple #[]) ∧ ∃ M : List α, M.Perm (A ++ B) ∧ LeS (ltOf cf) M ∧ SWK enc k w0 blk off (X ++ (M ++ Y)).toArray w'
set_option maxHeartbeats 2000000 in
set_option maxRecDepth 1000000 in
theorem merge_mid (L : StP P k) (R : RowK enc k w0 blk off d0) (g : Nat) (cb : Array Value) (eg : ∀ args w, (callFunc g args).run P w = .ok (.enter g args) w) (hC : CmpLays P g cb enc k cf blk off d0.size w0) (hO : SWO (ltOf cf)) (cap a m b sz : Nat) (X A B Y : List α) (w : World)
    (hs : d0.size = sz) (hsz : sz < 4611686018427387904) (ha : X.length = a) (hm : a + A.length = m) (hm2 : a + 2 ≤ m) (hb : m + B.length = b) (hb2 : m + 2 ≤ b) (hy : b + Y.length = sz) (hA : LeS (ltOf cf) A) (hB : LeS (ltOf cf) B)
    (HI : ∀ a' m' b' (X' A' B' Y' : List α) w', b' - a' < b - a → X'.length = a' → a' + A'.length = m' → m' + B'.length = b' → b' + Y'.length = sz → 0 < A'.length → 0 < B'.length → LeS (ltOf cf) A' → LeS (ltOf cf) B' → SWK enc k w0 blk off (X' ++ (A' ++ (B' ++ Y'))).toArray w' → MergeC P enc k w0 blk off cf g cb cap sz a' m' b' X' A' B' Y' w')
    (S : SWK enc k w0 blk off (X ++ (A ++ (B ++ Y))).toArray w) : MergeC P enc k w0 blk off cf g cb cap sz a m b X A B Y w := by
  have HC : Aside _ := hC
  have HII : Hid _ := HI
  obtain ⟨mid, hmid⟩ : ∃ mid, mid = (a + b) / 2 := ⟨_, rfl⟩
  obtain ⟨n, hn⟩ : ∃ n, n = mid + m := ⟨_, rfl⟩
  obtain ⟨pp, hpp⟩ : ∃ pp, pp = n - 1 := ⟨_, rfl⟩
  obtain ⟨lo, hi, hsel⟩ : ∃ lo hi, (mid < m ∧ lo = n - b ∧ hi = mid) ∨ (m ≤ mid ∧ lo = a ∧ hi = m) := by
    rcases Nat.lt_or_ge mid m with h | h
    · exact ⟨n - b, mid, .inl ⟨h, rfl, rfl⟩⟩
    · exact ⟨a, m, .inr ⟨h, rfl, rfl⟩⟩
  have hmo : Hid (Mono (fun t => !ltOf cf (X ++ (A ++ (B ++ Y))).toArray[n - 1 - t]! (X ++ (A ++ (B ++ Y))).toArray[t]!) lo hi) := by
    exact mono_mid hO hA hB (by omega) (by omega) (by omega) (by omega)
  have hcr : Hid (∀ s, Srch (fun t => !ltOf cf (X ++ (A ++ (B ++ Y))).toArray[n - 1 - t]! (X ++ (A ++ (B ++ Y))).toArray[t]!) lo hi s s → ∀ e ∈ A.take (s - a) ++ B.take (n - s - m), ∀ f ∈ A.drop (s - a) ++ B.drop (n - s - m), ltOf cf f e = false) := by
    intro s h
    obtain ⟨s1, s2, s3, s4, s5⟩ := h
    have := cross_le hO (X := X) (Y := Y) hA hB (s := s) (en := n - s) (by omega) (by omega) (by omega) (by omega) (fun q1 q2 => by
      have := s4 (s - 1) (by omega) (by omega)
      dsimp only at this
      rw [show n - 1 - (s - 1) = n - s by omega, Bool.not_eq_true'] at this
      exact this) (fun q1 q2 => by
      have := s5 s (by omega) (by omega)
      dsimp only at this
      rw [show n - 1 - s = n - s - 1 by omega, Bool.not_eq_false'] at this
      exact this)
    rw [ha, hm] at this
    exact this
  have hds : (X ++ (A ++ (B ++ Y))).toArray.size = d0.size := by rw [hs, ← hy]; simp; omega
  obtain ⟨dk, hdk⟩ : ∃ dk, (X ++ (A ++ (B ++ Y))).toArray = dk := ⟨_, rfl⟩
  rw [hdk] at hmo hcr hds S
  have S0 : Aside (SWK enc k w0 blk off dk w) := S
  have HL : Hid (X.length = a ∧ a + A.length = m ∧ m + B.length = b ∧ b + Y.length = sz ∧ d0.size = sz ∧ (X ++ (A ++ (B ++ Y))).toArray = dk ∧ LeS (ltOf cf) A ∧ LeS (ltOf cf) B ∧ SWO (ltOf cf)) := ⟨ha, hm, hb, hy, hs, hdk, hA, hB, hO⟩
  have HT := fun a m b X U V Y w h1 h2 h3 h4 h5 h6 h7 => kept (rotate_any L R g cb cap a m b sz X U V Y w hs hsz h1 h2 h3 h4 h5 h6 h7)
  have hbs : b ≤ sz := by omega
  have hsd : dk.size = sz := by omega
  have hlh : lo ≤ hi := by omega
  have hal : a ≤ lo := by omega
  have him : hi ≤ m := by omega
  have hnl : n ≤ b + lo := by omega
  have hnh : m + hi ≤ n := by omega
  have hn1 : n < 2 * sz := by omega
  obtain ⟨z1, hz1⟩ : ∃ z : Nat, z = m - a := ⟨_, rfl⟩
  obtain ⟨z2, hz2⟩ : ∃ z : Nat, z = b - m := ⟨_, rfl⟩
  have w1 : IntKind.i64.wrap ((m : Int) - (a : Int)) = (z1 : Int) := by rw [IntKind.wrap_i64]; omega
  have w2 : IntKind.i64.wrap ((b : Int) - (m : Int)) = (z2 : Int) := by rw [IntKind.wrap_i64]; omega
  have n1 : ¬ (z1 : Int) = 1 := by omega
  have n2 : ((z1 : Int) == 1) = false := by rw [beq_eq_false_iff_ne]; omega
  have n3 : ¬ (z2 : Int) = 1 := by omega
  have n4 : ((z2 : Int) == 1) = false := by rw [beq_eq_false_iff_ne]; omega
  have wm : ((a : Int) + (b : Int)) / 2 = (mid : Int) := by omega
  have wn : IntKind.i64.wrap ((mid : Int) + (m : Int)) = (n : Int) := by rw [IntKind.wrap_i64]; omega
  have wp : IntKind.i64.wrap ((n : Int) - 1) = (pp : Int) := by rw [IntKind.wrap_i64]; omega
  have ham : a ≤ m := by omega
  have hmb : m ≤ b := by omega
  have HG : Hid (a + 2 ≤ m ∧ m + 2 ≤ b ∧ mid = (a + b) / 2 ∧ n = mid + m ∧ pp = n - 1 ∧ ((mid < m ∧ lo = n - b ∧ hi = mid) ∨ (m ≤ mid ∧ lo = a ∧ hi = m))) := ⟨hm2, hb2, hmid, hn, hpp, hsel⟩
  clear S hC hs ha hm hb hy hA hB hO hdk hz1 hz2 hm2 hb2 HI hn hmid hpp
  unfold MergeC
  have e33 : ∀ args w, (callFunc 33 args).run P w = .ok (.enter 33 args) w := enters_of L.FT (by kernel_rfl) rfl
  have e31 : ∀ args w, (callFunc 31 args).run P w = .ok (.enter 31 args) w := enters_of L.FM (by kernel_rfl) rfl
  have mixed := L.mixed; have t0 := L.t0; have a0 := L.a0; have z0 := L.z0; have v0 := L.v0; have t3 := L.t3; have a3 := L.a3; have z3 := L.z3; have v3 := L.v3; have t4 := L.t4; have a4 := L.a4; have z4 := L.z4; have v4 := L.v4; have t5 := L.t5; have a5 := L.a5; have z5 := L.z5; have v5 := L.v5; have t22 := L.t22; have a22 := L.a22; have z22 := L.z22; have v22 := L.v22; have t25 := L.t25; have a25 := L.a25; have z25 := L.z25; have aE := L.aE; have zE := L.zE
  have u22 := run_underlying L.t22
  rcases hsel with ⟨hs1, hs2, hs3⟩ | ⟨hs1, hs2, hs3⟩
  · have ws : IntKind.i64.wrap ((n : Int) - (b : Int)) = (lo : Int) := by rw [IntKind.wrap_i64]; omega
    have hs1z : (mid : Int) < (m : Int) := by omega
    have HS3 : Hid (hi = mid) := hs3
    clear hs2 hs3
    go_enter L.FM, Try.ntmps31
    go_wp2
    clear w1 w2 wm wn wp ws n1 n2 n3 n4 hs1z
    go_loopg [20, 21] (hi - lo) (fun kx s10 s11 wr => ∃ i j : Nat, s10 = .int .i64 i ∧ s11 = .int .i64 j ∧ lo ≤ i ∧ i ≤ j ∧ j ≤ hi ∧ j - i ≤ kx ∧ Hid (Srch (fun t => !ltOf cf dk[n - 1 - t]! dk[t]!) lo hi i j) ∧ Aside (SWK enc k w0 blk off dk wr))
    case atStart =>
      have hx := HS3.out
      exact ⟨lo, hi, by first | rfl | (congr 1; omega), by first | rfl | (congr 1; omega), Nat.le_refl _, hlh, Nat.le_refl _, Nat.le_refl _, Srch.start hlh, S0⟩
    case round =>
      clear S0
      obtain ⟨i, j, rfl, rfl, hmi, hij, hjb, hkx, HS, S1⟩ := hrel
      by_cases hlt : i < j
      · have hltz : (i : Int) < (j : Int) := by omega
        obtain ⟨q, hq⟩ : ∃ q, q = (i + j) / 2 := ⟨_, rfl⟩
        obtain ⟨h1, h2, h3, h4, h5, h6⟩ := HG.out
        obtain ⟨p, hp⟩ : ∃ p, p = n - 1 - q := ⟨_, rfl⟩
        have eh : ((i : Int) + (j : Int)) / 2 = (q : Int) := by omega
        have wq : IntKind.i64.wrap ((pp : Int) - (q : Int)) = (p : Int) := by rw [IntKind.wrap_i64]; omega
        have hp1 : i ≤ q := by omega
        have hp2 : q < j := by omega
        have pq : p < dk.size ∧ q < dk.size := by omega
        have ba : (p : Int) < (sz : Int) := by omega
        have bc : (q : Int) < (sz : Int) := by omega
        clear h1 h2 h3 h4 h5 h6
        have ea : ((p : Nat) : Int).toNat = p := by omega
        have pa : (0 : Int) ≤ (p : Int) := by omega
        have ec : ((q : Nat) : Int).toNat = q := by omega
        have pc : (0 : Int) ≤ (q : Int) := by omega
        have l1 := S1.out.ld R hds P p pq.1
        have l2 := S1.out.ld R hds P q pq.2
        have hcg := S1.out.cmp HC.out (hds) dk[p]! dk[q]!
        have S2 : Aside (∀ n os, SWK enc k w0 blk off dk (grow (wr.drewN n) os)) := fun n os => S1.out.grown n os
        by_cases hlv : cf dk[p]! dk[q]! < 0
        · have HU : Hid (Srch (fun t => !ltOf cf dk[n - 1 - t]! dk[t]!) lo hi i q) := Srch.down HS.out hmo.out hp1 hp2 (by rw [← hp]; simp only [ltOf, Bool.not_eq_false', decide_eq_true_eq]; exact hlv)
          generalize dk[q]! = x at l2 hcg hlv
          generalize dk[p]! = y at l1 hcg hlv
          have hn : (!decide (cf y x < 0)) = false := by simp; omega
          clear S1 pq HS hq hp
          go_wp2_with fail
          go_quiet_grown (first | (go_at_fn g; refine Calls.grown_of (hcg _ _)))
          clear l1 l2 hcg wq
          go_wp2
          go_roundg (q - i)
          case measure => omega
          case rel => exact ⟨i, q, rfl, by go_num, by omega, by omega, by omega, Nat.le_refl _, HU, S2.out _ _⟩
        · have HU : Hid (Srch (fun t => !ltOf cf dk[n - 1 - t]! dk[t]!) lo hi (q + 1) j) := Srch.up HS.out hmo.out hp1 hp2 (by rw [← hp]; simp only [ltOf, Bool.not_eq_true', decide_eq_false_iff_not]; exact hlv)
          generalize dk[q]! = x at l2 hcg hlv
          generalize dk[p]! = y at l1 hcg hlv
          have hn : (!decide (cf y x < 0)) = true := by simp; omega
          clear S1 pq HS hq hp
          go_wp2_with fail
          go_quiet_grown (first | (go_at_fn g; refine Calls.grown_of (hcg _ _)))
          clear l1 l2 hcg wq
          go_wp2
          go_roundg (j - (q + 1))
          case measure => omega
          case rel => exact ⟨q + 1, j, by go_num, rfl, by omega, by omega, hjb, Nat.le_refl _, HU, S2.out _ _⟩
      · have hltz : ¬ (i : Int) < (j : Int) := by omega
        obtain rfl : i = j := by omega
        obtain ⟨en, hen⟩ : ∃ en, en = n - i := ⟨_, rfl⟩
        obtain ⟨g1, g2, g3, g4, g5, g6⟩ := HG.out
        have wr1 : IntKind.i64.wrap ((n : Int) - (i : Int)) = (en : Int) := by rw [IntKind.wrap_i64]; omega
        have hc := hcr.out i HS.out
        rw [← hen] at hc
        obtain ⟨h1, h2, h3, h4, h5, h6, h7, h8, h9⟩ := HL.out
        have e1 : m ≤ en := by omega
        have e2 : en ≤ b := by omega
        have e3 : mid = i + (en - m) := by omega
        have eA : A = A.take (i - a) ++ A.drop (i - a) := (List.take_append_drop _ _).symm
        have eB : B = B.take (en - m) ++ B.drop (en - m) := (List.take_append_drop _ _).symm
        have lA : (A.take (i - a)).length = i - a := by rw [List.length_take]; omega
        have lB : (B.take (en - m)).length = en - m := by rw [List.length_take]; omega
        generalize A.take (i - a) = A1 at eA lA hc
        generalize A.drop (i - a) = A2 at eA hc
        generalize B.take (en - m) = B1 at eB lB hc
        generalize B.drop (en - m) = B2 at eB hc
        subst eA
        subst eB
        rw [List.length_append] at h2 h3
        have lA2 : A2.length = m - i := by omega
        have lB2 : B2.length = b - en := by omega
        have oA := List.pairwise_append.1 h7
        have oB := List.pairwise_append.1 h8
        have S3 : Aside (SWK enc k w0 blk off ((X ++ A1) ++ (A2 ++ (B1 ++ (B2 ++ Y)))).toArray wr) := by
          show SWK _ _ _ _ _ _ _
          rw [show (X ++ A1) ++ (A2 ++ (B1 ++ (B2 ++ Y))) = X ++ ((A1 ++ A2) ++ ((B1 ++ B2) ++ Y)) by simp, h6]
          exact S1.out
        have HN : Hid (X.length = a ∧ A1.length = i - a ∧ A2.length = m - i ∧ B1.length = en - m ∧ B2.length = b - en ∧ b + Y.length = sz ∧ LeS (ltOf cf) A1 ∧ LeS (ltOf cf) A2 ∧ LeS (ltOf cf) B1 ∧ LeS (ltOf cf) B2 ∧ (∀ e ∈ A1 ++ B1, ∀ f ∈ A2 ++ B2, ltOf cf f e = false)) := ⟨h1, lA, lA2, lB, lB2, h4, oA.1, oA.2.1, oB.1, oB.2.1, hc⟩
        have HE : Hid (mid = i + (en - m) ∧ m ≤ en ∧ en ≤ b ∧ a ≤ i ∧ i ≤ m ∧ a + 2 ≤ m ∧ m + 2 ≤ b ∧ mid = (a + b) / 2) := ⟨e3, e1, e2, by omega, by omega, g1, g2, g3⟩
        have hien : i ≤ en := by omega
        have henb : en ≤ b := e2
        clear S1 HS hcr hmo hc h1 h2 h3 h4 h5 h6 h7 h8 h9 lA lB lA2 lB2 oA oB e1 e2 e3 g1 g2 g3 g4 g5 g6 hen HL hds HS3 HG hlh hal him hnl hnh hn1 hsd
        go_upto_region 39 with fail
        clear wr1
        go_cut [185] from 178 to 185 (fun t wx => ∃ bb, t = .bool bb ∧ Hid (bb = (decide (i < m) && decide (m < en))) ∧ Aside (SWK enc k w0 blk off ((X ++ A1) ++ (A2 ++ (B1 ++ (B2 ++ Y)))).toArray wx))
        case first =>
          by_cases x1 : i < m
          · have y1 : (i : Int) < (m : Int) := by omega
            by_cases x2 : m < en
            · have y2 : (m : Int) < (en : Int) := by omega
              go_wp2_with fail
              go_meet
              exact ⟨true, rfl, (show _ = _ by simp [x1, x2]), S3⟩
            · have y2 : ¬ (m : Int) < (en : Int) := by omega
              go_wp2_with fail
              go_meet
              exact ⟨false, rfl, (show _ = _ by simp [x1, x2]), S3⟩
          · have y1 : ¬ (i : Int) < (m : Int) := by omega
            go_wp2_with fail
            go_meet
            exact ⟨false, rfl, (show _ = _ by simp [x1]), S3⟩
        case rest =>
        obtain ⟨bb, rfl, HB1, S4⟩ := hcut
        clear S3
        go_upto_if 185 with fail
        go_cut [] from 186 to 191 (fun wx => Aside (SWK enc k w0 blk off (X ++ (A1 ++ (B1 ++ (A2 ++ (B2 ++ Y))))).toArray wx))
        case first =>
          cases bb with
          | false =>
            go_wp2_with fail
            go_meet
            obtain ⟨h1, lA, lA2, lB, lB2, h4, _⟩ := HN.out
            have hx := HE.out
            have hb := HB1.out.symm
            simp only [Bool.and_eq_false_iff, decide_eq_false_iff_not] at hb
            have e : A2 ++ (B1 ++ (B2 ++ Y)) = B1 ++ (A2 ++ (B2 ++ Y)) := by
              rcases hb with hb | hb
              · obtain rfl : A2 = [] := List.eq_nil_of_length_eq_zero (by omega)
                rfl
              · obtain rfl : B1 = [] := List.eq_nil_of_length_eq_zero (by omega)
                rfl
            have := S4.out
            rw [e, List.append_assoc] at this
            exact this
          | true =>
            have hb := HB1.out.symm
            simp only [Bool.and_eq_true, decide_eq_true_eq] at hb
            obtain ⟨h1, lA, lA2, lB, lB2, h4, _⟩ := HN.out
            have hx := HE.out
            have HC1 := HT i m en (X ++ A1) A2 B1 (B2 ++ Y) wc (by simp; omega) (by omega) (by omega) (by simp; omega) (by omega) (by omega) S4.out
            clear hb h1 lA lA2 lB lB2 h4 hx HT
            go_wp2_with (go_at_fn 33; refine HC1.out.mono ?_; rintro e w3 ⟨rfl, S5⟩)
            go_meet
            rw [List.append_assoc] at S5
            exact S5
        case rest =>
        have S5 : Aside (SWK enc k w0 blk off (X ++ (A1 ++ (B1 ++ (A2 ++ (B2 ++ Y))))).toArray wc) := hcut
        clear S4 HB1 HT hcut
        go_upto_region 41 with fail
        go_cut [199] from 192 to 199 (fun t wx => ∃ bb, t = .bool bb ∧ Hid (bb = (decide (a < i) && decide (i < mid))) ∧ Aside (SWK enc k w0 blk off (X ++ (A1 ++ (B1 ++ (A2 ++ (B2 ++ Y))))).toArray wx))
        case first =>
          by_cases x1 : a < i
          · have y1 : (a : Int) < (i : Int) := by omega
            by_cases x2 : i < mid
            · have y2 : (i : Int) < (mid : Int) := by omega
              go_wp2_with fail
              go_meet
              exact ⟨true, rfl, (show _ = _ by simp [x1, x2]), S5⟩
            · have y2 : ¬ (i : Int) < (mid : Int) := by omega
              go_wp2_with fail
              go_meet
              exact ⟨false, rfl, (show _ = _ by simp [x1, x2]), S5⟩
          · have y1 : ¬ (a : Int) < (i : Int) := by omega
            go_wp2_with fail
            go_meet
            exact ⟨false, rfl, (show _ = _ by simp [x1]), S5⟩
        case rest =>
        obtain ⟨bb2, rfl, HB2, S6⟩ := hcut
        clear S5
        go_upto_if 199 with fail
        go_cut [] from 200 to 205 (fun wx => ∃ M1 : List α, Hid (M1.Perm (A1 ++ B1) ∧ LeS (ltOf cf) M1) ∧ Aside (SWK enc k w0 blk off (X ++ (M1 ++ (A2 ++ (B2 ++ Y)))).toArray wx))
        case first =>
          cases bb2 with
          | false =>
            go_wp2_with fail
            go_meet
            obtain ⟨h1, lA, lA2, lB, lB2, h4, sA1, sA2, sB1, sB2, _⟩ := HN.out
            have hx := HE.out
            have hb := HB2.out.symm
            simp only [Bool.and_eq_false_iff, decide_eq_false_iff_not] at hb
            refine ⟨A1 ++ B1, ⟨List.Perm.refl _, ?_⟩, ?_⟩
            · rcases hb with hb | hb
              · obtain rfl : A1 = [] := List.eq_nil_of_length_eq_zero (by omega)
                exact sB1
              · obtain rfl : B1 = [] := List.eq_nil_of_length_eq_zero (by omega)
                rw [List.append_nil]
                exact sA1
            · have := S6.out
              rw [← List.append_assoc A1 B1] at this
              exact this
          | true =>
            have hb := HB2.out.symm
            simp only [Bool.and_eq_true, decide_eq_true_eq] at hb
            obtain ⟨h1, lA, lA2, lB, lB2, h4, sA1, sA2, sB1, sB2, _⟩ := HN.out
            have hx := HE.out
            have HC1 := kept (HII.out a i mid X A1 B1 (A2 ++ (B2 ++ Y)) wc (by omega) h1 (by omega) (by omega) (by simp; omega) (by omega) (by omega) sA1 sB1 S6.out)
            unfold MergeC at HC1
            clear hb h1 lA lA2 lB lB2 h4 hx sA1 sA2 sB1 sB2
            go_wp2_with (go_at_fn 31; refine HC1.out.mono ?_; rintro e w3 ⟨rfl, M1, p1, p2, S7⟩)
            go_meet
            exact ⟨M1, ⟨p1, p2⟩, S7⟩
        case rest =>
        obtain ⟨M1, HM1, S7⟩ := hcut
        clear S6 HB2
        go_upto_region 43 with fail
        go_cut [213] from 206 to 213 (fun t wx => ∃ bb, t = .bool bb ∧ Hid (bb = (decide (mid < en) && decide (en < b))) ∧ Aside (SWK enc k w0 blk off (X ++ (M1 ++ (A2 ++ (B2 ++ Y)))).toArray wx))
        case first =>
          by_cases x1 : mid < en
          · have y1 : (mid : Int) < (en : Int) := by omega
            by_cases x2 : en < b
            · have y2 : (en : Int) < (b : Int) := by omega
              go_wp2_with fail
              go_meet
              exact ⟨true, rfl, (show _ = _ by simp [x1, x2]), S7⟩
            · have y2 : ¬ (en : Int) < (b : Int) := by omega
              go_wp2_with fail
              go_meet
              exact ⟨false, rfl, (show _ = _ by simp [x1, x2]), S7⟩
          · have y1 : ¬ (mid : Int) < (en : Int) := by omega
            go_wp2_with fail
            go_meet
            exact ⟨false, rfl, (show _ = _ by simp [x1]), S7⟩
        case rest =>
        obtain ⟨bb3, rfl, HB3, S8⟩ := hcut
        clear S7
        have lM1 : Hid (M1.length = mid - a) := by
          show _ = _
          obtain ⟨h1, lA, lA2, lB, lB2, h4, _⟩ := HN.out
          have hx := HE.out
          rw [HM1.out.1.length_eq, List.length_append]
          omega
        cases bb3 with
        | false =>
          have HFIN : Hid (∃ M : List α, M.Perm (A1 ++ (A2 ++ (B1 ++ B2))) ∧ LeS (ltOf cf) M ∧ SWK enc k w0 blk off (X ++ (M ++ Y)).toArray wc) := by
            obtain ⟨h1, lA, lA2, lB, lB2, h4, sA1, sA2, sB1, sB2, hc⟩ := HN.out
            have hx := HE.out
            have hb := HB3.out.symm
            simp only [Bool.and_eq_false_iff, decide_eq_false_iff_not] at hb
            have h2 : LeS (ltOf cf) (A2 ++ B2) := by
              rcases hb with hb | hb
              · obtain rfl : A2 = [] := List.eq_nil_of_length_eq_zero (by omega)
                exact sB2
              · obtain rfl : B2 = [] := List.eq_nil_of_length_eq_zero (by omega)
                rw [List.append_nil]
                exact sA2
            refine ⟨M1 ++ (A2 ++ B2), ?_, le_both HM1.out.1 (List.Perm.refl _) HM1.out.2 h2 hc, ?_⟩
            · refine (HM1.out.1.append (List.Perm.refl _)).trans ?_
              rw [← List.append_assoc A1 A2]
              exact perm_four A1 B1 A2 B2
            · have := S8.out
              rw [show X ++ (M1 ++ (A2 ++ (B2 ++ Y))) = X ++ ((M1 ++ (A2 ++ B2)) ++ Y) by simp] at this
              exact this
          clear S8 HM1 HN HII
          go_wp2_with fail
          go_end0
          exact ⟨rfl, HFIN.out⟩
        | true =>
          have HC1 : Hid (MergeC P enc k w0 blk off cf g cb cap sz mid en b (X ++ M1) A2 B2 Y wc) := by
            have hb := HB3.out.symm
            simp only [Bool.and_eq_true, decide_eq_true_eq] at hb
            obtain ⟨h1, lA, lA2, lB, lB2, h4, sA1, sA2, sB1, sB2, _⟩ := HN.out
            have hx := HE.out
            have hl := lM1.out
            have := S8.out
            rw [show X ++ (M1 ++ (A2 ++ (B2 ++ Y))) = (X ++ M1) ++ (A2 ++ (B2 ++ Y)) by simp] at this
            exact HII.out mid en b (X ++ M1) A2 B2 Y wc (by omega) (by simp; omega) (by omega) (by omega) h4 (by omega) (by omega) sA2 sB2 this
          unfold MergeC at HC1
          go_wp2_with (go_at_fn 31; refine HC1.out.mono ?_; rintro e w3 ⟨rfl, M2, p1, p2, S9⟩)
          go_end0
          obtain ⟨h1, lA, lA2, lB, lB2, h4, sA1, sA2, sB1, sB2, hc⟩ := HN.out
          refine ⟨rfl, M1 ++ M2, ?_, le_both HM1.out.1 p1 HM1.out.2 p2 hc, ?_⟩
          · refine (HM1.out.1.append p1).trans ?_
            exact perm_four A1 B1 A2 B2
          · rw [show X ++ ((M1 ++ M2) ++ Y) = (X ++ M1) ++ (M2 ++ Y) by simp]
            exact S9
  · have HS3 : Hid (lo = a ∧ hi = m) := ⟨hs2, hs3⟩
    have hs1z : ¬ (mid : Int) < (m : Int) := by omega
    clear hs2 hs3
    go_enter L.FM, Try.ntmps31
    go_wp2
    clear w1 w2 wm wn wp n1 n2 n3 n4 hs1z
    go_loopg [20, 21] (hi - lo) (fun kx s10 s11 wr => ∃ i j : Nat, s10 = .int .i64 i ∧ s11 = .int .i64 j ∧ lo ≤ i ∧ i ≤ j ∧ j ≤ hi ∧ j - i ≤ kx ∧ Hid (Srch (fun t => !ltOf cf dk[n - 1 - t]! dk[t]!) lo hi i j) ∧ Aside (SWK enc k w0 blk off dk wr))
    case atStart =>
      have hx := HS3.out
      exact ⟨lo, hi, by first | rfl | (congr 1; omega), by first | rfl | (congr 1; omega), Nat.le_refl _, hlh, Nat.le_refl _, Nat.le_refl _, Srch.start hlh, S0⟩
    case round =>
      clear S0
      obtain ⟨i, j, rfl, rfl, hmi, hij, hjb, hkx, HS, S1⟩ := hrel
      by_cases hlt : i < j
      · have hltz : (i : Int) < (j : Int) := by omega
        obtain ⟨q, hq⟩ : ∃ q, q = (i + j) / 2 := ⟨_, rfl⟩
        obtain ⟨h1, h2, h3, h4, h5, h6⟩ := HG.out
        obtain ⟨p, hp⟩ : ∃ p, p = n - 1 - q := ⟨_, rfl⟩
        have eh : ((i : Int) + (j : Int)) / 2 = (q : Int) := by omega
        have wq : IntKind.i64.wrap ((pp : Int) - (q : Int)) = (p : Int) := by rw [IntKind.wrap_i64]; omega
        have hp1 : i ≤ q := by omega
        have hp2 : q < j := by omega
        have pq : p < dk.size ∧ q < dk.size := by omega
        have ba : (p : Int) < (sz : Int) := by omega
        have bc : (q : Int) < (sz : Int) := by omega
        clear h1 h2 h3 h4 h5 h6
        have ea : ((p : Nat) : Int).toNat = p := by omega
        have pa : (0 : Int) ≤ (p : Int) := by omega
        have ec : ((q : Nat) : Int).toNat = q := by omega
        have pc : (0 : Int) ≤ (q : Int) := by omega
        have l1 := S1.out.ld R hds P p pq.1
        have l2 := S1.out.ld R hds P q pq.2
        have hcg := S1.out.cmp HC.out (hds) dk[p]! dk[q]!
        have S2 : Aside (∀ n os, SWK enc k w0 blk off dk (grow (wr.drewN n) os)) := fun n os => S1.out.grown n os
        by_cases hlv : cf dk[p]! dk[q]! < 0
        · have HU : Hid (Srch (fun t => !ltOf cf dk[n - 1 - t]! dk[t]!) lo hi i q) := Srch.down HS.out hmo.out hp1 hp2 (by rw [← hp]; simp only [ltOf, Bool.not_eq_false', decide_eq_true_eq]; exact hlv)
          generalize dk[q]! = x at l2 hcg hlv
          generalize dk[p]! = y at l1 hcg hlv
          have hn : (!decide (cf y x < 0)) = false := by simp; omega
          clear S1 pq HS hq hp
          go_wp2_with fail
          go_quiet_grown (first | (go_at_fn g; refine Calls.grown_of (hcg _ _)))
          clear l1 l2 hcg wq
          go_wp2
          go_roundg (q - i)
          case measure => omega
          case rel => exact ⟨i, q, rfl, by go_num, by omega, by omega, by omega, Nat.le_refl _, HU, S2.out _ _⟩
        · have HU : Hid (Srch (fun t => !ltOf cf dk[n - 1 - t]! dk[t]!) lo hi (q + 1) j) := Srch.up HS.out hmo.out hp1 hp2 (by rw [← hp]; simp only [ltOf, Bool.not_eq_true', decide_eq_false_iff_not]; exact hlv)
          generalize dk[q]! = x at l2 hcg hlv
          generalize dk[p]! = y at l1 hcg hlv
          have hn : (!decide (cf y x < 0)) = true := by simp; omega
          clear S1 pq HS hq hp
          go_wp2_with fail
          go_quiet_grown (first | (go_at_fn g; refine Calls.grown_of (hcg _ _)))
          clear l1 l2 hcg wq
          go_wp2
          go_roundg (j - (q + 1))
          case measure => omega
          case rel => exact ⟨q + 1, j, by go_num, rfl, by omega, by omega, hjb, Nat.le_refl _, HU, S2.out _ _⟩
      · have hltz : ¬ (i : Int) < (j : Int) := by omega
        obtain rfl : i = j := by omega
        obtain ⟨en, hen⟩ : ∃ en, en = n - i := ⟨_, rfl⟩
        obtain ⟨g1, g2, g3, g4, g5, g6⟩ := HG.out
        have wr1 : IntKind.i64.wrap ((n : Int) - (i : Int)) = (en : Int) := by rw [IntKind.wrap_i64]; omega
        have hc := hcr.out i HS.out
        rw [← hen] at hc
        obtain ⟨h1, h2, h3, h4, h5, h6, h7, h8, h9⟩ := HL.out
        have e1 : m ≤ en := by omega
        have e2 : en ≤ b := by omega
        have e3 : mid = i + (en - m) := by omega
        have eA : A = A.take (i - a) ++ A.drop (i - a) := (List.take_append_drop _ _).symm
        have eB : B = B.take (en - m) ++ B.drop (en - m) := (List.take_append_drop _ _).symm
        have lA : (A.take (i - a)).length = i - a := by rw [List.length_take]; omega
        have lB : (B.take (en - m)).length = en - m := by rw [List.length_take]; omega
        generalize A.take (i - a) = A1 at eA lA hc
        generalize A.drop (i - a) = A2 at eA hc
        generalize B.take (en - m) = B1 at eB lB hc
        generalize B.drop (en - m) = B2 at eB hc
        subst eA
        subst eB
        rw [List.length_append] at h2 h3
        have lA2 : A2.length = m - i := by omega
        have lB2 : B2.length = b - en := by omega
        have oA := List.pairwise_append.1 h7
        have oB := List.pairwise_append.1 h8
        have S3 : Aside (SWK enc k w0 blk off ((X ++ A1) ++ (A2 ++ (B1 ++ (B2 ++ Y)))).toArray wr) := by
          show SWK _ _ _ _ _ _ _
          rw [show (X ++ A1) ++ (A2 ++ (B1 ++ (B2 ++ Y))) = X ++ ((A1 ++ A2) ++ ((B1 ++ B2) ++ Y)) by simp, h6]
          exact S1.out
        have HN : Hid (X.length = a ∧ A1.length = i - a ∧ A2.length = m - i ∧ B1.length = en - m ∧ B2.length = b - en ∧ b + Y.length = sz ∧ LeS (ltOf cf) A1 ∧ LeS (ltOf cf) A2 ∧ LeS (ltOf cf) B1 ∧ LeS (ltOf cf) B2 ∧ (∀ e ∈ A1 ++ B1, ∀ f ∈ A2 ++ B2, ltOf cf f e = false)) := ⟨h1, lA, lA2, lB, lB2, h4, oA.1, oA.2.1, oB.1, oB.2.1, hc⟩
        have HE : Hid (mid = i + (en - m) ∧ m ≤ en ∧ en ≤ b ∧ a ≤ i ∧ i ≤ m ∧ a + 2 ≤ m ∧ m + 2 ≤ b ∧ mid = (a + b) / 2) := ⟨e3, e1, e2, by omega, by omega, g1, g2, g3⟩
        have hien : i ≤ en := by omega
        have henb : en ≤ b := e2
        clear S1 HS hcr hmo hc h1 h2 h3 h4 h5 h6 h7 h8 h9 lA lB lA2 lB2 oA oB e1 e2 e3 g1 g2 g3 g4 g5 g6 hen HL hds HS3 HG hlh hal him hnl hnh hn1 hsd
        go_upto_region 39 with fail
        clear wr1
        go_cut [185] from 178 to 185 (fun t wx => ∃ bb, t = .bool bb ∧ Hid (bb = (decide (i < m) && decide (m < en))) ∧ Aside (SWK enc k w0 blk off ((X ++ A1) ++ (A2 ++ (B1 ++ (B2 ++ Y)))).toArray wx))
        case first =>
          by_cases x1 : i < m
          · have y1 : (i : Int) < (m : Int) := by omega
            by_cases x2 : m < en
            · have y2 : (m : Int) < (en : Int) := by omega
              go_wp2_with fail
              go_meet
              exact ⟨true, rfl, (show _ = _ by simp [x1, x2]), S3⟩
            · have y2 : ¬ (m : Int) < (en : Int) := by omega
              go_wp2_with fail
              go_meet
              exact ⟨false, rfl, (show _ = _ by simp [x1, x2]), S3⟩
          · have y1 : ¬ (i : Int) < (m : Int) := by omega
            go_wp2_with fail
            go_meet
            exact ⟨false, rfl, (show _ = _ by simp [x1]), S3⟩
        case rest =>
        obtain ⟨bb, rfl, HB1, S4⟩ := hcut
        clear S3
        go_upto_if 185 with fail
        go_cut [] from 186 to 191 (fun wx => Aside (SWK enc k w0 blk off (X ++ (A1 ++ (B1 ++ (A2 ++ (B2 ++ Y))))).toArray wx))
        case first =>
          cases bb with
          | false =>
            go_wp2_with fail
            go_meet
            obtain ⟨h1, lA, lA2, lB, lB2, h4, _⟩ := HN.out
            have hx := HE.out
            have hb := HB1.out.symm
            simp only [Bool.and_eq_false_iff, decide_eq_false_iff_not] at hb
            have e : A2 ++ (B1 ++ (B2 ++ Y)) = B1 ++ (A2 ++ (B2 ++ Y)) := by
              rcases hb with hb | hb
              · obtain rfl : A2 = [] := List.eq_nil_of_length_eq_zero (by omega)
                rfl
              · obtain rfl : B1 = [] := List.eq_nil_of_length_eq_zero (by omega)
                rfl
            have := S4.out
            rw [e, List.append_assoc] at this
            exact this
          | true =>
            have hb := HB1.out.symm
            simp only [Bool.and_eq_true, decide_eq_true_eq] at hb
            obtain ⟨h1, lA, lA2, lB, lB2, h4, _⟩ := HN.out
            have hx := HE.out
            have HC1 := HT i m en (X ++ A1) A2 B1 (B2 ++ Y) wc (by simp; omega) (by omega) (by omega) (by simp; omega) (by omega) (by omega) S4.out
            clear hb h1 lA lA2 lB lB2 h4 hx HT
            go_wp2_with (go_at_fn 33; refine HC1.out.mono ?_; rintro e w3 ⟨rfl, S5⟩)
            go_meet
            rw [List.append_assoc] at S5
            exact S5
        case rest =>
        have S5 : Aside (SWK enc k w0 blk off (X ++ (A1 ++ (B1 ++ (A2 ++ (B2 ++ Y))))).toArray wc) := hcut
        clear S4 HB1 HT hcut
        go_upto_region 41 with fail
        go_cut [199] from 192 to 199 (fun t wx => ∃ bb, t = .bool bb ∧ Hid (bb = (decide (a < i) && decide (i < mid))) ∧ Aside (SWK enc k w0 blk off (X ++ (A1 ++ (B1 ++ (A2 ++ (B2 ++ Y))))).toArray wx))
        case first =>
          by_cases x1 : a < i
          · have y1 : (a : Int) < (i : Int) := by omega
            by_cases x2 : i < mid
            · have y2 : (i : Int) < (mid : Int) := by omega
              go_wp2_with fail
              go_meet
              exact ⟨true, rfl, (show _ = _ by simp [x1, x2]), S5⟩
            · have y2 : ¬ (i : Int) < (mid : Int) := by omega
              go_wp2_with fail
              go_meet
              exact ⟨false, rfl, (show _ = _ by simp [x1, x2]), S5⟩
          · have y1 : ¬ (a : Int) < (i : Int) := by omega
            go_wp2_with fail
            go_meet
            exact ⟨false, rfl, (show _ = _ by simp [x1]), S5⟩
        case rest =>
        obtain ⟨bb2, rfl, HB2, S6⟩ := hcut
        clear S5
        go_upto_if 199 with fail
        go_cut [] from 200 to 205 (fun wx => ∃ M1 : List α, Hid (M1.Perm (A1 ++ B1) ∧ LeS (ltOf cf) M1) ∧ Aside (SWK enc k w0 blk off (X ++ (M1 ++ (A2 ++ (B2 ++ Y)))).toArray wx))
        case first =>
          cases bb2 with
          | false =>
            go_wp2_with fail
            go_meet
            obtain ⟨h1, lA, lA2, lB, lB2, h4, sA1, sA2, sB1, sB2, _⟩ := HN.out
            have hx := HE.out
            have hb := HB2.out.symm
            simp only [Bool.and_eq_false_iff, decide_eq_false_iff_not] at hb
            refine ⟨A1 ++ B1, ⟨List.Perm.refl _, ?_⟩, ?_⟩
            · rcases hb with hb | hb
              · obtain rfl : A1 = [] := List.eq_nil_of_length_eq_zero (by omega)
                exact sB1
              · obtain rfl : B1 = [] := List.eq_nil_of_length_eq_zero (by omega)
                rw [List.append_nil]
                exact sA1
            · have := S6.out
              rw [← List.append_assoc A1 B1] at this
              exact this
          | true =>
            have hb := HB2.out.symm
            simp only [Bool.and_eq_true, decide_eq_true_eq] at hb
            obtain ⟨h1, lA, lA2, lB, lB2, h4, sA1, sA2, sB1, sB2, _⟩ := HN.out
            have hx := HE.out
            have HC1 := kept (HII.out a i mid X A1 B1 (A2 ++ (B2 ++ Y)) wc (by omega) h1 (by omega) (by omega) (by simp; omega) (by omega) (by omega) sA1 sB1 S6.out)
            unfold MergeC at HC1
            clear hb h1 lA lA2 lB lB2 h4 hx sA1 sA2 sB1 sB2
            go_wp2_with (go_at_fn 31; refine HC1.out.mono ?_; rintro e w3 ⟨rfl, M1, p1, p2, S7⟩)
            go_meet
            exact ⟨M1, ⟨p1, p2⟩, S7⟩
        case rest =>
        obtain ⟨M1, HM1, S7⟩ := hcut
        clear S6 HB2
        go_upto_region 43 with fail
        go_cut [213] from 206 to 213 (fun t wx => ∃ bb, t = .bool bb ∧ Hid (bb = (decide (mid < en) && decide (en < b))) ∧ Aside (SWK enc k w0 blk off (X ++ (M1 ++ (A2 ++ (B2 ++ Y)))).toArray wx))
        case first =>
          by_cases x1 : mid < en
          · have y1 : (mid : Int) < (en : Int) := by omega
            by_cases x2 : en < b
            · have y2 : (en : Int) < (b : Int) := by omega
              go_wp2_with fail
              go_meet
              exact ⟨true, rfl, (show _ = _ by simp [x1, x2]), S7⟩
            · have y2 : ¬ (en : Int) < (b : Int) := by omega
              go_wp2_with fail
              go_meet
              exact ⟨false, rfl, (show _ = _ by simp [x1, x2]), S7⟩
          · have y1 : ¬ (mid : Int) < (en : Int) := by omega
            go_wp2_with fail
            go_meet
            exact ⟨false, rfl, (show _ = _ by simp [x1]), S7⟩
        case rest =>
        obtain ⟨bb3, rfl, HB3, S8⟩ := hcut
        clear S7
        have lM1 : Hid (M1.length = mid - a) := by
          show _ = _
          obtain ⟨h1, lA, lA2, lB, lB2, h4, _⟩ := HN.out
          have hx := HE.out
          rw [HM1.out.1.length_eq, List.length_append]
          omega
        cases bb3 with
        | false =>
          have HFIN : Hid (∃ M : List α, M.Perm (A1 ++ (A2 ++ (B1 ++ B2))) ∧ LeS (ltOf cf) M ∧ SWK enc k w0 blk off (X ++ (M ++ Y)).toArray wc) := by
            obtain ⟨h1, lA, lA2, lB, lB2, h4, sA1, sA2, sB1, sB2, hc⟩ := HN.out
            have hx := HE.out
            have hb := HB3.out.symm
            simp only [Bool.and_eq_false_iff, decide_eq_false_iff_not] at hb
            have h2 : LeS (ltOf cf) (A2 ++ B2) := by
              rcases hb with hb | hb
              · obtain rfl : A2 = [] := List.eq_nil_of_length_eq_zero (by omega)
                exact sB2
              · obtain rfl : B2 = [] := List.eq_nil_of_length_eq_zero (by omega)
                rw [List.append_nil]
                exact sA2
            refine ⟨M1 ++ (A2 ++ B2), ?_, le_both HM1.out.1 (List.Perm.refl _) HM1.out.2 h2 hc, ?_⟩
            · refine (HM1.out.1.append (List.Perm.refl _)).trans ?_
              rw [← List.append_assoc A1 A2]
              exact perm_four A1 B1 A2 B2
            · have := S8.out
              rw [show X ++ (M1 ++ (A2 ++ (B2 ++ Y))) = X ++ ((M1 ++ (A2 ++ B2)) ++ Y) by simp] at this
              exact this
          clear S8 HM1 HN HII
          go_wp2_with fail
          go_end0
          exact ⟨rfl, HFIN.out⟩
        | true =>
          have HC1 : Hid (MergeC P enc k w0 blk off cf g cb cap sz mid en b (X ++ M1) A2 B2 Y wc) := by
            have hb := HB3.out.symm
            simp only [Bool.and_eq_true, decide_eq_true_eq] at hb
            obtain ⟨h1, lA, lA2, lB, lB2, h4, sA1, sA2, sB1, sB2, _⟩ := HN.out
            have hx := HE.out
            have hl := lM1.out
            have := S8.out
            rw [show X ++ (M1 ++ (A2 ++ (B2 ++ Y))) = (X ++ M1) ++ (A2 ++ (B2 ++ Y)) by simp] at this
            exact HII.out mid en b (X ++ M1) A2 B2 Y wc (by omega) (by simp; omega) (by omega) (by omega) h4 (by omega) (by omega) sA2 sB2 this
          unfold MergeC at HC1
          go_wp2_with (go_at_fn 31; refine HC1.out.mono ?_; rintro e w3 ⟨rfl, M2, p1, p2, S9⟩)
          go_end0
          obtain ⟨h1, lA, lA2, lB, lB2, h4, sA1, sA2, sB1, sB2, hc⟩ := HN.out
          refine ⟨rfl, M1 ++ M2, ?_, le_both HM1.out.1 p1 HM1.out.2 p2 hc, ?_⟩
          · refine (HM1.out.1.append p1).trans ?_
            exact perm_four A1 B1 A2 B2
          · rw [show X ++ ((M1 ++ M2) ++ Y) = (X ++ M1) ++ (M2 ++ Y) by simp]
            exact S9
end
end Go.Proofs.Ytepmamfbhocjjaa
end

section
/-
  slices.stableCmpFunc and slices.SortStableFunc at records: a row of the caller's own comes in order.
-/
namespace Go.Proofs.Ytepmamfbhocjjaa
open Go.Shelf Go.RowKit Go.Lib Go.Sort
set_option linter.unusedVariables false
set_option linter.unusedSimpArgs false
set_option linter.unusedSectionVars false
section
variable {α : Type} [Inhabited α] {enc : α → List Value} {w0 : World} {blk off k : Nat} {d0 : Array α} {P : Program} {cf : α → α → Int}
theorem merge_any (L : StP P k) (R : RowK enc k w0 blk off d0) (g : Nat) (cb : Array Value) (eg : ∀ args w, (callFunc g args).run P w = .ok (.enter g args) w) (hC : CmpLays P g cb enc k cf blk off d0.size w0) (hO : SWO (ltOf cf)) (cap sz : Nat) (hs : d0.size = sz) (hsz : sz < 4611686018427387904) :
    ∀ (f a m b : Nat) (X A B Y : List α) (w : World), b - a ≤ f → X.length = a → a + A.length = m → m + B.length = b → b + Y.length = sz → 0 < A.length → 0 < B.length → LeS (ltOf cf) A → LeS (ltOf cf) B → SWK enc k w0 blk off (X ++ (A ++ (B ++ Y))).toArray w → MergeC P enc k w0 blk off cf g cb cap sz a m b X A B Y w := by
  intro f
  induction f with
  | zero => intro a m b X A B Y w h h1 h2 h3 h4 h5 h6; omega
  | succ f ih =>
    intro a m b X A B Y w h h1 h2 h3 h4 h5 h6 hA hB S
    by_cases hA1 : A.length = 1
    · obtain ⟨c, rfl⟩ := List.length_eq_one_iff.1 hA1
      have hm : a + 1 = m := by simpa using h2
      exact (merge_front L R g cb eg hC hO cap a m b sz X B Y c w hs hsz h1 hm h3 h4 hB S)
    · by_cases hB1 : B.length = 1
      · obtain ⟨c, rfl⟩ := List.length_eq_one_iff.1 hB1
        have hm : m + 1 = b := by simpa using h3
        exact (merge_back L R g cb eg hC hO cap a m b sz X A Y c w hs hsz h1 h2 (by omega) hm h4 hA S)
      · refine merge_mid L R g cb eg hC hO cap a m b sz X A B Y w hs hsz h1 h2 (by omega) h3 (by omega) h4 hA hB ?_ S
        intro a' m' b' X' A' B' Y' w' hlt
        exact ih a' m' b' X' A' B' Y' w' (by omega)
/-- What insertion at a part of the row answers. -/
def InsC (P : Program) (enc : α → List Value) (k : Nat) (w0 : World) (blk off : Nat) (cf : α → α → Int) (g : Nat) (cb : Array Value) (cap sz : Nat) : Prop :=
  ∀ (a b : Nat) (X A Y : List α) (w : World), X.length = a → a + A.length = b → b + Y.length = sz → SWK enc k w0 blk off (X ++ (A ++ Y)).toArray w →
    Calls P 30 #[.slice (some ⟨blk, off, none⟩) sz cap, .int .i64 a, .int .i64 b, .func (.func g) #[] cb] w fun e w' => e = .returned (.tuple #[]) ∧ ∃ A' : List α, A'.Perm A ∧ LeS (ltOf cf) A' ∧ SWK enc k w0 blk off (X ++ (A' ++ Y)).toArray w'
set_option maxHeartbeats 4000000 in
set_option maxRecDepth 1000000 in
theorem stable_any (L : StP P k) (eI : ∀ args w, (callFunc 30 args).run P w = .ok (.enter 30 args) w) (R : RowK enc k w0 blk off d0) (g : Nat) (cb : Array Value) (eg : ∀ args w, (callFunc g args).run P w = .ok (.enter g args) w) (hC : CmpLays P g cb enc k cf blk off d0.size w0) (hO : SWO (ltOf cf)) (cap sz : Nat) (hs : d0.size = sz) (hsz : sz ≤ 1000000) (hI : InsC P enc k w0 blk off cf g cb cap sz) (l0 : List α) (hl : l0.length = sz) (w : World) (S : SWK enc k w0 blk off l0.toArray w) :
    Calls P 26 #[.slice (some ⟨blk, off, none⟩) sz cap, .int .i64 sz, .func (.func g) #[] cb] w fun e w' => e = .returned (.tuple #[]) ∧ ∃ l : List α, l.Perm l0 ∧ LeS (ltOf cf) l ∧ SWK enc k w0 blk off l.toArray w' := by
  have e31 : ∀ args w, (callFunc 31 args).run P w = .ok (.enter 31 args) w := enters_of L.FM (by kernel_rfl) rfl
  have HI := fun a b X A Y w h1 h2 h3 h4 => kept (hI a b X A Y w h1 h2 h3 h4)
  have HM := fun a m b X A B Y w h1 h2 h3 h4 h5 h6 h7 h8 h9 => kept (merge_any L R g cb eg hC hO cap sz hs (by omega) (b - a) a m b X A B Y w (Nat.le_refl _) h1 h2 h3 h4 h5 h6 h7 h8 h9)
  have HO : Hid (SWO (ltOf cf)) := hO
  have S0 : Aside (SWK enc k w0 blk off l0.toArray w) := S
  have HL : Hid (l0.length = sz) := hl
  clear S hI hC hO hl hs
  have mixed := L.mixed; have t0 := L.t0; have a0 := L.a0; have z0 := L.z0; have v0 := L.v0; have t3 := L.t3; have a3 := L.a3; have z3 := L.z3; have v3 := L.v3; have t4 := L.t4; have a4 := L.a4; have z4 := L.z4; have v4 := L.v4; have t5 := L.t5; have a5 := L.a5; have z5 := L.z5; have v5 := L.v5; have t22 := L.t22; have a22 := L.a22; have z22 := L.z22; have v22 := L.v22; have t25 := L.t25; have a25 := L.a25; have z25 := L.z25; have aE := L.aE; have zE := L.zE
  have u22 := run_underlying L.t22
  go_enter L.FS, Try.ntmps26
  go_wp2
  go_loopg [7, 8] sz (fun kx s7 s8 wr => ∃ (a b : Nat) (l : List α), s7 = .int .i64 a ∧ s8 = .int .i64 b ∧ Hid (b = a + 20) ∧ a ≤ sz ∧ sz - a ≤ kx ∧ Hid (l.length = sz ∧ l.Perm l0 ∧ ∃ q, a = q * 20 ∧ BlkTo (ltOf cf) 20 q l) ∧ Aside (SWK enc k w0 blk off l.toArray wr))
  case atStart => exact ⟨0, 20, l0, rfl, rfl, rfl, Nat.zero_le _, Nat.le_refl _, ⟨HL.out, List.Perm.refl _, 0, rfl, fun j hj => absurd hj (Nat.not_lt_zero _)⟩, S0⟩
  case round =>
    clear S0
    obtain ⟨a, b, l, rfl, rfl, HB, hasz, hkx, HR, S1⟩ := hrel
    have hb := HB.out
    by_cases hlt : b ≤ sz
    · have hltz : (b : Int) ≤ (sz : Int) := by omega
      obtain ⟨hl, hp, q, hq, hbl⟩ := HR.out
      obtain ⟨X, A, Y, rfl, x1, x2, x3⟩ := cut2L l a b (by omega) (by omega)
      have HC1 := HI a b X A Y wr x1 x2 (by omega) S1.out
      have HQ : Hid _ := And.intro hl (And.intro hp (And.intro hq (And.intro hbl (And.intro x1 (And.intro x2 x3)))))
      have wb : IntKind.i64.wrap ((b : Int) + 20) = ((b + 20 : Nat) : Int) := by rw [IntKind.wrap_i64]; omega
      obtain ⟨c, hc⟩ : ∃ c, c = b + 20 := ⟨_, rfl⟩
      rw [← hc] at wb
      have HCC : Hid (c = b + 20) := hc
      have hbs : b ≤ sz := hlt
      have hba : sz - b + 20 ≤ sz - a := by omega
      clear S1 HR hl hp hq hbl x1 x2 x3 HI HM hb hc
      go_wp2_with (go_at_fn 30; refine HC1.out.mono ?_; rintro e w3 ⟨rfl, A', p1, p2, S2⟩)
      go_roundg (sz - b)
      case measure => omega
      case rel =>
        obtain ⟨hl, hp, hq, hbl, x1, x2, x3⟩ := HQ.out
        have hb := HB.out
        refine ⟨b, c, X ++ (A' ++ Y), rfl, by go_num, HCC.out, hlt, Nat.le_refl _, ⟨?_, ?_, q + 1, by omega, ?_⟩, S2⟩
        · simp only [List.length_append, p1.length_eq] at hl ⊢; exact hl
        · exact (List.Perm.append_left X (List.Perm.append_right Y p1)).trans hp
        · exact hbl.next (by omega) p2 (.inl (by rw [p1.length_eq]; omega))
    · have hltz : ¬ (b : Int) ≤ (sz : Int) := by omega
      obtain ⟨hl, hp, q, hq, hbl⟩ := HR.out
      obtain ⟨X, A, Y, rfl, x1, x2, x3⟩ := cut2L l a sz hasz (by omega)
      have HC1 := HI a sz X A Y wr x1 x2 (by omega) S1.out
      have HQ : Hid _ := And.intro hl (And.intro hp (And.intro hq (And.intro hbl (And.intro x1 (And.intro x2 x3)))))
      have hbz : sz < b := by omega
      clear S1 HR hl hp hq hbl x1 x2 x3 HI hb
      go_wp2_with (go_at_fn 30; refine HC1.out.mono ?_; rintro e w3 ⟨rfl, A', p1, p2, S2⟩)
      have HST : Hid (∃ l : List α, l.length = sz ∧ l.Perm l0 ∧ BlkFrom (ltOf cf) 20 0 l ∧ SWK enc k w0 blk off l.toArray w3) := by
        obtain ⟨hl, hp, hq, hbl, x1, x2, x3⟩ := HQ.out
        have hab := HB.out
        have hY : Y = [] := List.eq_nil_of_length_eq_zero (by omega)
        have hl2 : (X ++ (A' ++ Y)).length = sz := by simp only [List.length_append, p1.length_eq] at hl ⊢; exact hl
        exact ⟨X ++ (A' ++ Y), hl2, (List.Perm.append_left X (List.Perm.append_right Y p1)).trans hp, (hbl.next (by omega) p2 (.inr ⟨by rw [p1.length_eq]; omega, hY⟩)).all (by rw [hl2]; omega), S2⟩
      clear S2 HQ HC1 p1 p2
      go_loopg [6] (2 * sz + 1) (fun kx s6 wr => ∃ (bs : Nat) (l : List α), s6 = .int .i64 bs ∧ 20 ≤ bs ∧ bs ≤ 2 * sz + 20 ∧ 2 * sz + 21 - bs ≤ kx ∧ Hid (l.length = sz ∧ l.Perm l0 ∧ BlkFrom (ltOf cf) bs 0 l) ∧ Aside (SWK enc k w0 blk off l.toArray wr))
      case atStart =>
        obtain ⟨l, h1, h2, h3, h4⟩ := HST.out
        exact ⟨20, l, rfl, by omega, by omega, by omega, ⟨h1, h2, h3⟩, h4⟩
      case round =>
        clear HST
        obtain ⟨bs, l, rfl, hb20, hbz, hkx2, HR2, S1⟩ := hrel
        by_cases hlt2 : bs < sz
        · have hltz2 : (bs : Int) < (sz : Int) := by omega
          have w2 : IntKind.i64.wrap (2 * (bs : Int)) = ((2 * bs : Nat) : Int) := by rw [IntKind.wrap_i64]; omega
          have w3 : IntKind.i64.wrap ((bs : Int) * 2) = ((2 * bs : Nat) : Int) := by rw [IntKind.wrap_i64]; omega
          obtain ⟨bb, hbb⟩ : ∃ bb, bb = 2 * bs := ⟨_, rfl⟩
          rw [← hbb] at w2 w3
          have HBB : Hid (bb = 2 * bs) := hbb
          clear hbb
          go_wp2
          clear w2
          go_loopg [7, 8] sz (fun kx s7 s8 wr => ∃ (a b q : Nat) (l : List α), s7 = .int .i64 a ∧ s8 = .int .i64 b ∧ Hid (b = a + 2 * bs ∧ a = q * (2 * bs)) ∧ a ≤ sz ∧ sz - a ≤ kx ∧ Hid (l.length = sz ∧ l.Perm l0 ∧ BlkTo (ltOf cf) (2 * bs) q l ∧ BlkFrom (ltOf cf) bs (2 * q) l) ∧ Aside (SWK enc k w0 blk off l.toArray wr))
          case atStart =>
            obtain ⟨h1, h2, h3⟩ := HR2.out
            exact ⟨0, bb, 0, l, rfl, rfl, ⟨by rw [HBB.out]; omega, by omega⟩, Nat.zero_le _, Nat.le_refl _, ⟨h1, h2, fun j hj => absurd hj (Nat.not_lt_zero _), h3⟩, S1⟩
          case round =>
            clear S1 HR2
            obtain ⟨a, b, q, l, rfl, rfl, HB, hasz, hkx3, HR3, S1⟩ := hrel
            by_cases hlt3 : b ≤ sz
            · have hltz3 : (b : Int) ≤ (sz : Int) := by omega
              obtain ⟨hb, ha⟩ := HB.out
              obtain ⟨m, hm⟩ : ∃ m, m = a + bs := ⟨_, rfl⟩
              obtain ⟨c, hc⟩ : ∃ c, c = b + bb := ⟨_, rfl⟩
              have hbb := HBB.out
              have wm : IntKind.i64.wrap ((a : Int) + (bs : Int)) = (m : Int) := by rw [IntKind.wrap_i64]; omega
              have w2 : IntKind.i64.wrap (2 * (bs : Int)) = (bb : Int) := by rw [IntKind.wrap_i64]; omega
              have wc' : IntKind.i64.wrap ((b : Int) + (bb : Int)) = (c : Int) := by rw [IntKind.wrap_i64]; omega
              obtain ⟨hl, hp, hbt, hbf⟩ := HR3.out
              obtain ⟨X, A, B, Y, rfl, x1, x2, x3, x4⟩ := cut3L l a m b (by omega) (by omega) (by omega)
              have xa : X.length = (2 * q) * bs := by rw [x1, ha, Nat.mul_comm 2 q, Nat.mul_assoc]
              have lA : A.length = bs := by omega
              have lB : B.length = bs := by omega
              have sA : LeS (ltOf cf) A := by
                have := hbf (2 * q) (Nat.le_refl _)
                rwa [blk_at xa (.inl lA)] at this
              have sB : LeS (ltOf cf) B := by
                have := hbf (2 * q + 1) (by omega)
                rw [← List.append_assoc] at this
                rwa [blk_at (by rw [List.length_append, xa, lA, Nat.add_mul, Nat.one_mul]) (.inl lB)] at this
              have HC2 := HM a m b X A B Y wr x1 x2 x3 (by omega) (by omega) (by omega) sA sB S1.out
              have HQ : Hid _ := And.intro hl (And.intro hp (And.intro hbt (And.intro hbf (And.intro x1 (And.intro x2 (And.intro x3 (And.intro x4 (And.intro xa (And.intro lA lB)))))))))
              have HCC : Hid (c = b + 2 * bs ∧ b = (q + 1) * (2 * bs) ∧ m = a + bs ∧ b = a + 2 * bs) := ⟨by omega, by rw [Nat.add_mul, Nat.one_mul]; omega, hm, hb⟩
              have hbs3 : b ≤ sz := hlt3
              have hmz : sz - b + 1 ≤ sz - a := by omega
              unfold MergeC at HC2
              clear S1 HR3 hl hp hbt hbf x1 x2 x3 x4 xa lA lB sA sB HM hb ha hm hc hbb HB
              go_wp2_with (go_at_fn 31; refine HC2.out.mono ?_; rintro e w3 ⟨rfl, M, p1, p2, S2⟩)
              go_roundg (sz - b)
              case measure => omega
              case rel =>
                obtain ⟨hl, hp, hbt, hbf, x1, x2, x3, x4, xa, lA, lB⟩ := HQ.out
                obtain ⟨c1, c2, c3, c4⟩ := HCC.out
                have hML : M.length = 2 * bs := by rw [p1.length_eq, List.length_append]; omega
                have e1 : X ++ (A ++ (B ++ Y)) = X ++ ((A ++ B) ++ Y) := by simp
                rw [e1] at hl hp hbt hbf
                refine ⟨b, c, q + 1, X ++ (M ++ Y), rfl, by go_num, ⟨c1, c2⟩, hbs3, Nat.le_refl _, ⟨?_, ?_, ?_, ?_⟩, S2⟩
                · simp only [List.length_append, p1.length_eq] at hl ⊢; exact hl
                · exact (List.Perm.append_left X (List.Perm.append_right Y p1)).trans hp
                · refine hbt.next ?_ p2 (.inl hML)
                  rw [xa, Nat.mul_comm 2 q, Nat.mul_assoc]
                · refine hbf.next p1.length_eq ?_ (by omega)
                  rw [xa, List.length_append, lA, lB]
                  rw [show 2 * (q + 1) = 2 * q + 2 by omega, Nat.add_mul]
                  omega
            · have hltz3 : ¬ (b : Int) ≤ (sz : Int) := by omega
              obtain ⟨hb, ha⟩ := HB.out
              obtain ⟨m, hm⟩ : ∃ m, m = a + bs := ⟨_, rfl⟩
              have wm : IntKind.i64.wrap ((a : Int) + (bs : Int)) = (m : Int) := by rw [IntKind.wrap_i64]; omega
              have hbb := HBB.out
              by_cases hms : m < sz
              · have hmsz : (m : Int) < (sz : Int) := by omega
                obtain ⟨hl, hp, hbt, hbf⟩ := HR3.out
                obtain ⟨X, A, B, Y, rfl, x1, x2, x3, x4⟩ := cut3L l a m sz (by omega) (by omega) (by omega)
                have xa : X.length = (2 * q) * bs := by rw [x1, ha, Nat.mul_comm 2 q, Nat.mul_assoc]
                have lA : A.length = bs := by omega
                have hY : Y = [] := List.eq_nil_of_length_eq_zero (by omega)
                subst hY
                have lB : B.length ≤ bs := by omega
                have sA : LeS (ltOf cf) A := by
                  have := hbf (2 * q) (Nat.le_refl _)
                  rwa [blk_at xa (.inl lA)] at this
                have sB : LeS (ltOf cf) B := by
                  have := hbf (2 * q + 1) (by omega)
                  rw [← List.append_assoc] at this
                  rwa [blk_at (by rw [List.length_append, xa, lA, Nat.add_mul, Nat.one_mul]) (.inr ⟨lB, rfl⟩)] at this
                have HC2 := HM a m sz X A B [] wr x1 x2 x3 (by simp) (by omega) (by omega) sA sB S1.out
                have HQ : Hid _ := And.intro hl (And.intro hp (And.intro hbt (And.intro x1 (And.intro x2 (And.intro x3 (And.intro xa (And.intro lA lB)))))))
                have hmz : bs + 1 ≤ 2 * bs := by omega
                have hbbz : 2 * sz + 21 - bb + 1 ≤ 2 * sz + 21 - bs := by omega
                have hbbz2 : bb ≤ 2 * sz + 20 := by omega
                have hbbz3 : 20 ≤ bb := by omega
                have w3' : IntKind.i64.wrap ((bs : Int) * 2) = (bb : Int) := by rw [IntKind.wrap_i64]; omega
                unfold MergeC at HC2
                clear S1 HR3 hl hp hbt hbf x1 x2 x3 x4 xa lA lB sA sB HM hm hbb
                have HAB : Hid (b = a + 2 * bs ∧ a = q * (2 * bs) ∧ sz < b) := ⟨hb, ha, by omega⟩
                clear hb ha
                go_wp2_with (go_at_fn 31; refine HC2.out.mono ?_; rintro e w3 ⟨rfl, M, p1, p2, S2⟩)
                go_roundg (2 * sz + 21 - bb)
                case measure => omega
                case rel =>
                  obtain ⟨hl, hp, hbt, x1, x2, x3, xa, lA, lB⟩ := HQ.out
                  obtain ⟨c1, c2, c3⟩ := HAB.out
                  have hML : M.length ≤ 2 * bs := by rw [p1.length_eq, List.length_append]; omega
                  have e1 : X ++ (A ++ (B ++ [])) = X ++ ((A ++ B) ++ []) := by simp
                  rw [e1] at hl hp hbt
                  have hl2 : (X ++ (M ++ [])).length = sz := by simp only [List.length_append, p1.length_eq] at hl ⊢; exact hl
                  refine ⟨bb, X ++ (M ++ []), by go_num, hbbz3, hbbz2, Nat.le_refl _, ⟨hl2, (List.Perm.append_left X (List.Perm.append_right [] p1)).trans hp, ?_⟩, S2⟩
                  rw [HBB.out]
                  refine (hbt.next ?_ p2 (.inr ⟨hML, rfl⟩)).all ?_
                  · rw [xa, Nat.mul_comm 2 q, Nat.mul_assoc]
                  · rw [hl2, Nat.add_mul, Nat.one_mul]; omega
              · have hmsz : ¬ (m : Int) < (sz : Int) := by omega
                have hbbz : 2 * sz + 21 - bb + 1 ≤ 2 * sz + 21 - bs := by omega
                have hbbz2 : bb ≤ 2 * sz + 20 := by omega
                have hbbz3 : 20 ≤ bb := by omega
                have w3' : IntKind.i64.wrap ((bs : Int) * 2) = (bb : Int) := by rw [IntKind.wrap_i64]; omega
                have HAB : Hid (b = a + 2 * bs ∧ a = q * (2 * bs) ∧ sz < b ∧ sz ≤ a + bs) := ⟨hb, ha, by omega, by omega⟩
                clear hb ha hm hbb
                go_wp2
                go_roundg (2 * sz + 21 - bb)
                case measure => omega
                case rel =>
                  obtain ⟨hl, hp, hbt, hbf⟩ := HR3.out
                  obtain ⟨c1, c2, c3, c4⟩ := HAB.out
                  obtain ⟨X, A, Y, rfl, x1, x2, x3⟩ := cut2L l a sz hasz (by omega)
                  have xa : X.length = (2 * q) * bs := by rw [x1, c2, Nat.mul_comm 2 q, Nat.mul_assoc]
                  have hY : Y = [] := List.eq_nil_of_length_eq_zero (by omega)
                  subst hY
                  have lA : A.length ≤ bs := by omega
                  have sA : LeS (ltOf cf) A := by
                    have := hbf (2 * q) (Nat.le_refl _)
                    rwa [blk_at xa (.inr ⟨lA, rfl⟩)] at this
                  refine ⟨bb, X ++ (A ++ []), by go_num, hbbz3, hbbz2, Nat.le_refl _, ⟨hl, hp, ?_⟩, S1⟩
                  rw [HBB.out]
                  refine (hbt.next ?_ sA (.inr ⟨by omega, rfl⟩)).all ?_
                  · rw [xa, Nat.mul_comm 2 q, Nat.mul_assoc]
                  · rw [hl, Nat.add_mul, Nat.one_mul]; omega
        · have hltz2 : ¬ (bs : Int) < (sz : Int) := by omega
          go_wp2
          go_end0
          obtain ⟨h1, h2, h3⟩ := HR2.out
          refine ⟨rfl, l, h2, ?_, S1.out⟩
          have := h3 0 (Nat.le_refl _)
          unfold blkL at this
          rwa [Nat.zero_mul, List.drop_zero, List.take_of_length_le (by omega)] at this
end
end Go.Proofs.Ytepmamfbhocjjaa
end
