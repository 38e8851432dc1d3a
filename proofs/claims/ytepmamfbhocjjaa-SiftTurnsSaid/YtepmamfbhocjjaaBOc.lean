/-
  Texts laid together: Oc Od.
-/
import Derived.Test.YtepmamfbhocjjaaBOb
import Derived.Shelf.SlSortCmp.KitK
import Derived.Deep.LoopGhost
section
/-
  slices.stableCmpFunc's family at records: two ranges exchanged; a turn (two neighbouring ranges change places).
-/

namespace Go.Proofs.Ytepmamfbhocjjaa
open Go.Shelf Go.RowKit Go.Lib Go.Sort
set_option linter.unusedVariables false
set_option linter.unusedSimpArgs false
set_option linter.unusedSectionVars false
/-- What the family's walks ask of the program, so that an element's size may be a letter. -/
structure StP (P : Program) (k : Nat) : Prop where
  mixed : P.follows .mixedOrders = true
  FR : P.funcs[34]? = some Try.f34
  FT : P.funcs[33]? = some Try.f33
  FM : P.funcs[31]? = some Try.f31
  FS : P.funcs[26]? = some Try.f26
  t0 : P.underlying 0 = some (TypeDesc.tuple #[])
  a0 : ∀ w, (isAgg 0).run P w = .ok false w
  z0 : ∀ w, (Go.sizeOf 0).run P w = .ok 1 w
  v0 : ∀ w, (zeroValue 0).run P w = .ok (Value.tuple #[]) w
  t3 : P.underlying 3 = some (TypeDesc.int .i64)
  a3 : ∀ w, (isAgg 3).run P w = .ok false w
  z3 : ∀ w, (Go.sizeOf 3).run P w = .ok 1 w
  v3 : ∀ w, (zeroValue 3).run P w = .ok (Value.int .i64 0) w
  t4 : P.underlying 4 = some (TypeDesc.bool)
  a4 : ∀ w, (isAgg 4).run P w = .ok false w
  z4 : ∀ w, (Go.sizeOf 4).run P w = .ok 1 w
  v4 : ∀ w, (zeroValue 4).run P w = .ok (Value.bool false) w
  t5 : P.underlying 34 = some (TypeDesc.int .u64)
  a5 : ∀ w, (isAgg 34).run P w = .ok false w
  z5 : ∀ w, (Go.sizeOf 34).run P w = .ok 1 w
  v5 : ∀ w, (zeroValue 34).run P w = .ok (Value.int .u64 0) w
  t22 : P.underlying 25 = some (TypeDesc.slice 37)
  a22 : ∀ w, (isAgg 25).run P w = .ok false w
  z22 : ∀ w, (Go.sizeOf 25).run P w = .ok 1 w
  v22 : ∀ w, (zeroValue 25).run P w = .ok (Value.slice none 0 0) w
  t25 : P.underlying 49 = some (TypeDesc.func #[37, 37] #[3] false)
  a25 : ∀ w, (isAgg 49).run P w = .ok false w
  z25 : ∀ w, (Go.sizeOf 49).run P w = .ok 1 w
  aE : ∀ w, (isAgg 37).run P w = .ok true w
  zE : ∀ w, (Go.sizeOf 37).run P w = .ok k w
theorem stP_here : StP Try.prog 6 where
  mixed := by kernel_rfl
  FR := Try.func34
  FT := Try.func33
  FM := Try.func31
  FS := Try.func26
  t0 := Try.underlying0
  a0 := Try.isAgg0
  z0 := Try.sizeOf0
  v0 := Try.zeroValue0
  t3 := Try.underlying3
  a3 := Try.isAgg3
  z3 := Try.sizeOf3
  v3 := Try.zeroValue3
  t4 := Try.underlying4
  a4 := Try.isAgg4
  z4 := Try.sizeOf4
  v4 := Try.zeroValue4
  t5 := Try.underlying34
  a5 := Try.isAgg34
  z5 := Try.sizeOf34
  v5 := Try.zeroValue34
  t22 := Try.underlying25
  a22 := Try.isAgg25
  z22 := Try.sizeOf25
  v22 := Try.zeroValue25
  t25 := Try.underlying49
  a25 := Try.isAgg49
  z25 := Try.sizeOf49
  aE := Try.isAgg37
  zE := Try.sizeOf37
section
variable {α : Type} [Inhabited α] {enc : α → List Value} {w0 : World} {blk off k : Nat} {d0 : Array α} {P : Program}
theorem cons_of {l : List α} {n : Nat} (h : l.length = n) (k : 0 < n) : ∃ c t, l = c :: t ∧ t.length = n - 1 := by
  cases l with
  | nil => simp at h; omega
  | cons c t => exact ⟨c, t, rfl, by simp at h; omega⟩
set_option maxHeartbeats 4000000 in
set_option maxRecDepth 1000000 in
theorem swapR_any (L : StP P k) (R : RowK enc k w0 blk off d0) (g : Nat) (cb : Array Value) (cap a b n sz : Nat) (X U Q V Y : List α) (w : World)
    (hs : d0.size = sz) (hsz : sz < 4611686018427387904) (ha : X.length = a) (hu : U.length = n) (hv : V.length = n) (hq : a + n + Q.length = b) (hy : b + n + Y.length = sz)
    (S : SWK enc k w0 blk off (X ++ (U ++ (Q ++ (V ++ Y)))).toArray w) :
    Calls P 34 #[.slice (some ⟨blk, off, none⟩) sz cap, .int .i64 a, .int .i64 b, .int .i64 n, .func (.func g) #[] cb] w fun e w' => e = .returned (.tuple #[]) ∧ SWK enc k w0 blk off (X ++ (V ++ (Q ++ (U ++ Y)))).toArray w' := by
  have S0 : Aside (SWK enc k w0 blk off (X ++ (U ++ (Q ++ (V ++ Y)))).toArray w) := S
  have HL : Hid (X.length = a ∧ U.length = n ∧ V.length = n ∧ a + n + Q.length = b ∧ b + n + Y.length = sz ∧ d0.size = sz) := ⟨ha, hu, hv, hq, hy, hs⟩
  have hb : b + n ≤ sz := by omega
  have hab : a + n ≤ b := by omega
  clear S ha hu hv hq hy hs
  have mixed := L.mixed; have t0 := L.t0; have a0 := L.a0; have z0 := L.z0; have v0 := L.v0; have t3 := L.t3; have a3 := L.a3; have z3 := L.z3; have v3 := L.v3; have t4 := L.t4; have a4 := L.a4; have z4 := L.z4; have v4 := L.v4; have t5 := L.t5; have a5 := L.a5; have z5 := L.z5; have v5 := L.v5; have t22 := L.t22; have a22 := L.a22; have z22 := L.z22; have v22 := L.v22; have t25 := L.t25; have a25 := L.a25; have z25 := L.z25; have aE := L.aE; have zE := L.zE
  have u22 := run_underlying L.t22
  go_enter L.FR, Try.ntmps34
  go_wp2
  go_loopg [10] n (fun kx s10 wr => ∃ (i : Nat) (X' U' Q' V' : List α), s10 = .int .i64 i ∧ i ≤ n ∧ n - i ≤ kx ∧ Hid (X'.length = a + i ∧ U'.length = n - i ∧ V'.length = n - i ∧ a + n + Q'.length = b + i) ∧
    Aside (SWK enc k w0 blk off (X' ++ (U' ++ (Q' ++ (V' ++ Y)))).toArray wr) ∧ Hid (X' ++ (V' ++ (Q' ++ (U' ++ Y))) = X ++ (V ++ (Q ++ (U ++ Y)))))
  case atStart => exact ⟨0, X, U, Q, V, rfl, by omega, by omega, ⟨by rw [HL.out.1]; rfl, HL.out.2.1, HL.out.2.2.1, HL.out.2.2.2.1⟩, S0, rfl⟩
  case round =>
    clear S0
    obtain ⟨i, X', U', Q', V', rfl, hi, hkx, HR, S1, HE⟩ := hrel
    by_cases hlt : i < n
    · have hltz : (i : Int) < (n : Int) := by omega
      obtain ⟨h1, h2, h3, h4⟩ := HR.out
      obtain ⟨c, U2, rfl, hu2⟩ := cons_of h2 (by omega)
      obtain ⟨e, V2, rfl, hv2⟩ := cons_of h3 (by omega)
      obtain ⟨p, hp⟩ : ∃ p, p = a + i := ⟨_, rfl⟩
      obtain ⟨q, hq⟩ : ∃ q, q = b + i := ⟨_, rfl⟩
      have cut : X' ++ ((c :: U2) ++ (Q' ++ ((e :: V2) ++ Y))) = X' ++ c :: ((U2 ++ Q') ++ e :: (V2 ++ Y)) := by simp
      rw [cut] at S1
      have gp : (X' ++ c :: ((U2 ++ Q') ++ e :: (V2 ++ Y))).toArray[p]! = c := by rw [hp, ← h1]; exact cut_at _ _ _
      have eq : X'.length + 1 + (U2 ++ Q').length = q := by rw [List.length_append]; omega
      have gq : (X' ++ c :: ((U2 ++ Q') ++ e :: (V2 ++ Y))).toArray[q]! = e := by rw [← eq]; exact cut_at2 _ _ _ _ _
      have sw : swp (X' ++ c :: ((U2 ++ Q') ++ e :: (V2 ++ Y))).toArray p q = (X' ++ e :: ((U2 ++ Q') ++ c :: (V2 ++ Y))).toArray := by rw [← eq, show p = X'.length by omega]; exact swp_cut _ _ _ _ _
      have hds : (X' ++ c :: ((U2 ++ Q') ++ e :: (V2 ++ Y))).toArray.size = d0.size := by
        rw [HL.out.2.2.2.2.2, ← HL.out.2.2.2.2.1]; simp; omega
      have hd0 := HL.out.2.2.2.2.2
      generalize (X' ++ c :: ((U2 ++ Q') ++ e :: (V2 ++ Y))).toArray = dk at S1 gp gq sw hds
      have pq : p < dk.size ∧ q < dk.size := by omega
      have HN : Hid _ := And.intro h1 (And.intro hu2 (And.intro hv2 (And.intro h4 (And.intro hp hq))))
      have ra : IntKind.i64.wrap ((a : Int) + (i : Int)) = (p : Int) := by rw [IntKind.wrap_i64]; omega
      have rb : IntKind.i64.wrap ((b : Int) + (i : Int)) = (q : Int) := by rw [IntKind.wrap_i64]; omega
      have ba : (p : Int) < (sz : Int) := by omega
      have bc : (q : Int) < (sz : Int) := by omega
      have ea : ((p : Nat) : Int).toNat = p := by omega
      have pa : (0 : Int) ≤ (p : Int) := by omega
      have ec : ((q : Nat) : Int).toNat = q := by omega
      have pc : (0 : Int) ≤ (q : Int) := by omega
      have S2 : Aside (SWK enc k w0 blk off (swp dk p q) ((wr.drew.setCells blk (off + p * k) (enc dk[q]!)).setCells blk (off + q * k) (enc dk[p]!))) := S1.out.swapped R p q pq.1 pq.2
      have l1 := S1.out.ld1 R hds P p pq.1
      have l2 := S1.out.ld1 R hds P q pq.2
      have s1 := S1.out.st1 R hds P p pq.1 dk[q]!
      have s2 := S1.out.st2 R hds P p q pq.1 pq.2 dk[q]! dk[p]!
      have n1 : (enc dk[p]!).length = k := R.hk _
      have n2 : (enc dk[q]!).length = k := R.hk _
      generalize enc dk[p]! = cI at S2 l1 s2 n1
      generalize enc dk[q]! = cJ at S2 l2 s1 s2 n2
      clear S1 pq h1 h2 h3 h4 hu2 hv2 eq gp gq hp hq cut hds hd0
      have SW : Hid _ := sw
      clear sw
      go_wp2_with fail
      go_big_region_o
      clear l1 l2 s1 s2 ra rb
      obtain ⟨h1, h2, h3, h4, h5, h6⟩ := HN.out
      rw [SW.out] at S2
      generalize (wr.drew.setCells blk (off + p * k) cJ).setCells blk (off + q * k) cI = w2 at S2 ⊢
      go_wp2
      go_roundg (n - (i + 1))
      case measure => omega
      case rel =>
        refine ⟨i + 1, X' ++ [e], U2, Q' ++ [c], V2, by go_num, by omega, Nat.le_refl _, ⟨by simp; omega, by omega, by omega, by simp; omega⟩, ?_, ?_⟩
        · have e1 : X' ++ e :: ((U2 ++ Q') ++ c :: (V2 ++ Y)) = (X' ++ [e]) ++ (U2 ++ ((Q' ++ [c]) ++ (V2 ++ Y))) := by simp
          rw [e1] at S2
          exact S2
        · show _ = _
          rw [← HE.out]
          simp
    · have hltz : ¬ (i : Int) < (n : Int) := by omega
      obtain ⟨h1, h2, h3, h4⟩ := HR.out
      obtain rfl : U' = [] := List.eq_nil_of_length_eq_zero (by omega)
      obtain rfl : V' = [] := List.eq_nil_of_length_eq_zero (by omega)
      clear h1 h2 h3 h4
      go_wp2
      go_end0
      refine ⟨rfl, ?_⟩
      rw [← HE.out]
      exact S1.out
set_option maxHeartbeats 4000000 in
set_option maxRecDepth 1000000 in
theorem rotate_any (L : StP P k) (R : RowK enc k w0 blk off d0) (g : Nat) (cb : Array Value) (cap a m b sz : Nat) (X U V Y : List α) (w : World)
    (hs : d0.size = sz) (hsz : sz < 4611686018427387904) (ha : X.length = a) (hu : a + U.length = m) (hv : m + V.length = b) (hy : b + Y.length = sz) (u0 : 0 < U.length) (v0 : 0 < V.length)
    (S : SWK enc k w0 blk off (X ++ (U ++ (V ++ Y))).toArray w) :
    Calls P 33 #[.slice (some ⟨blk, off, none⟩) sz cap, .int .i64 a, .int .i64 m, .int .i64 b, .func (.func g) #[] cb] w fun e w' => e = .returned (.tuple #[]) ∧ SWK enc k w0 blk off (X ++ (V ++ (U ++ Y))).toArray w' := by
  have S0 : Aside (SWK enc k w0 blk off (X ++ (U ++ (V ++ Y))).toArray w) := S
  have HL : Hid (X.length = a ∧ a + U.length = m ∧ m + V.length = b ∧ b + Y.length = sz ∧ d0.size = sz ∧ 0 < U.length ∧ 0 < V.length) := ⟨ha, hu, hv, hy, hs, u0, v0⟩
  have hb : b ≤ sz := by omega
  have ham : a < m := by omega
  have hmb : m < b := by omega
  have e34 : ∀ args w, (callFunc 34 args).run P w = .ok (.enter 34 args) w := enters_of L.FR (by kernel_rfl) rfl
  have HC := fun a b n X U Q V Y w h1 h2 h3 h4 h5 h6 => kept (swapR_any L R g cb cap a b n sz X U Q V Y w hs hsz h1 h2 h3 h4 h5 h6)
  clear S ha hu hv hy hs u0 v0
  have mixed := L.mixed; have t0 := L.t0; have a0 := L.a0; have z0 := L.z0; have v0 := L.v0; have t3 := L.t3; have a3 := L.a3; have z3 := L.z3; have v3 := L.v3; have t4 := L.t4; have a4 := L.a4; have z4 := L.z4; have v4 := L.v4; have t5 := L.t5; have a5 := L.a5; have z5 := L.z5; have v5 := L.v5; have t22 := L.t22; have a22 := L.a22; have z22 := L.z22; have v22 := L.v22; have t25 := L.t25; have a25 := L.a25; have z25 := L.z25; have aE := L.aE; have zE := L.zE
  have u22 := run_underlying L.t22
  have w1 : IntKind.i64.wrap ((m : Int) - (a : Int)) = ((m - a : Nat) : Int) := by rw [IntKind.wrap_i64]; omega
  have w2 : IntKind.i64.wrap ((b : Int) - (m : Int)) = ((b - m : Nat) : Int) := by rw [IntKind.wrap_i64]; omega
  obtain ⟨i0, hi0⟩ : ∃ i0, i0 = m - a := ⟨_, rfl⟩
  obtain ⟨j0, hj0⟩ : ∃ j0, j0 = b - m := ⟨_, rfl⟩
  rw [← hi0] at w1
  rw [← hj0] at w2
  have HI : Hid (i0 = m - a ∧ j0 = b - m) := ⟨hi0, hj0⟩
  clear hi0 hj0
  go_enter L.FT, Try.ntmps33
  go_wp2
  clear w1 w2
  go_loopg [10, 11] (i0 + j0) (fun kx s10 s11 wr => ∃ (i j : Nat) (X' A B Y' : List α), s10 = .int .i64 i ∧ s11 = .int .i64 j ∧ i + j ≤ kx ∧ 0 < i ∧ 0 < j ∧ i ≤ m ∧ m + j ≤ b ∧ Hid (X'.length + i = m ∧ A.length = i ∧ B.length = j ∧ m + j + Y'.length = sz) ∧
    Aside (SWK enc k w0 blk off (X' ++ (A ++ (B ++ Y'))).toArray wr) ∧ Hid (X' ++ (B ++ (A ++ Y')) = X ++ (V ++ (U ++ Y))))
  case atStart =>
    obtain ⟨h1, h2, h3, h4, h5, h6, h7⟩ := HL.out
    obtain ⟨h8, h9⟩ := HI.out
    exact ⟨i0, j0, X, U, V, Y, rfl, rfl, Nat.le_refl _, by omega, by omega, by omega, by omega, ⟨by omega, by omega, by omega, by omega⟩, S0, rfl⟩
  case round =>
    clear S0
    obtain ⟨i, j, X', A, B, Y', rfl, rfl, hkx, hi, hj, him, hjb, HR, S1, HE⟩ := hrel
    have wa : IntKind.i64.wrap ((m : Int) - (i : Int)) = ((m - i : Nat) : Int) := by rw [IntKind.wrap_i64]; omega
    obtain ⟨p, hp⟩ : ∃ p, p = m - i := ⟨_, rfl⟩
    rw [← hp] at wa
    rcases Nat.lt_trichotomy i j with h | h | h
    · -- the left part is the shorter one
      have n1 : decide ((i : Int) = (j : Int)) = false := decide_eq_false (by omega)
      have n2 : decide ((j : Int) < (i : Int)) = false := decide_eq_false (by omega)
      have wb : IntKind.i64.wrap ((m : Int) + (j : Int)) = ((m + j : Nat) : Int) := by rw [IntKind.wrap_i64]; omega
      have wc : IntKind.i64.wrap (((m + j : Nat) : Int) - (i : Int)) = ((m + j - i : Nat) : Int) := by rw [IntKind.wrap_i64]; omega
      have wd : IntKind.i64.wrap ((j : Int) - (i : Int)) = ((j - i : Nat) : Int) := by rw [IntKind.wrap_i64]; omega
      obtain ⟨q, hq⟩ : ∃ q, q = m + j - i := ⟨_, rfl⟩
      obtain ⟨r, hr⟩ : ∃ r, r = m + j := ⟨_, rfl⟩
      obtain ⟨t, ht⟩ : ∃ t, t = j - i := ⟨_, rfl⟩
      rw [← hr] at wb wc
      rw [hr, ← hq, ← hr] at wc
      rw [← ht] at wd
      obtain ⟨h1, h2, h3, h4⟩ := HR.out
      have hB : B = B.take (j - i) ++ B.drop (j - i) := (List.take_append_drop _ _).symm
      have l1 : (B.take (j - i)).length = j - i := by rw [List.length_take]; omega
      have l2 : (B.drop (j - i)).length = i := by rw [List.length_drop]; omega
      generalize B.take (j - i) = B1 at hB l1
      generalize B.drop (j - i) = B2 at hB l2
      subst hB
      have e1 : X' ++ (A ++ ((B1 ++ B2) ++ Y')) = X' ++ (A ++ (B1 ++ (B2 ++ Y'))) := by simp
      rw [e1] at S1
      have HC1 := HC p q i X' A B1 B2 Y' wr (by omega) h2 l2 (by omega) (by omega) S1.out
      have HN : Hid _ := And.intro h1 (And.intro h2 (And.intro l1 (And.intro l2 (And.intro h4 (And.intro hp (And.intro hq ht))))))
      clear HC S1 h1 h2 h3 h4 l1 l2 hp hq hr ht e1
      go_wp2_with (go_at_fn 34; refine HC1.out.mono ?_; rintro e w3 ⟨rfl, S3⟩)
      obtain ⟨h1, h2, l1, l2, h4, hp, hq, ht⟩ := HN.out
      go_roundg (i + t)
      case measure => omega
      case rel =>
        refine ⟨i, t, X', B2, B1, A ++ Y', rfl, rfl, Nat.le_refl _, hi, by omega, him, by omega, ⟨h1, l2, by omega, by simp; omega⟩, ?_, ?_⟩
        · exact S3
        · show _ = _
          rw [← HE.out]
          simp
    · subst h
      have n1 : decide ((i : Int) = (i : Int)) = true := by simp
      obtain ⟨h1, h2, h3, h4⟩ := HR.out
      have HC1 := HC p m i X' A [] B Y' wr (by omega) h2 h3 (by simp; omega) (by omega) S1.out
      clear HC S1 h1 h2 h3 h4 hp
      go_wp2_with (go_at_fn 34; refine HC1.out.mono ?_; rintro e w3 ⟨rfl, S3⟩)
      go_end0
      refine ⟨rfl, ?_⟩
      rw [← HE.out]
      exact S3
    · have n1 : decide ((i : Int) = (j : Int)) = false := decide_eq_false (by omega)
      have n2 : decide ((j : Int) < (i : Int)) = true := decide_eq_true (by omega)
      have wd : IntKind.i64.wrap ((i : Int) - (j : Int)) = ((i - j : Nat) : Int) := by rw [IntKind.wrap_i64]; omega
      obtain ⟨t, ht⟩ : ∃ t, t = i - j := ⟨_, rfl⟩
      rw [← ht] at wd
      obtain ⟨h1, h2, h3, h4⟩ := HR.out
      have hA : A = A.take j ++ A.drop j := (List.take_append_drop _ _).symm
      have l1 : (A.take j).length = j := by rw [List.length_take]; omega
      have l2 : (A.drop j).length = i - j := by rw [List.length_drop]; omega
      generalize A.take j = A1 at hA l1
      generalize A.drop j = A2 at hA l2
      subst hA
      have e1 : X' ++ ((A1 ++ A2) ++ (B ++ Y')) = X' ++ (A1 ++ (A2 ++ (B ++ Y'))) := by simp
      rw [e1] at S1
      have HC1 := HC p m j X' A1 A2 B Y' wr (by omega) l1 h3 (by omega) (by omega) S1.out
      have HN : Hid _ := And.intro h1 (And.intro h3 (And.intro l1 (And.intro l2 (And.intro h4 (And.intro hp ht)))))
      clear HC S1 h1 h2 h3 h4 l1 l2 hp ht e1
      go_wp2_with (go_at_fn 34; refine HC1.out.mono ?_; rintro e w3 ⟨rfl, S3⟩)
      obtain ⟨h1, h3, l1, l2, h4, hp, ht⟩ := HN.out
      go_roundg (t + j)
      case measure => omega
      case rel =>
        refine ⟨t, j, X' ++ B, A2, A1, Y', rfl, rfl, Nat.le_refl _, by omega, hj, by omega, hjb, ⟨by simp; omega, by omega, l1, h4⟩, ?_, ?_⟩
        · have e2 : X' ++ (B ++ (A2 ++ (A1 ++ Y'))) = (X' ++ B) ++ (A2 ++ (A1 ++ Y')) := by simp
          rw [e2] at S3
          exact S3
        · show _ = _
          rw [← HE.out]
          simp
end
end Go.Proofs.Ytepmamfbhocjjaa
end

section
/-
  slices.symMergeCmpFunc at records: two neighbouring rows in order become one.
-/
namespace Go.Proofs.Ytepmamfbhocjjaa
open Go.Shelf Go.RowKit Go.Lib Go.Sort
set_option linter.unusedVariables false
set_option linter.unusedSimpArgs false
set_option linter.unusedSectionVars false
section
variable {α : Type} [Inhabited α] {enc : α → List Value} {w0 : World} {blk off k : Nat} {d0 : Array α} {P : Program} {cf : α → α → Int}
set_option maxHeartbeats 4000000 in
set_option maxRecDepth 1000000 in
theorem merge_front (L : StP P k) (R : RowK enc k w0 blk off d0) (g : Nat) (cb : Array Value) (eg : ∀ args w, (callFunc g args).run P w = .ok (.enter g args) w) (hC : CmpLays P g cb enc k cf blk off d0.size w0) (hO : SWO (ltOf cf)) (cap a m b sz : Nat) (X B Y : List α) (c : α) (w : World)
    (hs : d0.size = sz) (hsz : sz < 4611686018427387904) (ha : X.length = a) (hm : a + 1 = m) (hb : m + B.length = b) (hy : b + Y.length = sz) (hB : LeS (ltOf cf) B)
    (S : SWK enc k w0 blk off (X ++ c :: (B ++ Y)).toArray w) :
    Calls P 31 #[.slice (some ⟨blk, off, none⟩) sz cap, .int .i64 a, .int .i64 m, .int .i64 b, .func (.func g) #[] cb] w fun e w' => e = .returned (.tuple #[]) ∧ ∃ M : List α, M.Perm (c :: B) ∧ LeS (ltOf cf) M ∧ SWK enc k w0 blk off (X ++ (M ++ Y)).toArray w' := by
  have HC : Aside _ := hC
  have hL : X ++ c :: (B ++ Y) = (X ++ [c]) ++ (B ++ Y) := by simp
  have hl : (X ++ [c]).length = m := by simp; omega
  have hmo : Hid (Mono (fun t => ltOf cf (X ++ c :: (B ++ Y)).toArray[t]! c) m b) := by
    have := mono_front hO (X := X ++ [c]) (Y := Y) hB c
    rw [hl, hb, ← hL] at this
    exact this
  have hpar : Hid (∀ s, Srch (fun t => ltOf cf (X ++ c :: (B ++ Y)).toArray[t]! c) m b s s → (∀ e ∈ B.take (s - m), ltOf cf e c = true) ∧ (∀ e ∈ B.drop (s - m), ltOf cf e c = false)) := fun s h => by
    have := Srch.take (X := X ++ [c]) (A := B) (Y := Y) (p := fun t => ltOf cf (X ++ c :: (B ++ Y)).toArray[t]! c) (s := s) (R := fun e => ltOf cf e c) (by rw [hl, hb]; exact h) (fun t => by rw [hL])
    rw [hl] at this
    exact this
  have hga : (X ++ c :: (B ++ Y)).toArray[a]! = c := by rw [← ha]; exact cut_at _ _ _
  have hds : (X ++ c :: (B ++ Y)).toArray.size = d0.size := by rw [hs, ← hy]; simp; omega
  obtain ⟨dk, hdk⟩ : ∃ dk, (X ++ c :: (B ++ Y)).toArray = dk := ⟨_, rfl⟩
  rw [hdk] at hmo hpar hga hds S
  have S0 : Aside (SWK enc k w0 blk off dk w) := S
  have HL : Hid (X.length = a ∧ a + 1 = m ∧ m + B.length = b ∧ b + Y.length = sz ∧ d0.size = sz ∧ dk[a]! = c ∧ (X ++ c :: (B ++ Y)).toArray = dk ∧ LeS (ltOf cf) B ∧ SWO (ltOf cf)) := ⟨ha, hm, hb, hy, hs, hga, hdk, hB, hO⟩
  have hbs : b ≤ sz := by omega
  have hmb : m ≤ b := by omega
  have ham : a < m := by omega
  have hsd : dk.size = sz := by omega
  have w1 : IntKind.i64.wrap ((m : Int) - (a : Int)) = 1 := by rw [IntKind.wrap_i64]; omega
  clear S hC hL hl hs ha hm hb hy hB hO hga hdk
  have mixed := L.mixed; have t0 := L.t0; have a0 := L.a0; have z0 := L.z0; have v0 := L.v0; have t3 := L.t3; have a3 := L.a3; have z3 := L.z3; have v3 := L.v3; have t4 := L.t4; have a4 := L.a4; have z4 := L.z4; have v4 := L.v4; have t5 := L.t5; have a5 := L.a5; have z5 := L.z5; have v5 := L.v5; have t22 := L.t22; have a22 := L.a22; have z22 := L.z22; have v22 := L.v22; have t25 := L.t25; have a25 := L.a25; have z25 := L.z25; have aE := L.aE; have zE := L.zE
  have u22 := run_underlying L.t22
  go_enter L.FM, Try.ntmps31
  go_wp2
  clear w1
  go_loopg [10, 11] (b - m) (fun kx s10 s11 wr => ∃ i j : Nat, s10 = .int .i64 i ∧ s11 = .int .i64 j ∧ m ≤ i ∧ i ≤ j ∧ j ≤ b ∧ j - i ≤ kx ∧ Hid (Srch (fun t => ltOf cf dk[t]! c) m b i j) ∧ Aside (SWK enc k w0 blk off dk wr))
  case atStart => exact ⟨m, b, rfl, rfl, Nat.le_refl _, hmb, Nat.le_refl _, Nat.le_refl _, Srch.start hmb, S0⟩
  case round =>
    clear S0
    obtain ⟨i, j, rfl, rfl, hmi, hij, hjb, hkx, HS, S1⟩ := hrel
    by_cases hlt : i < j
    · have hltz : (i : Int) < (j : Int) := by omega
      obtain ⟨p, hp⟩ : ∃ p, p = (i + j) / 2 := ⟨_, rfl⟩
      obtain ⟨q, hq⟩ : ∃ q, q = a := ⟨_, rfl⟩
      have eh : ((i : Int) + (j : Int)) / 2 = (p : Int) := by omega
      have hp1 : i ≤ p := by omega
      have hp2 : p < j := by omega
      have pq : p < dk.size ∧ q < dk.size := by omega
      have ba : (p : Int) < (sz : Int) := by omega
      have bc : (q : Int) < (sz : Int) := by omega
      have ea : ((p : Nat) : Int).toNat = p := by omega
      have pa : (0 : Int) ≤ (p : Int) := by omega
      have ec : ((q : Nat) : Int).toNat = q := by omega
      have pc : (0 : Int) ≤ (q : Int) := by omega
      have l1 := S1.out.ld R hds P p pq.1
      have l2 := S1.out.ld R hds P q pq.2
      have hcg := S1.out.cmp HC.out (hds) dk[p]! dk[q]!
      have S2 : Aside (∀ n os, SWK enc k w0 blk off dk (grow (wr.drewN n) os)) := fun n os => S1.out.grown n os
      have hqc : dk[q]! = c := by rw [hq]; exact HL.out.2.2.2.2.2.1
      rw [hqc] at l2 hcg
      subst hq
      have HX := HS
      by_cases hlv : cf dk[p]! c < 0
      · have HU : Hid (Srch (fun t => ltOf cf dk[t]! c) m b (p + 1) j) := Srch.up HS.out hmo.out hp1 hp2 (decide_eq_true hlv)
        generalize dk[p]! = x at l1 hcg hlv
        clear S1 pq hqc HS HX hp
        go_wp2_with fail
        go_quiet_grown (first | (go_at_fn g; refine Calls.grown_of (hcg _ _)))
        clear l1 l2 hcg
        go_wp2
        go_roundg (j - (p + 1))
        case measure => omega
        case rel => exact ⟨p + 1, j, by go_num, rfl, by omega, by omega, hjb, Nat.le_refl _, HU, S2.out _ _⟩
      · have HU : Hid (Srch (fun t => ltOf cf dk[t]! c) m b i p) := Srch.down HS.out hmo.out hp1 hp2 (decide_eq_false hlv)
        generalize dk[p]! = x at l1 hcg hlv
        clear S1 pq hqc HS HX hp
        go_wp2_with fail
        go_quiet_grown (first | (go_at_fn g; refine Calls.grown_of (hcg _ _)))
        clear l1 l2 hcg
        go_wp2
        go_roundg (p - i)
        case measure => omega
        case rel => exact ⟨i, p, rfl, by go_num, by omega, by omega, by omega, Nat.le_refl _, HU, S2.out _ _⟩
    · have hltz : ¬ (i : Int) < (j : Int) := by omega
      obtain rfl : i = j := by omega
      obtain ⟨h1, h2, h3, h4, h5, h6, h7, h8, h9⟩ := HL.out
      obtain ⟨p1, p2⟩ := hpar.out i HS.out
      have hB : B = B.take (i - m) ++ B.drop (i - m) := (List.take_append_drop _ _).symm
      have l1 : (B.take (i - m)).length = i - m := by rw [List.length_take]; omega
      generalize B.take (i - m) = B1 at hB l1 p1
      generalize B.drop (i - m) = B2 at hB p2
      rw [hB] at h3 h7 h8
      have HM : Hid (LeS (ltOf cf) (B1 ++ c :: B2) ∧ (B1 ++ c :: B2).Perm (c :: B)) := ⟨laid_front h9 h8 p1 p2, by rw [hB]; exact List.perm_middle⟩
      have S3 : Aside (SWK enc k w0 blk off (X ++ c :: (B1 ++ (B2 ++ Y))).toArray wr) := by
        show SWK _ _ _ _ _ _ _
        rw [show X ++ c :: (B1 ++ (B2 ++ Y)) = X ++ c :: ((B1 ++ B2) ++ Y) by simp, h7]
        exact S1.out
      have HN : Hid (X.length = a ∧ a + 1 + B1.length = i ∧ i + (B2 ++ Y).length = sz) := ⟨h1, by omega, by simp at h3 ⊢; omega⟩
      have wi : IntKind.i64.wrap ((i : Int) - 1) = (i : Int) - 1 := by rw [IntKind.wrap_i64]; omega
      have hai : a + 1 ≤ i := by omega
      have his : i ≤ sz := by omega
      clear S1 HS hpar hmo h1 h2 h3 h4 h5 h6 h7 h8 h9 p1 p2 l1 hB
      go_wp2
      go_loopg [13] (i - a) (fun kx s13 wr => ∃ (t : Nat) (X' U' : List α), s13 = .int .i64 t ∧ t + 1 ≤ i ∧ i - t ≤ kx ∧ Hid (X'.length = t ∧ t + 1 + U'.length = i) ∧
        Aside (SWK enc k w0 blk off (X' ++ c :: (U' ++ (B2 ++ Y))).toArray wr) ∧ Hid (X' ++ (U' ++ c :: (B2 ++ Y)) = X ++ (B1 ++ c :: (B2 ++ Y))))
      case atStart => exact ⟨a, X, B1, rfl, hai, Nat.le_refl _, ⟨HN.out.1, HN.out.2.1⟩, S3, rfl⟩
      case round =>
        clear S3
        obtain ⟨t, X', U', rfl, hti, hkt, HR, S1, HE⟩ := hrel
        by_cases htl : t + 1 < i
        · have htz : (t : Int) < (i : Int) - 1 := by omega
          obtain ⟨h1, h2⟩ := HR.out
          obtain ⟨e, U2, rfl, hu2⟩ := cons_of (n := i - t - 1) (l := U') (by omega) (by omega)
          obtain ⟨p, hp⟩ : ∃ p, p = t := ⟨_, rfl⟩
          obtain ⟨q, hq⟩ : ∃ q, q = t + 1 := ⟨_, rfl⟩
          have cut : X' ++ c :: ((e :: U2) ++ (B2 ++ Y)) = X' ++ c :: ([] ++ e :: (U2 ++ (B2 ++ Y))) := by simp
          rw [cut] at S1
          have sw : swp (X' ++ c :: ([] ++ e :: (U2 ++ (B2 ++ Y)))).toArray p q = (X' ++ e :: ([] ++ c :: (U2 ++ (B2 ++ Y)))).toArray := by
            rw [show p = X'.length by omega, show q = X'.length + 1 + ([] : List α).length by simp; omega]; exact swp_cut _ _ _ _ _
          have hds2 : (X' ++ c :: ([] ++ e :: (U2 ++ (B2 ++ Y)))).toArray.size = d0.size := by
            rw [HL.out.2.2.2.2.1, ← HN.out.2.2]; simp; omega
          have hd0 := HL.out.2.2.2.2.1
          have hdsO := hds
          clear hds
          have hds := hds2
          generalize (X' ++ c :: ([] ++ e :: (U2 ++ (B2 ++ Y)))).toArray = dj at S1 sw hds hds2
          have pq : p < dj.size ∧ q < dj.size := by omega
          have rb : IntKind.i64.wrap ((t : Int) + 1) = (q : Int) := by rw [IntKind.wrap_i64]; omega
          have ba : (p : Int) < (sz : Int) := by omega
          have bc : (q : Int) < (sz : Int) := by omega
          have ea : ((p : Nat) : Int).toNat = p := by omega
          have pa : (0 : Int) ≤ (p : Int) := by omega
          have ec : ((q : Nat) : Int).toNat = q := by omega
          have pc : (0 : Int) ≤ (q : Int) := by omega
          have S2 : Aside (SWK enc k w0 blk off (swp dj p q) ((wr.drew.setCells blk (off + p * k) (enc dj[q]!)).setCells blk (off + q * k) (enc dj[p]!))) := S1.out.swapped R p q pq.1 pq.2
          have l1 := S1.out.ld1 R hds P p pq.1
          have l2 := S1.out.ld1 R hds P q pq.2
          have s1 := S1.out.st1 R hds P p pq.1 dj[q]!
          have s2 := S1.out.st2 R hds P p q pq.1 pq.2 dj[q]! dj[p]!
          have n1 : (enc dj[p]!).length = k := R.hk _
          have n2 : (enc dj[q]!).length = k := R.hk _
          generalize enc dj[p]! = cI at S2 l1 s2 n1
          generalize enc dj[q]! = cJ at S2 l2 s1 s2 n2
          subst hp
          have HQ : Hid (q = p + 1 ∧ X'.length = p ∧ U2.length = i - p - 1 - 1) := ⟨hq, h1, hu2⟩
          clear S1 pq cut hds hds2 hd0 hq h1 h2 hu2 hdsO
          have SW : Hid _ := sw
          clear sw
          go_wp2_with fail
          go_big_region_o
          clear l1 l2 s1 s2 rb
          rw [SW.out] at S2
          generalize (wr.drew.setCells blk (off + p * k) cJ).setCells blk (off + q * k) cI = w2 at S2 ⊢
          go_wp2
          obtain ⟨h1, h2, h3⟩ := HQ.out
          go_roundg (i - (p + 1))
          case measure => omega
          case rel =>
            refine ⟨p + 1, X' ++ [e], U2, by go_num, by omega, Nat.le_refl _, ⟨by simp; omega, by omega⟩, ?_, ?_⟩
            · have e1 : X' ++ e :: ([] ++ c :: (U2 ++ (B2 ++ Y))) = (X' ++ [e]) ++ c :: (U2 ++ (B2 ++ Y)) := by simp
              rw [e1] at S2
              exact S2
            · show _ = _
              rw [← HE.out]
              simp
        · have htz : ¬ (t : Int) < (i : Int) - 1 := by omega
          obtain ⟨h1, h2⟩ := HR.out
          obtain rfl : U' = [] := List.eq_nil_of_length_eq_zero (by omega)
          clear h1 h2
          have HF : Hid (SWK enc k w0 blk off (X ++ ((B1 ++ c :: B2) ++ Y)).toArray wr) := by
            show SWK _ _ _ _ _ _ _
            rw [show X ++ ((B1 ++ c :: B2) ++ Y) = X ++ (B1 ++ c :: (B2 ++ Y)) by simp, ← HE.out]
            exact S1.out
          clear S1 HE
          go_wp2
          (try simp only [Exit.inBlock, Exit.then])
          refine bodyPost_ret (results_none rfl _ _ _) rfl ?_
          exact ⟨rfl, B1 ++ c :: B2, HM.out.2, HM.out.1, HF.out⟩
set_option maxHeartbeats 4000000 in
set_option maxRecDepth 1000000 in
theorem merge_back (L : StP P k) (R : RowK enc k w0 blk off d0) (g : Nat) (cb : Array Value) (eg : ∀ args w, (callFunc g args).run P w = .ok (.enter g args) w) (hC : CmpLays P g cb enc k cf blk off d0.size w0) (hO : SWO (ltOf cf)) (cap a m b sz : Nat) (X A Y : List α) (c : α) (w : World)
    (hs : d0.size = sz) (hsz : sz < 4611686018427387904) (ha : X.length = a) (hm : a + A.length = m) (hm2 : a + 2 ≤ m) (hb : m + 1 = b) (hy : b + Y.length = sz) (hA : LeS (ltOf cf) A)
    (S : SWK enc k w0 blk off (X ++ (A ++ c :: Y)).toArray w) :
    Calls P 31 #[.slice (some ⟨blk, off, none⟩) sz cap, .int .i64 a, .int .i64 m, .int .i64 b, .func (.func g) #[] cb] w fun e w' => e = .returned (.tuple #[]) ∧ ∃ M : List α, M.Perm (A ++ [c]) ∧ LeS (ltOf cf) M ∧ SWK enc k w0 blk off (X ++ (M ++ Y)).toArray w' := by
  have HC : Aside _ := hC
  have hmo : Hid (Mono (fun t => !ltOf cf c (X ++ (A ++ c :: Y)).toArray[t]!) a m) := by
    have := mono_back hO (X := X) (Y := c :: Y) hA c
    rw [ha, hm] at this
    exact this
  have hpar : Hid (∀ s, Srch (fun t => !ltOf cf c (X ++ (A ++ c :: Y)).toArray[t]!) a m s s → (∀ e ∈ A.take (s - a), (!ltOf cf c e) = true) ∧ (∀ e ∈ A.drop (s - a), (!ltOf cf c e) = false)) := fun s h => by
    have := Srch.take (X := X) (A := A) (Y := c :: Y) (p := fun t => !ltOf cf c (X ++ (A ++ c :: Y)).toArray[t]!) (s := s) (R := fun e => !ltOf cf c e) (by rw [ha, hm]; exact h) (fun t => rfl)
    rw [ha] at this
    exact this
  have hga : (X ++ (A ++ c :: Y)).toArray[m]! = c := by
    have := cut_at (X ++ A) Y c
    rwa [List.length_append, ha, hm, List.append_assoc] at this
  have hds : (X ++ (A ++ c :: Y)).toArray.size = d0.size := by rw [hs, ← hy]; simp; omega
  obtain ⟨dk, hdk⟩ : ∃ dk, (X ++ (A ++ c :: Y)).toArray = dk := ⟨_, rfl⟩
  rw [hdk] at hmo hpar hga hds S
  have S0 : Aside (SWK enc k w0 blk off dk w) := S
  have HL : Hid (X.length = a ∧ a + A.length = m ∧ m + 1 = b ∧ b + Y.length = sz ∧ d0.size = sz ∧ dk[m]! = c ∧ (X ++ (A ++ c :: Y)).toArray = dk ∧ LeS (ltOf cf) A ∧ SWO (ltOf cf)) := ⟨ha, hm, hb, hy, hs, hga, hdk, hA, hO⟩
  have hbs : b ≤ sz := by omega
  have hmb : m < b := by omega
  have ham : a ≤ m := by omega
  have hsd : dk.size = sz := by omega
  obtain ⟨z, hz⟩ : ∃ z : Nat, z = m - a := ⟨_, rfl⟩
  have w1 : IntKind.i64.wrap ((m : Int) - (a : Int)) = (z : Int) := by rw [IntKind.wrap_i64]; omega
  have w2 : IntKind.i64.wrap ((b : Int) - (m : Int)) = 1 := by rw [IntKind.wrap_i64]; omega
  have n1 : ¬ (z : Int) = 1 := by omega
  have n3 : ((z : Int) == 1) = false := by rw [beq_eq_false_iff_ne]; omega
  clear S hC hs ha hm hb hy hA hO hga hdk hz hm2
  have mixed := L.mixed; have t0 := L.t0; have a0 := L.a0; have z0 := L.z0; have v0 := L.v0; have t3 := L.t3; have a3 := L.a3; have z3 := L.z3; have v3 := L.v3; have t4 := L.t4; have a4 := L.a4; have z4 := L.z4; have v4 := L.v4; have t5 := L.t5; have a5 := L.a5; have z5 := L.z5; have v5 := L.v5; have t22 := L.t22; have a22 := L.a22; have z22 := L.z22; have v22 := L.v22; have t25 := L.t25; have a25 := L.a25; have z25 := L.z25; have aE := L.aE; have zE := L.zE
  have u22 := run_underlying L.t22
  go_enter L.FM, Try.ntmps31
  go_wp2
  clear w1 w2 n1 n3
  go_loopg [14, 15] (m - a) (fun kx s10 s11 wr => ∃ i j : Nat, s10 = .int .i64 i ∧ s11 = .int .i64 j ∧ a ≤ i ∧ i ≤ j ∧ j ≤ m ∧ j - i ≤ kx ∧ Hid (Srch (fun t => !ltOf cf c dk[t]!) a m i j) ∧ Aside (SWK enc k w0 blk off dk wr))
  case atStart => exact ⟨a, m, rfl, rfl, Nat.le_refl _, ham, Nat.le_refl _, Nat.le_refl _, Srch.start ham, S0⟩
  case round =>
    clear S0
    obtain ⟨i, j, rfl, rfl, hmi, hij, hjb, hkx, HS, S1⟩ := hrel
    by_cases hlt : i < j
    · have hltz : (i : Int) < (j : Int) := by omega
      obtain ⟨q, hq⟩ : ∃ q, q = (i + j) / 2 := ⟨_, rfl⟩
      obtain ⟨p, hp⟩ : ∃ p, p = m := ⟨_, rfl⟩
      have eh : ((i : Int) + (j : Int)) / 2 = (q : Int) := by omega
      have hp1 : i ≤ q := by omega
      have hp2 : q < j := by omega
      have pq : p < dk.size ∧ q < dk.size := by omega
      have ba : (p : Int) < (sz : Int) := by omega
      have bc : (q : Int) < (sz : Int) := by omega
      have ea : ((p : Nat) : Int).toNat = p := by omega
      have pa : (0 : Int) ≤ (p : Int) := by omega
      have ec : ((q : Nat) : Int).toNat = q := by omega
      have pc : (0 : Int) ≤ (q : Int) := by omega
      have l1 := S1.out.ld R hds P p pq.1
      have l2 := S1.out.ld R hds P q pq.2
      have hcg := S1.out.cmp HC.out (hds) dk[p]! dk[q]!
      have S2 : Aside (∀ n os, SWK enc k w0 blk off dk (grow (wr.drewN n) os)) := fun n os => S1.out.grown n os
      have hqc : dk[p]! = c := by rw [hp]; exact HL.out.2.2.2.2.2.1
      rw [hqc] at l1 hcg
      subst hp
      have HX := HS
      by_cases hlv : cf c dk[q]! < 0
      · have HU : Hid (Srch (fun t => !ltOf cf c dk[t]!) a p i q) := Srch.down HS.out hmo.out hp1 hp2 (by simp only [ltOf, Bool.not_eq_false', decide_eq_true_eq]; exact hlv)
        generalize dk[q]! = x at l2 hcg hlv
        clear S1 pq hqc HS HX hq
        have hn : (!decide (cf c x < 0)) = false := by simp; omega
        go_wp2_with fail
        go_quiet_grown (first | (go_at_fn g; refine Calls.grown_of (hcg _ _)))
        clear l1 l2 hcg
        go_wp2
        go_roundg (q - i)
        case measure => omega
        case rel => exact ⟨i, q, rfl, by go_num, by omega, by omega, by omega, Nat.le_refl _, HU, S2.out _ _⟩
      · have HU : Hid (Srch (fun t => !ltOf cf c dk[t]!) a p (q + 1) j) := Srch.up HS.out hmo.out hp1 hp2 (by simp only [ltOf, Bool.not_eq_true', decide_eq_false_iff_not]; exact hlv)
        generalize dk[q]! = x at l2 hcg hlv
        clear S1 pq hqc HS HX hq
        have hn : (!decide (cf c x < 0)) = true := by simp; omega
        go_wp2_with fail
        go_quiet_grown (first | (go_at_fn g; refine Calls.grown_of (hcg _ _)))
        clear l1 l2 hcg
        go_wp2
        go_roundg (j - (q + 1))
        case measure => omega
        case rel => exact ⟨q + 1, j, by go_num, rfl, by omega, by omega, hjb, Nat.le_refl _, HU, S2.out _ _⟩
    · have hltz : ¬ (i : Int) < (j : Int) := by omega
      obtain rfl : i = j := by omega
      obtain ⟨h1, h2, h3, h4, h5, h6, h7, h8, h9⟩ := HL.out
      obtain ⟨p1, p2⟩ := hpar.out i HS.out
      have hA : A = A.take (i - a) ++ A.drop (i - a) := (List.take_append_drop _ _).symm
      have l1 : (A.take (i - a)).length = i - a := by rw [List.length_take]; omega
      generalize A.take (i - a) = A1 at hA l1 p1
      generalize A.drop (i - a) = A2 at hA p2
      rw [hA] at h2 h7 h8
      have HM : Hid (LeS (ltOf cf) (A1 ++ c :: A2) ∧ (A1 ++ c :: A2).Perm (A ++ [c])) := ⟨laid_back h9 h8 (fun e he => by simpa using p1 e he) (fun e he => by simpa using p2 e he), by
        rw [hA]
        exact List.perm_middle.trans (List.perm_append_singleton c (A1 ++ A2)).symm⟩
      have S3 : Aside (SWK enc k w0 blk off ((X ++ A1) ++ (A2 ++ c :: Y)).toArray wr) := by
        show SWK _ _ _ _ _ _ _
        rw [show (X ++ A1) ++ (A2 ++ c :: Y) = X ++ ((A1 ++ A2) ++ c :: Y) by simp, h7]
        exact S1.out
      have HN : Hid ((X ++ A1).length = i ∧ i + A2.length = m ∧ m + 1 + Y.length = sz) := ⟨by simp; omega, by simp at h2; omega, by omega⟩
      have him : i ≤ m := hjb
      clear S1 HS hpar hmo h1 h2 h3 h4 h5 h6 h7 h8 h9 p1 p2 l1 hA
      go_wp2
      go_loopg [17] (m - i) (fun kx s13 wr => ∃ (t : Nat) (U' Y' : List α), s13 = .int .i64 t ∧ i ≤ t ∧ t ≤ m ∧ t - i ≤ kx ∧ Hid (i + U'.length = t ∧ t + 1 + Y'.length = sz) ∧
        Aside (SWK enc k w0 blk off ((X ++ A1) ++ (U' ++ c :: Y')).toArray wr) ∧ Hid ((X ++ A1) ++ (c :: (U' ++ Y')) = (X ++ A1) ++ (c :: (A2 ++ Y))))
      case atStart => exact ⟨m, A2, Y, rfl, him, Nat.le_refl _, Nat.le_refl _, ⟨HN.out.2.1, HN.out.2.2⟩, S3, rfl⟩
      case round =>
        clear S3
        obtain ⟨t, U', Y', rfl, hit, htm, hkt, HR, S1, HE⟩ := hrel
        by_cases htl : i < t
        · have htz : (i : Int) < (t : Int) := by omega
          obtain ⟨h1, h2⟩ := HR.out
          have hne : U' ≠ [] := by intro e; rw [e] at h1; simp at h1; omega
          obtain ⟨U2, e, rfl⟩ : ∃ U2 e, U' = U2 ++ [e] := ⟨U'.dropLast, U'.getLast hne, (List.dropLast_concat_getLast hne).symm⟩
          obtain ⟨p, hp⟩ : ∃ p, p = t := ⟨_, rfl⟩
          obtain ⟨q, hq⟩ : ∃ q, q = t - 1 := ⟨_, rfl⟩
          have hu2 : i + U2.length = q := by simp at h1; omega
          have cut : (X ++ A1) ++ ((U2 ++ [e]) ++ c :: Y') = (X ++ A1 ++ U2) ++ e :: ([] ++ c :: Y') := by simp
          rw [cut] at S1
          have hxl : (X ++ A1 ++ U2).length = q := by rw [List.length_append, HN.out.1]; exact hu2
          have sw : swp ((X ++ A1 ++ U2) ++ e :: ([] ++ c :: Y')).toArray p q = ((X ++ A1 ++ U2) ++ c :: ([] ++ e :: Y')).toArray := by
            rw [← hxl, show p = (X ++ A1 ++ U2).length + 1 + ([] : List α).length by rw [hxl]; simp; omega]; exact swp_cut' _ _ _ _ _
          have hds2 : ((X ++ A1 ++ U2) ++ e :: ([] ++ c :: Y')).toArray.size = d0.size := by
            rw [HL.out.2.2.2.2.1, List.size_toArray, List.length_append, hxl]; simp; omega
          have hd0 := HL.out.2.2.2.2.1
          have hdsO := hds
          clear hds
          have hds := hds2
          generalize ((X ++ A1 ++ U2) ++ e :: ([] ++ c :: Y')).toArray = dj at S1 sw hds hds2
          have pq : p < dj.size ∧ q < dj.size := by omega
          have rb : IntKind.i64.wrap ((t : Int) - 1) = (q : Int) := by rw [IntKind.wrap_i64]; omega
          have ba : (p : Int) < (sz : Int) := by omega
          have bc : (q : Int) < (sz : Int) := by omega
          have ea : ((p : Nat) : Int).toNat = p := by omega
          have pa : (0 : Int) ≤ (p : Int) := by omega
          have ec : ((q : Nat) : Int).toNat = q := by omega
          have pc : (0 : Int) ≤ (q : Int) := by omega
          have S2 : Aside (SWK enc k w0 blk off (swp dj p q) ((wr.drew.setCells blk (off + p * k) (enc dj[q]!)).setCells blk (off + q * k) (enc dj[p]!))) := S1.out.swapped R p q pq.1 pq.2
          have l1 := S1.out.ld1 R hds P p pq.1
          have l2 := S1.out.ld1 R hds P q pq.2
          have s1 := S1.out.st1 R hds P p pq.1 dj[q]!
          have s2 := S1.out.st2 R hds P p q pq.1 pq.2 dj[q]! dj[p]!
          have n1 : (enc dj[p]!).length = k := R.hk _
          have n2 : (enc dj[q]!).length = k := R.hk _
          generalize enc dj[p]! = cI at S2 l1 s2 n1
          generalize enc dj[q]! = cJ at S2 l2 s1 s2 n2
          subst hp
          have HQ : Hid (p = q + 1 ∧ i + U2.length = q ∧ p + 1 + Y'.length = sz) := ⟨by omega, hu2, h2⟩
          clear S1 pq cut hds hds2 hd0 hq h1 h2 hu2 hdsO hxl hne
          have SW : Hid _ := sw
          clear sw
          go_wp2_with fail
          go_big_region_o
          clear l1 l2 s1 s2
          rw [SW.out] at S2
          generalize (wr.drew.setCells blk (off + p * k) cJ).setCells blk (off + q * k) cI = w2 at S2 ⊢
          go_wp2
          obtain ⟨h1, h2, h3⟩ := HQ.out
          go_roundg (q - i)
          case measure => omega
          case rel =>
            refine ⟨q, U2, e :: Y', by go_num, by omega, by omega, Nat.le_refl _, ⟨h2, by simp; omega⟩, ?_, ?_⟩
            · have e1 : (X ++ A1 ++ U2) ++ c :: ([] ++ e :: Y') = (X ++ A1) ++ (U2 ++ c :: (e :: Y')) := by simp
              rw [e1] at S2
              exact S2
            · show _ = _
              rw [← HE.out]
              simp
        · have htz : ¬ (i : Int) < (t : Int) := by omega
          obtain ⟨h1, h2⟩ := HR.out
          obtain rfl : U' = [] := List.eq_nil_of_length_eq_zero (by omega)
          clear h1 h2
          have HF : Hid (SWK enc k w0 blk off (X ++ ((A1 ++ c :: A2) ++ Y)).toArray wr) := by
            show SWK _ _ _ _ _ _ _
            rw [show X ++ ((A1 ++ c :: A2) ++ Y) = (X ++ A1) ++ (c :: (A2 ++ Y)) by simp, ← HE.out]
            exact S1.out
          clear S1 HE
          go_wp2
          (try simp only [Exit.inBlock, Exit.then])
          refine bodyPost_ret (results_none rfl _ _ _) rfl ?_
          exact ⟨rfl, A1 ++ c :: A2, HM.out.2, HM.out.1, HF.out⟩
end
end Go.Proofs.Ytepmamfbhocjjaa
end
