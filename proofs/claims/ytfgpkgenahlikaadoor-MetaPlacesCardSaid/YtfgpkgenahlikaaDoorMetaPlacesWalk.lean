/-
  The walk of the law MetaPlaces.
-/
import Derived.Test.YtfgpkgenahlikaaDoorMt
import Derived.Test.YtfgpkgenahlikaaDoorHnd
namespace Go.Proofs.YtfgpkgenahlikaaDoor.metaPlaces
open Go.ChangeShapes Go.WideShapes Go.ChangeAt Go.RowKit
set_option linter.unusedVariables false
set_option linter.unusedSimpArgs false

set_option maxRecDepth 100000 in
set_option maxHeartbeats 4000000 in
theorem walk (W : World) (hF : Fours W) (m : Mt) (tx : m.txn < 18446744073709551616) (o : Mt) (tx' : o.txn < 18446744073709551616) :
    Calls Tryd.prog 10 #[m.val, o.val] W fun e w' => e = .returned (.bool true) ∧ Below W.heap.size W w' := by
  have HF := kept hF
  have HRM := fun w => kept (right_m m w)
  have hb0 : Below W.heap.size W ((W.alloc (.cells #[.int .u64 (m.txn : Int), .int .i64 m.root, .int .i64 m.spare, .int .i64 m.size] 50)).alloc (.cells #[.int .u64 (o.txn : Int), .int .i64 o.root, .int .i64 o.spare, .int .i64 o.size] 50)) := ((Below.refl _ _).alloc (Nat.le_refl _) _).alloc (by simp) _
  have HB0 := kept hb0
  have HL0 := kept (lives5 _ (hF.below hb0))
  have hn := (fou_new W 50 m.txn m.root m.spare m.size).keeps (Keeps.alloc _ (.cells #[.int .u64 (o.txn : Int), .int .i64 o.root, .int .i64 o.spare, .int .i64 o.size] 50))
  have hn' := fou_new (W.alloc (.cells #[.int .u64 (m.txn : Int), .int .i64 m.root, .int .i64 m.spare, .int .i64 m.size] 50)) 50 o.txn o.root o.spare o.size
  rw [World.size_alloc] at hn'
  have HN0 := kept (And.intro hn hn')
  obtain ⟨er, her⟩ : ∃ er : Int, (if rightM m then 0 else 4) = er := ⟨_, rfl⟩
  obtain ⟨er', her'⟩ : ∃ er : Int, (if rightM o then 0 else 4) = er := ⟨_, rfl⟩
  have HEM := fun w h => kept (encode_e m er her w tx h)
  have HEO := fun w h => kept (encode_e o er' her' w tx' h)
  have HEQ := fun w => eql_m o o w
  simp only [decide_true] at HEQ
  have HRR := kept (fun h : er ≠ 0 => er_ne her h)
  have HRT := kept (fun h : er = 0 => right_of_er her h)
  have HRT' := kept (fun h : er' = 0 => right_of_er her' h)
  -- what Choose answers of the two pages
  have HCH := fun A B c d xs ys w h1 h2 h3 h4 h5 => kept (choose_m A B 256 256 c d xs ys w h1 h2 h3 h4 h5)
  have HP1 := kept (fun hr hp => places1 (m := m) tx hr hp)
  have HP2 := kept (fun hr hp => places2 (m := m) tx hr hp)
  have HP3 := kept (fun hr ho hp hq => places3 (m := m) (o := o) tx hr tx' ho hp hq)
  have HP4 := kept (fun hr ho hp hq => places4 (m := m) (o := o) tx hr tx' ho hp hq)
  have hZ : ∃ Z : Array Value, Z = (cellsOf (List.replicate 256 0)).toArray := ⟨_, rfl⟩
  obtain ⟨Z, hZ⟩ := hZ
  obtain ⟨i0, hi, hz0, hz1, hz2⟩ := info_parts u8info
  have hmk : ∀ u : World, (Instr.makeSlice 25 (.int .i64 256) (.int .i64 256)).run Tryd.prog u = .ok (.slice (some ⟨u.heap.size, 0, none⟩) 256 256) (u.alloc (.cells Z 5)) := fun u => by
    have h := run_make (P := Tryd.prog) u 25 5 i0 (.int .u8 0) Tryd.underlying25 hi hz0 .i64 .i64 256 256 (by omega) (Int.le_refl _) (by rw [hz2]; omega) (by omega)
    have e : madeCells #[.int .u8 0] 256 = Z := by
      rw [hZ]
      apply Array.toList_inj.1
      rw [toList_madeCells_one]
      generalize 256 = m
      simp [cellsOf, byteV]
    rw [← e]
    simpa [hz1, Value.cells] using h
  have HZR : ∀ u : World, Hid (Rd (u.alloc (.cells Z 5)) (some ⟨u.heap.size, 0, none⟩) 256 (List.replicate 256 0)) := fun u => kept (by
    have := Rd.marked u 5 (List.replicate 256 0) (0, 0)
    rw [hZ]
    rw [List.length_replicate] at this
    exact this)
  have HMK := kept hmk
  obtain ⟨ZL, hZL⟩ : ∃ ZL : List UInt8, List.replicate 256 0 = ZL := ⟨_, rfl⟩
  rw [hZL] at HP1 HP2
  simp only [hZL] at HZR
  have hpar : m.txn % 2 = 0 ∨ ¬ m.txn % 2 = 0 := by omega
  clear hF hb0 hn hn' her her' hi hz0 hz1 hz2 hZ hZL hmk
  obtain ⟨t, r, s, z⟩ := m
  obtain ⟨t', r', s', z'⟩ := o
  simp only at HB0 HL0 HN0 tx tx' hpar
  go_enter Tryd.func10, Tryd.ntmps10
  go_wp2_with fail
  with_reducible refine HL0.out.mono ?_
  rintro e w1 ⟨rfl, hb⟩
  have HB1 := kept (bel_to hb HB0.out)
  have HN1 := kept (And.intro (HN0.out.1.keeps (Keeps.of_below hb)) (HN0.out.2.keeps (Keeps.of_below hb)))
  obtain ⟨n0, n1, n2, n3⟩ := HN1.out.1
  clear hb
  go_wp2_with fail
  with_reducible refine (HEM _ (HF.out.below HB1.out)).out.mono ?_
  rintro e w2 ⟨A2, k2, c2, rfl, HR2, hb⟩
  have HB2 := kept (bel_to hb HB1.out)
  have HN2 := kept (And.intro (HN1.out.1.keeps (Keeps.of_below hb)) (HN1.out.2.keeps (Keeps.of_below hb)))
  clear hb n0 n1 n2 n3
  obtain ⟨n0, n1, n2, n3⟩ := HN2.out.2
  go_wp2_with fail
  with_reducible refine (HEO _ (HF.out.below HB2.out)).out.mono ?_
  rintro e w3 ⟨A3, k3, c3, rfl, HR3, hb⟩
  have HB3 := kept (bel_to hb HB2.out)
  have HN3 := kept (And.intro (HN2.out.1.keeps (Keeps.of_below hb)) (HN2.out.2.keeps (Keeps.of_below hb)))
  have HKB := kept hb
  clear hb n0 n1 n2 n3
  by_cases h0 : er = 0
  · subst h0
    obtain ⟨rfl, hc2, hr2⟩ := HR2.out rfl
    have hrm := HRT.out rfl
    have HRM2 := kept hrm
    have HRA := kept (hr2.below HKB.out)
    clear HRR HRM HRT
    go_wp2_with fail
    have hmk := HMK.out
    go_region
    have hk4 : Keeps w3 (w3.alloc (.cells Z 5)).drew := (Keeps.alloc _ _).trans (Keeps.drew _)
    have hz4 : Rd (w3.alloc (.cells Z 5)).drew (some ⟨w3.heap.size, 0, none⟩) 256 ZL := (HZR w3).out.keeps (Keeps.drew _)
    have hb4 : Below W.heap.size W (w3.alloc (.cells Z 5)).drew := (HB3.out.alloc HB3.out.size _).drew
    have HRA0 := HRA.out
    generalize (w3.alloc (.cells Z 5)).drew = w4 at hk4 hz4 hb4 ⊢
    have HK4 := kept hk4
    have HZ4 := kept hz4
    have HB4 := kept hb4
    have HN4 := kept (And.intro (HN3.out.1.keeps hk4) (HN3.out.2.keeps hk4))
    have HF4 := kept (HF.out.below hb4)
    have HRA := kept (HRA0.keeps hk4)
    clear hk4 hz4 hb4 HRA0 hmk hr2
    rcases hpar with hp | hp
    · have hc := (HCH _ A2 256 c2 ZL (sealed (bodyM ⟨t, r, s, z⟩)) w4 HZ4.out (Nat.le_refl _) HRA.out hc2 HF4.out).out
      rw [HP1.out hrm hp] at hc
      have HC := kept (show Calls _ _ _ _ (fun e w' => e = .returned (.tuple #[.agg #[.int .u64 0, .int .i64 0, .int .i64 0, .int .i64 0], .int .i64 7]) ∧ Below w4.heap.size w4 w') from hc)
      have hpI : (t : Int) % 2 = 0 := by omega
      obtain ⟨n0, n1, n2, n3⟩ := HN4.out.1
      clear hc
      go_wp2_with fail
      with_reducible refine HC.out.mono ?_
      rintro e w5 ⟨rfl, hb⟩
      have HB5 := kept ((bel_to hb HB4.out).alloc (bel_to hb HB4.out).size (.cells #[.int .u64 0, .int .i64 0, .int .i64 0, .int .i64 0] 50))
      have HN5 := kept (And.intro ((HN4.out.1.keeps (Keeps.of_below hb)).keeps (Keeps.alloc w5 (.cells #[.int .u64 0, .int .i64 0, .int .i64 0, .int .i64 0] 50))) ((HN4.out.2.keeps (Keeps.of_below hb)).keeps (Keeps.alloc w5 (.cells #[.int .u64 0, .int .i64 0, .int .i64 0, .int .i64 0] 50))))
      have HRA5 := kept ((HRA.out.below hb).alloc (.cells #[.int .u64 0, .int .i64 0, .int .i64 0, .int .i64 0] 50))
      have HK5 := kept ((Keeps.of_below hb).trans (Keeps.alloc w5 (.cells #[.int .u64 0, .int .i64 0, .int .i64 0, .int .i64 0] 50)))
      clear hb n0 n1 n2 n3
      obtain ⟨n0, n1, n2, n3⟩ := HN5.out.1
      obtain ⟨q0, q1, q2, q3⟩ := HN5.out.2
      by_cases h1 : er' = 0
      · subst h1
        obtain ⟨rfl, hc3, hr3⟩ := HR3.out rfl
        have hro := HRT'.out rfl
        by_cases hq : t' % 2 = t % 2
        · have hqI : (t' : Int) % 2 = 0 := by omega
          have HR6 := kept (And.intro HRA5.out ((hr3.keeps HK4.out).keeps HK5.out))
          have HF6 := kept (HF.out.below HB5.out)
          have hc := (HCH A3 A2 c3 c2 (sealed (bodyM ⟨t', r', s', z'⟩)) (sealed (bodyM ⟨t, r, s, z⟩)) _ HR6.out.2 hc3 HR6.out.1 hc2 HF6.out).out
          rw [HP3.out hrm hro hp hq] at hc
          have HC2 := kept (show Calls _ _ _ _ (fun e w' => e = .returned (.tuple #[.agg #[.int .u64 (t' : Int), .int .i64 r', .int .i64 s', .int .i64 z'], .int .i64 0]) ∧ Below (w5.alloc (.cells #[.int .u64 0, .int .i64 0, .int .i64 0, .int .i64 0] 50)).heap.size (w5.alloc (.cells #[.int .u64 0, .int .i64 0, .int .i64 0, .int .i64 0] 50)) w') from hc)
          clear hc hr3 HR3 HCH HP1 HP2 HP3 HP4
          go_wp2_with fail
          with_reducible refine HC2.out.mono ?_
          rintro e w6 ⟨rfl, hb⟩
          have HB7 := kept ((bel_to hb HB5.out).alloc (bel_to hb HB5.out).size (.cells #[.int .u64 (t' : Int), .int .i64 r', .int .i64 s', .int .i64 z'] 50))
          clear n0 n1 n2 n3 q0 q1 q2 q3
          obtain ⟨q0, q1, q2, q3⟩ := (HN5.out.2.keeps (Keeps.of_below hb)).keeps (Keeps.alloc w6 (.cells #[.int .u64 (t' : Int), .int .i64 r', .int .i64 s', .int .i64 z'] 50))
          clear hb
          go_wp2
          go_ret
          exact ⟨rfl, HB7.out⟩
        · have hqI : (((t' : Int) % 2) != 0) = true := by rw [bne_iff_ne]; omega
          clear hr3 HR3 HCH HP1 HP2 HP3 HP4
          go_wp2
          go_ret
          exact ⟨rfl, HB5.out⟩
      · have hg : (er' != 0) = true := by rw [bne_iff_ne]; exact h1
        clear HR3 HCH HP1 HP2 HP3 HP4
        go_wp2
        go_ret
        exact ⟨rfl, HB5.out⟩
    · have hc := (HCH A2 _ c2 256 (sealed (bodyM ⟨t, r, s, z⟩)) ZL w4 HRA.out hc2 HZ4.out (Nat.le_refl _) HF4.out).out
      rw [HP2.out hrm hp] at hc
      have HC := kept (show Calls _ _ _ _ (fun e w' => e = .returned (.tuple #[.agg #[.int .u64 0, .int .i64 0, .int .i64 0, .int .i64 0], .int .i64 7]) ∧ Below w4.heap.size w4 w') from hc)
      have hpI : (t : Int) % 2 = 1 := by omega
      obtain ⟨n0, n1, n2, n3⟩ := HN4.out.1
      clear hc
      go_wp2_with fail
      with_reducible refine HC.out.mono ?_
      rintro e w5 ⟨rfl, hb⟩
      have HB5 := kept ((bel_to hb HB4.out).alloc (bel_to hb HB4.out).size (.cells #[.int .u64 0, .int .i64 0, .int .i64 0, .int .i64 0] 50))
      have HN5 := kept (And.intro ((HN4.out.1.keeps (Keeps.of_below hb)).keeps (Keeps.alloc w5 (.cells #[.int .u64 0, .int .i64 0, .int .i64 0, .int .i64 0] 50))) ((HN4.out.2.keeps (Keeps.of_below hb)).keeps (Keeps.alloc w5 (.cells #[.int .u64 0, .int .i64 0, .int .i64 0, .int .i64 0] 50))))
      have HRA5 := kept ((HRA.out.below hb).alloc (.cells #[.int .u64 0, .int .i64 0, .int .i64 0, .int .i64 0] 50))
      have HK5 := kept ((Keeps.of_below hb).trans (Keeps.alloc w5 (.cells #[.int .u64 0, .int .i64 0, .int .i64 0, .int .i64 0] 50)))
      clear hb n0 n1 n2 n3
      obtain ⟨n0, n1, n2, n3⟩ := HN5.out.1
      obtain ⟨q0, q1, q2, q3⟩ := HN5.out.2
      by_cases h1 : er' = 0
      · subst h1
        obtain ⟨rfl, hc3, hr3⟩ := HR3.out rfl
        have hro := HRT'.out rfl
        by_cases hq : t' % 2 = t % 2
        · have hqI : (t' : Int) % 2 = 1 := by omega
          have HR6 := kept (And.intro HRA5.out ((hr3.keeps HK4.out).keeps HK5.out))
          have HF6 := kept (HF.out.below HB5.out)
          have hc := (HCH A2 A3 c2 c3 (sealed (bodyM ⟨t, r, s, z⟩)) (sealed (bodyM ⟨t', r', s', z'⟩)) _ HR6.out.1 hc2 HR6.out.2 hc3 HF6.out).out
          rw [HP4.out hrm hro hp hq] at hc
          have HC2 := kept (show Calls _ _ _ _ (fun e w' => e = .returned (.tuple #[.agg #[.int .u64 (t' : Int), .int .i64 r', .int .i64 s', .int .i64 z'], .int .i64 0]) ∧ Below (w5.alloc (.cells #[.int .u64 0, .int .i64 0, .int .i64 0, .int .i64 0] 50)).heap.size (w5.alloc (.cells #[.int .u64 0, .int .i64 0, .int .i64 0, .int .i64 0] 50)) w') from hc)
          clear hc hr3 HR3 HCH HP1 HP2 HP3 HP4
          go_wp2_with fail
          with_reducible refine HC2.out.mono ?_
          rintro e w6 ⟨rfl, hb⟩
          have HB7 := kept ((bel_to hb HB5.out).alloc (bel_to hb HB5.out).size (.cells #[.int .u64 (t' : Int), .int .i64 r', .int .i64 s', .int .i64 z'] 50))
          clear n0 n1 n2 n3 q0 q1 q2 q3
          obtain ⟨q0, q1, q2, q3⟩ := (HN5.out.2.keeps (Keeps.of_below hb)).keeps (Keeps.alloc w6 (.cells #[.int .u64 (t' : Int), .int .i64 r', .int .i64 s', .int .i64 z'] 50))
          clear hb
          go_wp2
          go_ret
          exact ⟨rfl, HB7.out⟩
        · have hqI : (((t' : Int) % 2) != 1) = true := by rw [bne_iff_ne]; omega
          clear hr3 HR3 HCH HP1 HP2 HP3 HP4
          go_wp2
          go_ret
          exact ⟨rfl, HB5.out⟩
      · have hg : (er' != 0) = true := by rw [bne_iff_ne]; exact h1
        clear HR3 HCH HP1 HP2 HP3 HP4
        go_wp2
        go_ret
        exact ⟨rfl, HB5.out⟩
  · have hg : (er != 0) = true := by rw [bne_iff_ne]; exact h0
    have hrr := HRR.out h0
    rw [hrr] at HRM
    obtain ⟨n0, n1, n2, n3⟩ := HN3.out.1
    clear h0 hrr HR2 HR3
    go_wp2_with (first | (go_at_call 28; (with_reducible refine ((HRM _).out).mono ?_); rintro e w5 ⟨rfl, hb⟩; have HB5 := kept (bel_to hb HB3.out); clear hb))
    go_ret
    exact ⟨rfl, HB5.out⟩
end Go.Proofs.YtfgpkgenahlikaaDoor.metaPlaces
