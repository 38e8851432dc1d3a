/-
  meta.standing and meta.Choose: which meta counts.
-/
import Derived.Test.YtfgpkgenahlikaaDoorMd
namespace Go.Proofs.YtfgpkgenahlikaaDoor
open Go.ChangeShapes Go.WideShapes Go.ChangeAt Go.RowKit
set_option linter.unusedVariables false
set_option linter.unusedSimpArgs false

/-- The meta that stands at its place, if one does. -/
def standM (xs : List UInt8) (k : Int) : Mt × Bool := if (decM xs).2 = 0 ∧ (((decM xs).1.txn % 2 : Nat) : Int) = k then ((decM xs).1, true) else (zeroMt, false)
def chooseM (xs ys : List UInt8) : Mt × Int :=
  if (standM ys 1).2 && (!(standM xs 0).2 || decide ((standM xs 0).1.txn < (standM ys 1).1.txn)) then ((standM ys 1).1, 0)
  else if (standM xs 0).2 then ((standM xs 0).1, 0) else (zeroMt, 7)
set_option maxRecDepth 100000 in
set_option maxHeartbeats 2000000 in
theorem stand_m (A : Option Addr) (n c : Nat) (xs : List UInt8) (k : Int) (w : World) (hr : Rd w A n xs) (hc : n ≤ c) (hf : Fours w) :
    Calls Tryd.prog 63 #[.slice A n c, .int .u64 k] w fun e w' => e = .returned (.tuple #[(standM xs k).1.val, .bool (standM xs k).2]) ∧ Below w.heap.size w w' := by
  have HDC := fun o => kept (decode_m A n c xs (w.alloc o) (hr.alloc o) hc (hf.alloc o))
  have htx := decM_txn xs
  have HS : Hid (standM xs k = if (decM xs).2 = 0 ∧ (((decM xs).1.txn % 2 : Nat) : Int) = k then ((decM xs).1, true) else (zeroMt, false)) := rfl
  generalize standM xs k = S at HS
  generalize decM xs = D at HDC HS htx
  obtain ⟨⟨t, r, s, z⟩, err⟩ := D
  simp only at htx HDC HS
  clear hr hf
  by_cases he : err = 0
  · subst he
    by_cases hp : ((t % 2 : Nat) : Int) = k
    · have HSS : Hid (S = (⟨t, r, s, z⟩, true)) := by show _ = _; rw [HS.out, if_pos ⟨by rfl, hp⟩]
      have HPL := fun w => kept (place_any t r s z w htx)
      rw [hp] at HPL
      clear hp htx
      go_enter Tryd.func63, Tryd.ntmps63
      go_wp2_with fail
      with_reducible refine (HDC _).out.mono ?_
      rintro e w1 ⟨rfl, hb⟩
      have HQ1 := kept ((Blk.new w 50 #[.int .u64 0, .int .i64 0, .int .i64 0, .int .i64 0]).below hb (by simp))
      have HB1 := kept (bel_to hb ((Below.refl _ w).alloc (Nat.le_refl _) _))
      have HN1 := kept (fou_new w1 50 t r s z)
      clear hb
      go_wp2_with fail
      with_reducible refine (HPL _).out.mono ?_
      rintro e w2 ⟨rfl, hb⟩
      obtain ⟨n0, n1, n2, n3⟩ := HN1.out.keeps (Keeps.of_below hb)
      have hq2 := (HQ1.out.alloc _).below hb (HQ1.out.alloc _).lt
      have HB2 := kept (bel_to hb (HB1.out.alloc HB1.out.size _))
      have hne : w1.heap.size ≠ w.heap.size := by have := HQ1.out.lt; omega
      obtain ⟨e0, e1, e2, e3⟩ := hq2.fou
      have f0 := hq2.frozen 0
      have f1 := hq2.frozen 1
      have f2 := hq2.frozen 2
      have f3 := hq2.frozen 3
      have HQ2 := kept hq2
      clear hb hq2
      go_wp2
      have hx := store4 HQ2.out HB2.out (Nat.le_refl _) (.int .u64 (t : Int)) (.int .i64 r) (.int .i64 s) (.int .i64 z)
      generalize (((w2.setCell ⟨w.heap.size, 0, none⟩ (.int .u64 (t : Int))).setCell ⟨w.heap.size, 1, none⟩ (.int .i64 r)).setCell ⟨w.heap.size, 2, none⟩ (.int .i64 s)).setCell ⟨w.heap.size, 3, none⟩ (.int .i64 z) = X at hx ⊢
      obtain ⟨v0, v1, v2, v3, hbx⟩ := hx
      exact bodyPost_ret (v := .tuple #[.agg #[.int .u64 (t : Int), .int .i64 r, .int .i64 s, .int .i64 z], .bool true]) (by simp [results, Tryd.results63, go_sem, v0, v1, v2, v3]) rfl ⟨by rw [HSS.out], hbx⟩
    · have HSS : Hid (S = (zeroMt, false)) := by show _ = _; rw [HS.out, if_neg (fun h => hp h.2)]
      have HPL := fun w => kept (place_any t r s z w htx)
      have hg : (((t % 2 : Nat) : Int) != k) = true := by rw [bne_iff_ne]; exact hp
      generalize ((t % 2 : Nat) : Int) = v at HPL hg
      clear hp htx
      go_enter Tryd.func63, Tryd.ntmps63
      go_wp2_with fail
      with_reducible refine (HDC _).out.mono ?_
      rintro e w1 ⟨rfl, hb⟩
      have HQ1 := kept ((Blk.new w 50 #[.int .u64 0, .int .i64 0, .int .i64 0, .int .i64 0]).below hb (by simp))
      have HB1 := kept (bel_to hb ((Below.refl _ w).alloc (Nat.le_refl _) _))
      clear hb
      go_wp2_with fail
      with_reducible refine (HPL _).out.mono ?_
      rintro e w2 ⟨rfl, hb⟩
      have hq2 := (HQ1.out.alloc _).below hb (HQ1.out.alloc _).lt
      have HB2 := kept (bel_to hb (HB1.out.alloc HB1.out.size _))
      obtain ⟨e0, e1, e2, e3⟩ := hq2.fou
      have f0 := hq2.frozen 0
      have f1 := hq2.frozen 1
      have f2 := hq2.frozen 2
      have f3 := hq2.frozen 3
      have HQ2 := kept hq2
      clear hb hq2
      go_wp2
      have hx := store4 HQ2.out HB2.out (Nat.le_refl _) (.int .u64 0) (.int .i64 0) (.int .i64 0) (.int .i64 0)
      generalize (((w2.setCell ⟨w.heap.size, 0, none⟩ (.int .u64 0)).setCell ⟨w.heap.size, 1, none⟩ (.int .i64 0)).setCell ⟨w.heap.size, 2, none⟩ (.int .i64 0)).setCell ⟨w.heap.size, 3, none⟩ (.int .i64 0) = X at hx ⊢
      obtain ⟨v0, v1, v2, v3, hbx⟩ := hx
      exact bodyPost_ret (v := .tuple #[zeroV5, .bool false]) (by simp [results, Tryd.results63, go_sem, v0, v1, v2, v3]) rfl ⟨by rw [HSS.out]; rfl, hbx⟩
  · have HSS : Hid (S = (zeroMt, false)) := by show _ = _; rw [HS.out, if_neg (fun h => he h.1)]
    have hg : (err != 0) = true := by rw [bne_iff_ne]; exact he
    clear he htx
    go_enter Tryd.func63, Tryd.ntmps63
    go_wp2_with fail
    with_reducible refine (HDC _).out.mono ?_
    rintro e w1 ⟨rfl, hb⟩
    have hq1 := ((Blk.new w 50 #[.int .u64 0, .int .i64 0, .int .i64 0, .int .i64 0]).below hb (by simp))
    have HB1 := kept (bel_to hb ((Below.refl _ w).alloc (Nat.le_refl _) _))
    have HB2 := fun o => kept (HB1.out.alloc HB1.out.size o)
    have HQ2 := fun o => kept (hq1.alloc o)
    have hne : w.heap.size ≠ w1.heap.size := by have := hq1.lt; omega
    obtain ⟨e0, e1, e2, e3⟩ := (hq1.alloc (.cells #[.int .u64 (t : Int), .int .i64 r, .int .i64 s, .int .i64 z] 50)).fou
    have f0 := (hq1.alloc (.cells #[.int .u64 (t : Int), .int .i64 r, .int .i64 s, .int .i64 z] 50)).frozen 0
    have f1 := (hq1.alloc (.cells #[.int .u64 (t : Int), .int .i64 r, .int .i64 s, .int .i64 z] 50)).frozen 1
    have f2 := (hq1.alloc (.cells #[.int .u64 (t : Int), .int .i64 r, .int .i64 s, .int .i64 z] 50)).frozen 2
    have f3 := (hq1.alloc (.cells #[.int .u64 (t : Int), .int .i64 r, .int .i64 s, .int .i64 z] 50)).frozen 3
    clear hb hq1
    go_wp2
    have hx := store4 (HQ2 (.cells #[.int .u64 (t : Int), .int .i64 r, .int .i64 s, .int .i64 z] 50)).out (HB2 _).out (Nat.le_refl _) (.int .u64 0) (.int .i64 0) (.int .i64 0) (.int .i64 0)
    generalize ((((w1.alloc (.cells #[.int .u64 (t : Int), .int .i64 r, .int .i64 s, .int .i64 z] 50)).setCell ⟨w.heap.size, 0, none⟩ (.int .u64 0)).setCell ⟨w.heap.size, 1, none⟩ (.int .i64 0)).setCell ⟨w.heap.size, 2, none⟩ (.int .i64 0)).setCell ⟨w.heap.size, 3, none⟩ (.int .i64 0) = X at hx ⊢
    obtain ⟨v0, v1, v2, v3, hbx⟩ := hx
    exact bodyPost_ret (v := .tuple #[zeroV5, .bool false]) (by simp [results, Tryd.results63, go_sem, v0, v1, v2, v3]) rfl ⟨by rw [HSS.out]; rfl, hbx⟩
set_option maxRecDepth 100000 in
set_option maxHeartbeats 4000000 in
theorem choose_m (A B : Option Addr) (n m c d : Nat) (xs ys : List UInt8) (w : World) (hr : Rd w A n xs) (hc : n ≤ c) (hs : Rd w B m ys) (hd : m ≤ d) (hf : Fours w) :
    Calls Tryd.prog 32 #[.slice A n c, .slice B m d] w fun e w' => e = .returned (.tuple #[(chooseM xs ys).1.val, .int .i64 (chooseM xs ys).2]) ∧ Below w.heap.size w w' := by
  have HE := fun o => kept (stand_m A n c xs 0 (w.alloc o) (hr.alloc o) hc (hf.alloc o))
  have HR := kept hs
  have HF := kept hf
  have HO := fun W h1 h2 => kept (stand_m B m d ys 1 W h1 hd h2)
  have HC : Hid (chooseM xs ys = if (standM ys 1).2 && (!(standM xs 0).2 || decide ((standM xs 0).1.txn < (standM ys 1).1.txn)) then ((standM ys 1).1, 0) else if (standM xs 0).2 then ((standM xs 0).1, 0) else (zeroMt, 7)) := rfl
  generalize chooseM xs ys = C at HC
  generalize standM xs 0 = E at HE HC
  generalize standM ys 1 = O at HO HC
  obtain ⟨⟨t, r, s, z⟩, eb⟩ := E
  obtain ⟨⟨t', r', s', z'⟩, ob⟩ := O
  simp only at HE HO HC
  clear hr hs hf
  have h3 : ∃ k : Nat, k < 3 ∧ ((k = 0 ∧ ob = true ∧ (eb = false ∨ (eb = true ∧ t < t')) ∧ Hid (C = (⟨t', r', s', z'⟩, 0))) ∨ (k = 1 ∧ eb = true ∧ (ob = false ∨ (ob = true ∧ ¬ t < t')) ∧ Hid (C = (⟨t, r, s, z⟩, 0))) ∨ (k = 2 ∧ eb = false ∧ ob = false ∧ Hid (C = (zeroMt, 7)))) := by
    have hC := HC.out
    cases eb <;> cases ob
    · exact ⟨2, by omega, .inr (.inr ⟨rfl, rfl, rfl, kept (by simpa using hC)⟩)⟩
    · exact ⟨0, by omega, .inl ⟨rfl, rfl, .inl rfl, kept (by simpa using hC)⟩⟩
    · exact ⟨1, by omega, .inr (.inl ⟨rfl, rfl, .inl rfl, kept (by simpa using hC)⟩)⟩
    · by_cases hlt : t < t'
      · exact ⟨0, by omega, .inl ⟨rfl, rfl, .inr ⟨rfl, hlt⟩, kept (by simpa [hlt] using hC)⟩⟩
      · exact ⟨1, by omega, .inr (.inl ⟨rfl, rfl, .inr ⟨rfl, hlt⟩, kept (by simpa [hlt] using hC)⟩)⟩
  clear HC
  obtain ⟨_, _, h3⟩ := h3
  go_enter Tryd.func32, Tryd.ntmps32
  go_wp2_with fail
  with_reducible refine (HE _).out.mono ?_
  rintro e w1 ⟨rfl, hb⟩
  have HQ1 := kept ((Blk.new w 50 #[.int .u64 0, .int .i64 0, .int .i64 0, .int .i64 0]).below hb (by simp))
  have HB1 := kept (bel_to hb ((Below.refl _ w).alloc (Nat.le_refl _) _))
  have HN1 := kept (fou_new w1 50 t r s z)
  have HB1a := fun o => kept (HB1.out.alloc HB1.out.size o)
  have HOO := fun o => kept (HO (w1.alloc o) (HR.out.below (HB1a o).out) (HF.out.below (HB1a o).out)).out
  clear hb
  go_wp2_with fail
  with_reducible refine (HOO _).out.mono ?_
  rintro e w2 ⟨rfl, hb⟩
  have hq2 := (HQ1.out.alloc _).below hb (HQ1.out.alloc _).lt
  have hn2 := HN1.out.keeps (Keeps.of_below hb)
  have hb2 := bel_to hb (HB1a _).out
  have hlt1 : w1.heap.size < w2.heap.size := by have := hb.size; rw [World.size_alloc] at this; omega
  have hne1 : w.heap.size ≠ w1.heap.size := by have := HQ1.out.lt; omega
  have hne2 : w.heap.size ≠ w2.heap.size := by have := HQ1.out.lt; omega
  have hne3 : w1.heap.size ≠ w2.heap.size := by omega
  have HBX := fun o => kept (hb2.alloc hb2.size o)
  have HQX := fun o => kept (hq2.alloc o)
  obtain ⟨n0, n1, n2, n3⟩ := hn2.keeps (Keeps.alloc w2 (.cells #[.int .u64 (t' : Int), .int .i64 r', .int .i64 s', .int .i64 z'] 50))
  obtain ⟨e0, e1, e2, e3⟩ := (HQX (.cells #[.int .u64 (t' : Int), .int .i64 r', .int .i64 s', .int .i64 z'] 50)).out.fou
  have f0 := (HQX (.cells #[.int .u64 (t' : Int), .int .i64 r', .int .i64 s', .int .i64 z'] 50)).out.frozen 0
  have f1 := (HQX (.cells #[.int .u64 (t' : Int), .int .i64 r', .int .i64 s', .int .i64 z'] 50)).out.frozen 1
  have f2 := (HQX (.cells #[.int .u64 (t' : Int), .int .i64 r', .int .i64 s', .int .i64 z'] 50)).out.frozen 2
  have f3 := (HQX (.cells #[.int .u64 (t' : Int), .int .i64 r', .int .i64 s', .int .i64 z'] 50)).out.frozen 3
  clear hb hq2 hn2 hb2
  rcases h3 with ⟨rfl, rfl, hw, HCC⟩ | ⟨rfl, rfl, hw, HCC⟩ | ⟨rfl, rfl, rfl, HCC⟩
  · rcases hw with rfl | ⟨rfl, hlt⟩
    all_goals
      go_wp2
      have hx := store4 (HQX (.cells #[.int .u64 (t' : Int), .int .i64 r', .int .i64 s', .int .i64 z'] 50)).out (HBX _).out (Nat.le_refl _) (.int .u64 (t' : Int)) (.int .i64 r') (.int .i64 s') (.int .i64 z')
      generalize ((((w2.alloc (.cells #[.int .u64 (t' : Int), .int .i64 r', .int .i64 s', .int .i64 z'] 50)).setCell ⟨w.heap.size, 0, none⟩ (.int .u64 (t' : Int))).setCell ⟨w.heap.size, 1, none⟩ (.int .i64 r')).setCell ⟨w.heap.size, 2, none⟩ (.int .i64 s')).setCell ⟨w.heap.size, 3, none⟩ (.int .i64 z') = X at hx ⊢
      obtain ⟨v0, v1, v2, v3, hbx⟩ := hx
      exact bodyPost_ret (v := .tuple #[.agg #[.int .u64 (t' : Int), .int .i64 r', .int .i64 s', .int .i64 z'], .int .i64 0]) (by simp [results, Tryd.results32, go_sem, v0, v1, v2, v3]) rfl ⟨by rw [HCC.out], hbx⟩
  · rcases hw with rfl | ⟨rfl, hlt⟩
    all_goals
      go_wp2
      have hx := store4 (HQX (.cells #[.int .u64 (t' : Int), .int .i64 r', .int .i64 s', .int .i64 z'] 50)).out (HBX _).out (Nat.le_refl _) (.int .u64 (t : Int)) (.int .i64 r) (.int .i64 s) (.int .i64 z)
      generalize ((((w2.alloc (.cells #[.int .u64 (t' : Int), .int .i64 r', .int .i64 s', .int .i64 z'] 50)).setCell ⟨w.heap.size, 0, none⟩ (.int .u64 (t : Int))).setCell ⟨w.heap.size, 1, none⟩ (.int .i64 r)).setCell ⟨w.heap.size, 2, none⟩ (.int .i64 s)).setCell ⟨w.heap.size, 3, none⟩ (.int .i64 z) = X at hx ⊢
      obtain ⟨v0, v1, v2, v3, hbx⟩ := hx
      exact bodyPost_ret (v := .tuple #[.agg #[.int .u64 (t : Int), .int .i64 r, .int .i64 s, .int .i64 z], .int .i64 0]) (by simp [results, Tryd.results32, go_sem, v0, v1, v2, v3]) rfl ⟨by rw [HCC.out], hbx⟩
  · go_wp2
    have hx := store4 (HQX (.cells #[.int .u64 (t' : Int), .int .i64 r', .int .i64 s', .int .i64 z'] 50)).out (HBX _).out (Nat.le_refl _) (.int .u64 0) (.int .i64 0) (.int .i64 0) (.int .i64 0)
    generalize ((((w2.alloc (.cells #[.int .u64 (t' : Int), .int .i64 r', .int .i64 s', .int .i64 z'] 50)).setCell ⟨w.heap.size, 0, none⟩ (.int .u64 0)).setCell ⟨w.heap.size, 1, none⟩ (.int .i64 0)).setCell ⟨w.heap.size, 2, none⟩ (.int .i64 0)).setCell ⟨w.heap.size, 3, none⟩ (.int .i64 0) = X at hx ⊢
    obtain ⟨v0, v1, v2, v3, hbx⟩ := hx
    exact bodyPost_ret (v := .tuple #[zeroV5, .int .i64 7]) (by simp [results, Tryd.results32, go_sem, v0, v1, v2, v3]) rfl ⟨by rw [HCC.out]; rfl, hbx⟩
end Go.Proofs.YtfgpkgenahlikaaDoor
