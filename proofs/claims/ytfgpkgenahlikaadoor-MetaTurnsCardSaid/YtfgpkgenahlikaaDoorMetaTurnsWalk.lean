/-
  The walk of the law MetaTurns.
-/
import Derived.Test.YtfgpkgenahlikaaDoorMt
import Derived.Test.YtfgpkgenahlikaaDoorHnd
namespace Go.Proofs.YtfgpkgenahlikaaDoor.metaTurns
open Go.ChangeShapes Go.WideShapes Go.ChangeAt Go.RowKit
set_option linter.unusedVariables false
set_option linter.unusedSimpArgs false

theorem wp_append_to {P : Program} {w : World} {o : Oper} {a : Act} {K : Act → World → Prop} {Q : Exit → Act → World → Prop} (s x : Operand) (t : TypeId)
    (ho : o.op = .call { callee := .builtin .append, args := #[s, x], argTypes := #[t, t] })
    (base : Nat) (e : TypeId) {n : Nat} {xs : List UInt8} {v : Value} {A : Option Addr} {m c : Nat} {ys : List UInt8} (hs : a.eval s = v) (hx : a.eval x = .slice A m c)
    (ht : P.underlying t = some (.slice e)) (hinfo : (P.info? e).map (fun i => (i.zero, i.size, i.bytes)) = some (some (.int .u8 0), 1, 1)) (hown : w.ownsRow base e 1 v n (cellsOf xs)) (hr : Rd w A m ys)
    (hm : n + m ≤ 140737488355328) (hbase : base ≤ w.heap.size) (tot : Nat) (zs : List UInt8) (htot : n + m = tot) (hz : xs ++ ys = zs)
    (h : ∀ A' c' w', w'.ownsRow base e 1 (.slice A' tot c') tot (cellsOf zs) → Below base w w' → K (a.put o.dst (.slice A' tot c')) w') : o.wp P a w K Q := by
  subst htot hz
  exact wp_append_rd s x t ho base e hs hx ht hinfo hown hr hm hbase h
abbrev Bx (W : World) (t : Nat) (r s z : Int) (t' : Nat) (r' s' z' : Int) (t'' : Nat) (r'' s'' z'' : Int) : World :=
  ((W.alloc (.cells #[.int .u64 (t : Int), .int .i64 r, .int .i64 s, .int .i64 z] 50)).alloc (.cells #[.int .u64 (t' : Int), .int .i64 r', .int .i64 s', .int .i64 z'] 50)).alloc (.cells #[.int .u64 (t'' : Int), .int .i64 r'', .int .i64 s'', .int .i64 z''] 50)
/-- The three boxes. -/
def Tri (b : Nat) (X : World) (e l n : Mt) : Prop := Blk X b 50 [.int .u64 (e.txn : Int), .int .i64 e.root, .int .i64 e.spare, .int .i64 e.size] ∧ Blk X (b + 1) 50 [.int .u64 (l.txn : Int), .int .i64 l.root, .int .i64 l.spare, .int .i64 l.size] ∧ Blk X (b + 1 + 1) 50 [.int .u64 (n.txn : Int), .int .i64 n.root, .int .i64 n.spare, .int .i64 n.size]
theorem Tri.below {b : Nat} {X Y : World} {e l n : Mt} (h : Tri b X e l n) (hb : Below X.heap.size X Y) : Tri b Y e l n := ⟨h.1.below hb h.1.lt, h.2.1.below hb h.2.1.lt, h.2.2.below hb h.2.2.lt⟩
theorem tri_new (W : World) (e l n : Mt) : Tri W.heap.size (Bx W e.txn e.root e.spare e.size l.txn l.root l.spare l.size n.txn n.root n.spare n.size) e l n ∧ Below W.heap.size W (Bx W e.txn e.root e.spare e.size l.txn l.root l.spare l.size n.txn n.root n.spare n.size) := by
  refine ⟨⟨((Blk.new W 50 #[.int .u64 (e.txn : Int), .int .i64 e.root, .int .i64 e.spare, .int .i64 e.size]).alloc _).alloc _, ?_, ?_⟩, (((Below.refl _ _).alloc (Nat.le_refl _) _).alloc (by simp) _).alloc (by simp; omega) _⟩
  · have h := (Blk.new (W.alloc (.cells #[.int .u64 (e.txn : Int), .int .i64 e.root, .int .i64 e.spare, .int .i64 e.size] 50)) 50 #[.int .u64 (l.txn : Int), .int .i64 l.root, .int .i64 l.spare, .int .i64 l.size]).alloc (.cells #[.int .u64 (n.txn : Int), .int .i64 n.root, .int .i64 n.spare, .int .i64 n.size] 50)
    rw [World.size_alloc] at h
    exact h
  · have h := Blk.new ((W.alloc (.cells #[.int .u64 (e.txn : Int), .int .i64 e.root, .int .i64 e.spare, .int .i64 e.size] 50)).alloc (.cells #[.int .u64 (l.txn : Int), .int .i64 l.root, .int .i64 l.spare, .int .i64 l.size] 50)) 50 #[.int .u64 (n.txn : Int), .int .i64 n.root, .int .i64 n.spare, .int .i64 n.size]
    rw [World.size_alloc, World.size_alloc] at h
    exact h
set_option maxRecDepth 100000 in
set_option maxHeartbeats 4000000 in
theorem walk (W : World) (hF : Fours W) (m0 : Mt) (tx0 : m0.txn < 18446744073709551616) (m1 : Mt) (tx1 : m1.txn < 18446744073709551616) (m2 : Mt) (tx2 : m2.txn < 18446744073709551616) (a3 : Int) (w3 : (Lit.int .i64 a3).wf = true) :
    Calls Tryd.prog 9 #[m0.val, m1.val, m2.val, .int .i64 a3] W fun e w' => e = .returned (.bool true) ∧ Below W.heap.size W w' := by
  have HF := kept hF
  obtain ⟨htr, hb0⟩ := tri_new W m0 m1 m2
  have HT0 := kept htr
  have HB0 := kept hb0
  have HL0 := kept (lives5 _ (hF.below hb0))
  have HLV := fun w h => kept (lives5 w h)
  obtain ⟨k, hk, hk256⟩ : ∃ k : Nat, IntKind.u64.wrap a3 % 257 = (k : Int) ∧ k ≤ 256 := by
    have h1 := Int.emod_nonneg (IntKind.u64.wrap a3) (show (257 : Int) ≠ 0 by omega)
    have h2 := Int.emod_lt_of_pos (IntKind.u64.wrap a3) (show (0 : Int) < 257 by omega)
    exact ⟨(IntKind.u64.wrap a3 % 257).toNat, by omega, by omega⟩
  obtain ⟨t, r, s, z⟩ := m0
  obtain ⟨t', r', s', z'⟩ := m1
  obtain ⟨t'', r'', s'', z''⟩ := m2
  simp only at HB0 HL0 tx0 tx1 tx2
  clear hF htr hb0
  by_cases hmx : t' = 18446744073709551615
  · have hg : ((t' : Int) == 18446744073709551615) = true := by rw [beq_iff_eq]; omega
    clear hmx
    go_enter Tryd.func9, Tryd.ntmps9
    go_wp2_with fail
    with_reducible refine HL0.out.mono ?_
    rintro e w1 ⟨rfl, hb⟩
    have HB1 := kept (bel_to hb HB0.out)
    have ht1 := HT0.out.below hb
    have HL1 := HLV _ (HF.out.below HB1.out)
    obtain ⟨n0, n1, n2, n3⟩ := ht1.2.1.fou
    clear hb ht1
    go_wp2_with fail
    with_reducible refine HL1.out.mono ?_
    rintro e w2 ⟨rfl, hb⟩
    have HB2 := kept (bel_to hb HB1.out)
    clear hb
    go_wp2
    go_ret
    exact ⟨rfl, HB2.out⟩
  by_cases hz : t' = 0
  · have hg : ((t' : Int) == 18446744073709551615) = false := by rw [beq_eq_false_iff_ne]; omega
    have hg2 : ((t' : Int) == 0) = true := by rw [beq_iff_eq]; omega
    clear hz hmx
    go_enter Tryd.func9, Tryd.ntmps9
    go_wp2_with fail
    with_reducible refine HL0.out.mono ?_
    rintro e w1 ⟨rfl, hb⟩
    have HB1 := kept (bel_to hb HB0.out)
    have ht1 := HT0.out.below hb
    have HL1 := HLV _ (HF.out.below HB1.out)
    obtain ⟨n0, n1, n2, n3⟩ := ht1.2.1.fou
    clear hb ht1
    go_wp2_with fail
    with_reducible refine HL1.out.mono ?_
    rintro e w2 ⟨rfl, hb⟩
    have HB2 := kept (bel_to hb HB1.out)
    clear hb
    go_wp2
    go_ret
    exact ⟨rfl, HB2.out⟩
  have hg1 : ((t' : Int) == 18446744073709551615) = false := by rw [beq_eq_false_iff_ne]; omega
  have hg2 : ((t' : Int) == 0) = false := by rw [beq_eq_false_iff_ne]; omega
  obtain ⟨p, hp⟩ : ∃ p : Nat, p + 1 = t' := ⟨t' - 1, by omega⟩
  have hw1 : IntKind.u64.wrap ((t' : Int) - 1) = (p : Int) := by
    rw [show (t' : Int) - 1 = (p : Int) by omega]
    exact IntWalk.u64_in _ ⟨by omega, by omega⟩
  obtain ⟨q, hq⟩ : ∃ q : Nat, q = t' + 1 := ⟨_, rfl⟩
  have hw2 : IntKind.u64.wrap ((t' : Int) + 1) = (q : Int) := by
    rw [show (t' : Int) + 1 = (q : Int) by omega]
    exact IntWalk.u64_in _ ⟨by omega, by omega⟩
  have htb : q < 18446744073709551616 := by omega
  clear hmx hz HLV
  obtain ⟨ea, hea⟩ : ∃ er : Int, (if rightM ⟨p, r, s, z⟩ then 0 else 4) = er := ⟨_, rfl⟩
  obtain ⟨eb, heb⟩ : ∃ er : Int, (if rightM ⟨t', r', s', z'⟩ then 0 else 4) = er := ⟨_, rfl⟩
  obtain ⟨ec, hec⟩ : ∃ er : Int, (if rightM ⟨q, r'', s'', z''⟩ then 0 else 4) = er := ⟨_, rfl⟩
  have HEA := fun w h => kept (encode_e ⟨p, r, s, z⟩ ea hea w (by show p < _; omega) h)
  have HEB := fun w h => kept (encode_e ⟨t', r', s', z'⟩ eb heb w tx1 h)
  have HEC := fun w h => kept (encode_e ⟨q, r'', s'', z''⟩ ec hec w htb h)
  have HRB := kept (fun h : eb = 0 => right_of_er heb h)
  have HRC := kept (fun h : ec = 0 => right_of_er hec h)
  have HTU := kept (fun h1 h2 => turns (e := ⟨p, r, s, z⟩) (l := ⟨t', r', s', z'⟩) (n := ⟨q, r'', s'', z''⟩) hk256 h1 h2 hp hq htb)
  have HPT := kept hp
  have HK := kept (And.intro hk hk256)
  have HTB := kept htb
  have HQ := kept hq
  clear hea heb hec hk hp htb hq tx0 tx2
  go_enter Tryd.func9, Tryd.ntmps9
  go_wp2_with fail
  with_reducible refine HL0.out.mono ?_
  rintro e w1 ⟨rfl, hb⟩
  have hb1 := bel_to hb HB0.out
  have ht1 := HT0.out.below hb
  have ht2 : Tri W.heap.size ((w1.setCell ⟨W.heap.size, 0, none⟩ (.int .u64 (p : Int))).setCell ⟨W.heap.size + 1 + 1, 0, none⟩ (.int .u64 (q : Int))) ⟨p, r, s, z⟩ ⟨t', r', s', z'⟩ ⟨q, r'', s'', z''⟩ :=
    ⟨(ht1.1.set_ 0 (.int .u64 (p : Int))).far (p := ⟨W.heap.size + 1 + 1, 0, none⟩) (by show W.heap.size ≠ W.heap.size + 1 + 1; omega) _, (ht1.2.1.far (p := ⟨W.heap.size, 0, none⟩) (by show W.heap.size + 1 ≠ W.heap.size; omega) _).far (p := ⟨W.heap.size + 1 + 1, 0, none⟩) (by show W.heap.size + 1 ≠ W.heap.size + 1 + 1; omega) _, (ht1.2.2.far (p := ⟨W.heap.size, 0, none⟩) (by show W.heap.size + 1 + 1 ≠ W.heap.size; omega) _).set_ 0 _⟩
  have hb2 := (hb1.setCell (p := ⟨W.heap.size, 0, none⟩) (Nat.le_refl _) (.int .u64 (p : Int))).setCell (p := ⟨W.heap.size + 1 + 1, 0, none⟩) (by show W.heap.size ≤ W.heap.size + 1 + 1; omega) (.int .u64 (q : Int))
  have c0 : w1.cell? ⟨W.heap.size + 1, 0, none⟩ = some (.int .u64 (t' : Int)) := ht1.2.1.cell 0
  have d0 : w1.cell? ⟨W.heap.size, 0, none⟩ = some (.int .u64 (t : Int)) := ht1.1.cell 0
  have g0 := ht1.1.frozen 0
  have c1 : (w1.setCell ⟨W.heap.size, 0, none⟩ (.int .u64 (p : Int))).cell? ⟨W.heap.size + 1, 0, none⟩ = some (.int .u64 (t' : Int)) := (ht1.2.1.far (p := ⟨W.heap.size, 0, none⟩) (by show W.heap.size + 1 ≠ W.heap.size; omega) _).cell 0
  have d1 : (w1.setCell ⟨W.heap.size, 0, none⟩ (.int .u64 (p : Int))).cell? ⟨W.heap.size + 1 + 1, 0, none⟩ = some (.int .u64 (t'' : Int)) := (ht1.2.2.far (p := ⟨W.heap.size, 0, none⟩) (by show W.heap.size + 1 + 1 ≠ W.heap.size; omega) _).cell 0
  have g1 := (ht1.2.2.far (p := ⟨W.heap.size, 0, none⟩) (by show W.heap.size + 1 + 1 ≠ W.heap.size; omega) (.int .u64 (p : Int))).frozen 0
  obtain ⟨n0, n1, n2, n3⟩ := ht2.1.fou
  have HT2 := kept ht2
  have HB2 := kept hb2
  clear hb hb1 ht1 ht2 hb2
  go_wp2_with fail
  generalize ((w1.setCell ⟨W.heap.size, 0, none⟩ (.int .u64 (p : Int))).setCell ⟨W.heap.size + 1 + 1, 0, none⟩ (.int .u64 (q : Int))) = w2 at HT2 HB2 ⊢
  clear c0 d0 g0 c1 d1 g1 n0 n1 n2 n3 hw1 hw2
  with_reducible refine (HEA _ (HF.out.below HB2.out)).out.mono ?_
  rintro e w4 ⟨A4, l4, k4, rfl, HR4, hb⟩
  have HB4 := kept (bel_to hb HB2.out)
  have HT4 := kept (HT2.out.below hb)
  clear hb
  obtain ⟨n0, n1, n2, n3⟩ := HT4.out.2.1.fou
  go_wp2_with fail
  with_reducible refine (HEB _ (HF.out.below HB4.out)).out.mono ?_
  rintro e w5 ⟨A5, l5, k5, rfl, HR5, hb⟩
  have HB5 := kept (bel_to hb HB4.out)
  have HT5 := kept (HT4.out.below hb)
  have HKA := kept hb
  clear hb n0 n1 n2 n3
  obtain ⟨n0, n1, n2, n3⟩ := HT5.out.2.2.fou
  go_wp2_with fail
  with_reducible refine (HEC _ (HF.out.below HB5.out)).out.mono ?_
  rintro e w6 ⟨A6, l6, k6, rfl, HR6, hb⟩
  have HB6 := kept (bel_to hb HB5.out)
  have HT6 := kept (HT5.out.below hb)
  have HKB := kept hb
  clear hb n0 n1 n2 n3 HEA HEB HEC
  by_cases h1 : ea = 0
  · by_cases h2 : eb = 0
    · by_cases h3 : ec = 0
      · subst h1 h2 h3
        obtain ⟨rfl, hc4, hr4⟩ := HR4.out rfl
        obtain ⟨rfl, hc5, hr5⟩ := HR5.out rfl
        obtain ⟨rfl, hc6, hr6⟩ := HR6.out rfl
        obtain ⟨m, hch, hmm, hm2⟩ := HTU.out (HRB.out rfl) (HRC.out rfl)
        have HCH := kept hch
        have HMM := kept hmm
        have HM2 := kept hm2
        have HRA := kept ((hr4.below HKA.out).below HKB.out)
        have HRL := kept (hr5.below HKB.out)
        have HRN := kept hr6
        clear hr4 hr5 hr6 HR4 HR5 HR6 hch hmm hm2 HTU HRB HRC
        obtain ⟨hk, hk256⟩ := HK.out
        have hk3 : wrap64 ((IntKind.u64.wrap a3).tmod 257) = (k : Int) := by
          rw [Int.tmod_eq_emod_of_nonneg (by rw [IntKind.wrap_u64]; omega), hk]
          unfold wrap64
          omega
        have hi0 : (0 : Int) ≤ (k : Int) := by omega
        have hi1 : (k : Int) ≤ (k6 : Int) := by omega
        have hi2 : (k : Int) ≤ 256 := by omega
        have hi3 : (k : Int) ≤ (k4 : Int) := by omega
        have hi4 : (256 - (k : Int)).toNat = 256 - k := by omega
        have hi5 : ((k4 : Int) - (k : Int)).toNat = k4 - k := by omega
        obtain ⟨X, hX⟩ : ∃ X, (if k4 = k then A4 else A4.map (fun x => x.add k)) = X := ⟨_, rfl⟩
        have hrx : Rd w6 X (256 - k) ((sealed (bodyM ⟨p, r, s, z⟩)).drop k) := by rw [← hX]; exact HRA.out.cut hk256 hc4
        have HRX := kept hrx
        have HTW := kept (twin_any A6 k k6 ((sealed (bodyM ⟨q, r'', s'', z''⟩)).take k) w6.drew ((HRN.out.take hk256).keeps (Keeps.drew _)) (by omega))
        have HKK := kept hk256
        have HSZ6 : Hid (w6.drew.heap.size = w6.heap.size) := rfl
        clear hrx
        go_wp2_with fail
        refine wp_region_held_drew (S := (fun _ => True)) (by kernel_rfl) ?_ (fun hHeld => ?_)
        · ((try dsimp only); (all_goals trivial))
        refine hand_take 0 (some 68) ?_ (by kernel_rfl) (by kernel_rfl) (by kernel_rfl) (by kernel_rfl) (by kernel_rfl) (fun _ _ _ h => h) ?_ (by assumption) ?_
        rotate_left
        · (intro o ho w hSw; (simp only [List.getElem?_toArray, List.getElem?_cons_succ, List.getElem?_cons_zero, Option.some.injEq] at ho); subst ho; (try dsimp only at hSw); go_simp; (first | done | with_reducible rfl))
        (try simp only [Act.put, List.setIfInBounds_toArray, List.set_cons_zero, List.set_cons_succ])
        refine hand_take 1 (some 69) ?_ (by kernel_rfl) (by kernel_rfl) (by kernel_rfl) (by kernel_rfl) (by kernel_rfl) (fun _ _ _ h => h) ?_ (by assumption) ?_
        rotate_left
        · (intro o ho w hSw; (simp only [List.getElem?_toArray, List.getElem?_cons_succ, List.getElem?_cons_zero, Option.some.injEq] at ho); subst ho; (try dsimp only at hSw); go_simp; (first | done | with_reducible rfl))
        (try simp only [Act.put, List.setIfInBounds_toArray, List.set_cons_zero, List.set_cons_succ])
        refine hand_take 4 (some 72) ?_ (by kernel_rfl) (by kernel_rfl) (by kernel_rfl) (by kernel_rfl) (by kernel_rfl) (fun _ _ _ h => h) ?_ (by assumption) ?_
        rotate_left
        · (intro o ho w hSw; (simp only [List.getElem?_toArray, List.getElem?_cons_succ, List.getElem?_cons_zero, Option.some.injEq] at ho); subst ho; (try dsimp only at hSw); go_simp; (first | done | with_reducible rfl))
        (try simp only [Act.put, List.setIfInBounds_toArray, List.set_cons_zero, List.set_cons_succ])
        refine hand_take 5 (some 73) ?_ (by kernel_rfl) (by kernel_rfl) (by kernel_rfl) (by kernel_rfl) (by kernel_rfl) (fun _ _ _ h => h) ?_ (by assumption) ?_
        rotate_left
        · (intro o ho w hSw; (simp only [List.getElem?_toArray, List.getElem?_cons_succ, List.getElem?_cons_zero, Option.some.injEq] at ho); subst ho; (try dsimp only at hSw); go_simp; (first | done | with_reducible rfl))
        (try simp only [Act.put, List.setIfInBounds_toArray, List.set_cons_zero, List.set_cons_succ])
        refine hand_take 2 (some 70) ?_ (by kernel_rfl) (by kernel_rfl) (by kernel_rfl) (by kernel_rfl) (by kernel_rfl) (fun _ _ _ h => h) ?_ (by assumption) ?_
        rotate_left
        · (intro o ho w hSw; (simp only [List.getElem?_toArray, List.getElem?_cons_succ, List.getElem?_cons_zero, Option.some.injEq] at ho); subst ho; (try dsimp only at hSw); go_simp; (first | done | with_reducible rfl))
        (try simp only [Act.put, List.setIfInBounds_toArray, List.set_cons_zero, List.set_cons_succ])
        refine hand_take 6 (some 74) ?_ (by kernel_rfl) (by kernel_rfl) (by kernel_rfl) (by kernel_rfl) (by kernel_rfl) (fun _ _ _ h => h) ?_ (by assumption) ?_
        rotate_left
        · (intro o ho w hSw; (simp only [List.getElem?_toArray, List.getElem?_cons_succ, List.getElem?_cons_zero, Option.some.injEq] at ho); subst ho; (try dsimp only at hSw); go_simp; (first | done | with_reducible rfl))
        (try simp only [Act.put, List.setIfInBounds_toArray, List.set_cons_zero, List.set_cons_succ])
        refine hand_ready 3 (by kernel_rfl) (by kernel_rfl) (fun o ho K hK => ?_)
        (simp only [List.getElem?_toArray, List.getElem?_cons_succ, List.getElem?_cons_zero, Option.some.injEq] at ho)
        subst ho
        go_simp
        ((go_at_call 21; (with_reducible refine HTW.out.mono ?_); rintro e w7 ⟨A7, c7, rfl, hown, hb⟩); have HO7 := kept hown; have HB7 : Hid (Below w6.heap.size w6 w7) := kept ((Below.refl _ _).drew.trans hb); clear hown hb)
        (try go_wp2_with fail)
        refine hK.out _ _ ?_ (fun hHeld => ?_)
        · ((try dsimp only); (all_goals trivial))
        clear hK K
        (try simp only [Act.put, List.setIfInBounds_toArray, List.set_cons_zero, List.set_cons_succ])
        refine hand_ready 7 (by kernel_rfl) (by kernel_rfl) (fun o ho K hK => ?_)
        (simp only [List.getElem?_toArray, List.getElem?_cons_succ, List.getElem?_cons_zero, Option.some.injEq] at ho)
        subst ho
        (refine wp_append_to (.tmp 71) (.tmp 74) 25 rfl w6.heap.size 5 rfl rfl Tryd.underlying25 u8info HO7.out (HRX.out.below HB7.out) (by have := HKK.out; omega) HB7.out.size 256 (torn k ⟨p, r, s, z⟩ ⟨q, r'', s'', z''⟩) (by have := HKK.out; omega) rfl ?_; intro A8 c8 w8 hown8 hb8; have HO8 := kept hown8; have HB8 := kept (HB7.out.trans hb8); clear hown8 hb8)
        refine hK.out _ _ ?_ (fun hHeld => ?_)
        · ((try dsimp only); (all_goals trivial))
        clear hK K
        (try simp only [Act.put, List.setIfInBounds_toArray, List.set_cons_zero, List.set_cons_succ])
        refine hand_take 8 (some 15) ?_ (by kernel_rfl) (by kernel_rfl) (by kernel_rfl) (by kernel_rfl) (by kernel_rfl) (fun _ _ _ h => h) ?_ (by assumption) ?_
        rotate_left
        · (intro o ho w hSw; (simp only [List.getElem?_toArray, List.getElem?_cons_succ, List.getElem?_cons_zero, Option.some.injEq] at ho); subst ho; (try dsimp only at hSw); go_simp; (first | done | with_reducible rfl))
        (try simp only [Act.put, List.setIfInBounds_toArray, List.set_cons_zero, List.set_cons_succ])
        refine wpAnyH_done (by kernel_rfl) ?_ _
        have HB8a := kept (HB6.out.trans (HB8.out.mono HB6.out.size))
        have HT8 := kept (HT6.out.below HB8.out)
        have HRT8 := kept (Rd.of_own HO8.out)
        have HRL8 := kept (HRL.out.below HB8.out)
        have HC8 := kept (own_cap HO8.out)
        have HC5 := kept hc5
        have HTX := kept tx1
        clear hc4 hc5 hc6 hi0 hi1 hi2 hi3 hi4 hi5 hk hk3 hX HRN HRA HRX HTW HSZ6 HO8 HO7 HB7 HRL HKA HKB
        rcases Nat.mod_two_eq_zero_or_one t' with hp | hp
        · have hpI : (t' : Int) % 2 = 0 := by omega
          rw [if_pos hp] at HCH
          have HC1 := kept (choose_m A8 A5 256 256 c8 k5 _ _ w8 HRT8.out HC8.out HRL8.out HC5.out (HF.out.below HB8a.out))
          have hc2 := fun w h1 h2 h3 => choose_m A5 A8 256 256 k5 c8 (sealed (bodyM ⟨t', r', s', z'⟩)) (torn k ⟨p, r, s, z⟩ ⟨q, r'', s'', z''⟩) w h1 HC5.out h2 HC8.out h3
          rw [HCH.out] at hc2
          have HC2 := fun w h1 h2 h3 => kept (hc2 w h1 h2 h3)
          generalize chooseM (torn k ⟨p, r, s, z⟩ ⟨q, r'', s'', z''⟩) (sealed (bodyM ⟨t', r', s', z'⟩)) = D1 at HC1
          obtain ⟨⟨u', v', x', y'⟩, er⟩ := D1
          obtain ⟨u, v, x, y⟩ := m
          simp only at HC1 HC2
          clear hc2 HCH
          go_wp2_with fail
          with_reducible refine HC1.out.mono ?_
          rintro e w9 ⟨rfl, hb⟩
          have hb9 := bel_to hb HB8a.out
          have HB9 := kept (hb9.alloc hb9.size (.cells #[.int .u64 (u' : Int), .int .i64 v', .int .i64 x', .int .i64 y'] 50))
          have HT9 := kept ((HT8.out.below hb).below ((Below.refl _ _).alloc (Nat.le_refl _) (.cells #[.int .u64 (u' : Int), .int .i64 v', .int .i64 x', .int .i64 y'] 50)))
          have HX9 := kept (Blk.new w9 50 #[.int .u64 (u' : Int), .int .i64 v', .int .i64 x', .int .i64 y'])
          have HR9 := kept (And.intro ((HRL8.out.below hb).alloc (.cells #[.int .u64 (u' : Int), .int .i64 v', .int .i64 x', .int .i64 y'] 50)) ((HRT8.out.below hb).alloc (.cells #[.int .u64 (u' : Int), .int .i64 v', .int .i64 x', .int .i64 y'] 50)))
          have HLT9 := kept (show W.heap.size + 1 + 1 < w9.heap.size from (HT8.out.below hb).2.2.lt)
          have HC29 := HC2 _ HR9.out.1 HR9.out.2 (HF.out.below HB9.out)
          obtain ⟨o0, o1, o2, o3⟩ := HT9.out.2.1.fou
          clear hb hb9 HC2 HR9 HC1
          go_wp2_with fail
          with_reducible refine HC29.out.mono ?_
          rintro e w10 ⟨rfl, hb⟩
          have hx10 := HX9.out.below hb HX9.out.lt
          have hb10 := bel_to hb HB9.out
          have ht10 := HT9.out.below hb
          have hlt := HLT9.out
          have ft := hx10.fou
          obtain ⟨j0, j1, j2, j3⟩ := ft
          have k0 := hx10.frozen 0
          have k1 := hx10.frozen 1
          have k2 := hx10.frozen 2
          have k3 := hx10.frozen 3
          have HX10 := kept ((((hx10.set_ 0 (.int .u64 (u : Int))).set_ 1 (.int .i64 v)).set_ 2 (.int .i64 x)).set_ 3 (.int .i64 y))
          have HBZ := kept ((((hb10.setCell (p := ⟨w9.heap.size, 0, none⟩) (by show W.heap.size ≤ w9.heap.size; omega) (.int .u64 (u : Int))).setCell (p := ⟨w9.heap.size, 1, none⟩) (by show W.heap.size ≤ w9.heap.size; omega) (.int .i64 v)).setCell (p := ⟨w9.heap.size, 2, none⟩) (by show W.heap.size ≤ w9.heap.size; omega) (.int .i64 x)).setCell (p := ⟨w9.heap.size, 3, none⟩) (by show W.heap.size ≤ w9.heap.size; omega) (.int .i64 y))
          have HL10 := kept ((((ht10.2.1.far (p := ⟨w9.heap.size, 0, none⟩) (by show W.heap.size + 1 ≠ w9.heap.size; omega) (.int .u64 (u : Int))).far (p := ⟨w9.heap.size, 1, none⟩) (by show W.heap.size + 1 ≠ w9.heap.size; omega) (.int .i64 v)).far (p := ⟨w9.heap.size, 2, none⟩) (by show W.heap.size + 1 ≠ w9.heap.size; omega) (.int .i64 x)).far (p := ⟨w9.heap.size, 3, none⟩) (by show W.heap.size + 1 ≠ w9.heap.size; omega) (.int .i64 y))
          have HN10 := kept ((((ht10.2.2.far (p := ⟨w9.heap.size, 0, none⟩) (by show W.heap.size + 1 + 1 ≠ w9.heap.size; omega) (.int .u64 (u : Int))).far (p := ⟨w9.heap.size, 1, none⟩) (by show W.heap.size + 1 + 1 ≠ w9.heap.size; omega) (.int .i64 v)).far (p := ⟨w9.heap.size, 2, none⟩) (by show W.heap.size + 1 + 1 ≠ w9.heap.size; omega) (.int .i64 x)).far (p := ⟨w9.heap.size, 3, none⟩) (by show W.heap.size + 1 + 1 ≠ w9.heap.size; omega) (.int .i64 y))
          clear hb hx10 hb10 ht10 o0 o1 o2 o3 hlt hp
          obtain ⟨e0, e1, e2, e3⟩ := (show Blk _ _ _ [.int .u64 (u : Int), .int .i64 v, .int .i64 x, .int .i64 y] from HX10.out).fou
          obtain ⟨l0, l1, l2, l3⟩ := HL10.out.fou
          obtain ⟨f0, f1, f2, f3⟩ := HN10.out.fou
          rcases HMM.out with hml | hmn
          · have hkl : k < 256 := by
              have h9 := HKK.out
              rcases Nat.lt_or_ge k 256 with h | h
              · exact h
              · have h10 := HM2.out (by omega)
                rw [hml] at h10
                have h11 := congrArg Mt.txn h10
                have h12 := HQ.out
                simp only at h11
                omega
            have hkI : decide ((k : Int) < 256) = true := by simp; omega
            obtain ⟨rfl, rfl, rfl, rfl⟩ : u = t' ∧ v = r' ∧ x = s' ∧ y = z' := by simpa using hml
            have heq1 := fun w => eql_m ⟨u, v, x, y⟩ ⟨u, v, x, y⟩ w
            simp only [decide_true] at heq1
            clear hml hkl
            go_wp2
            go_ret
            exact ⟨rfl, HBZ.out⟩
          · obtain ⟨rfl, rfl, rfl, rfl⟩ : u = q ∧ v = r'' ∧ x = s'' ∧ y = z'' := by simpa using hmn
            have heq1 := fun w => eql_m ⟨u, v, x, y⟩ ⟨u, v, x, y⟩ w
            have heq2 := fun w => eql_m ⟨u, v, x, y⟩ ⟨t', r', s', z'⟩ w
            have hne : ¬ (⟨u, v, x, y⟩ : Mt) = ⟨t', r', s', z'⟩ := fun h => by have h12 := HQ.out; have h11 := congrArg Mt.txn h; simp only at h11; omega
            simp only [decide_true] at heq1
            simp only [hne, decide_false] at heq2
            rcases Nat.lt_or_ge k 256 with h | h
            · have hkI : decide ((k : Int) < 256) = true := by simp; omega
              clear hmn hne h
              go_wp2
              go_ret
              exact ⟨rfl, HBZ.out⟩
            · have hkI : decide ((k : Int) < 256) = false := by simp; omega
              clear hmn hne h
              go_wp2
              go_ret
              exact ⟨rfl, HBZ.out⟩
        · have hpI : (t' : Int) % 2 = 1 := by omega
          rw [if_neg (by show ¬ t' % 2 = 0; omega)] at HCH
          have hc1 := choose_m A8 A5 256 256 c8 k5 _ _ w8 HRT8.out HC8.out HRL8.out HC5.out (HF.out.below HB8a.out)
          rw [HCH.out] at hc1
          have HC1 := kept hc1
          obtain ⟨u, v, x, y⟩ := m
          simp only at HC1
          clear hc1 HCH hp
          go_wp2_with fail
          with_reducible refine HC1.out.mono ?_
          rintro e w9 ⟨rfl, hb⟩
          have hb9 := bel_to hb HB8a.out
          have HBZ := kept (hb9.alloc hb9.size (.cells #[.int .u64 (u : Int), .int .i64 v, .int .i64 x, .int .i64 y] 50))
          have ht9 := (HT8.out.below hb).below ((Below.refl _ _).alloc (Nat.le_refl _) (.cells #[.int .u64 (u : Int), .int .i64 v, .int .i64 x, .int .i64 y] 50))
          obtain ⟨l0, l1, l2, l3⟩ := ht9.2.1.fou
          obtain ⟨f0, f1, f2, f3⟩ := ht9.2.2.fou
          clear hb hb9 ht9
          rcases HMM.out with hml | hmn
          · have hkl : k < 256 := by
              have h9 := HKK.out
              rcases Nat.lt_or_ge k 256 with h | h
              · exact h
              · have h10 := HM2.out (by omega)
                rw [hml] at h10
                have h11 := congrArg Mt.txn h10
                have h12 := HQ.out
                simp only at h11
                omega
            have hkI : decide ((k : Int) < 256) = true := by simp; omega
            obtain ⟨rfl, rfl, rfl, rfl⟩ : u = t' ∧ v = r' ∧ x = s' ∧ y = z' := by simpa using hml
            have heq1 := fun w => eql_m ⟨u, v, x, y⟩ ⟨u, v, x, y⟩ w
            simp only [decide_true] at heq1
            clear hml hkl
            go_wp2
            go_ret
            exact ⟨rfl, HBZ.out⟩
          · obtain ⟨rfl, rfl, rfl, rfl⟩ : u = q ∧ v = r'' ∧ x = s'' ∧ y = z'' := by simpa using hmn
            have heq1 := fun w => eql_m ⟨u, v, x, y⟩ ⟨u, v, x, y⟩ w
            have heq2 := fun w => eql_m ⟨u, v, x, y⟩ ⟨t', r', s', z'⟩ w
            have hne : ¬ (⟨u, v, x, y⟩ : Mt) = ⟨t', r', s', z'⟩ := fun h => by have h12 := HQ.out; have h11 := congrArg Mt.txn h; simp only at h11; omega
            simp only [decide_true] at heq1
            simp only [hne, decide_false] at heq2
            rcases Nat.lt_or_ge k 256 with h | h
            · have hkI : decide ((k : Int) < 256) = true := by simp; omega
              clear hmn hne h
              go_wp2
              go_ret
              exact ⟨rfl, HBZ.out⟩
            · have hkI : decide ((k : Int) < 256) = false := by simp; omega
              clear hmn hne h
              go_wp2
              go_ret
              exact ⟨rfl, HBZ.out⟩
      · have hg : (ec != 0) = true := by rw [bne_iff_ne]; exact h3
        subst h1 h2
        clear h3 HR4 HR5 HR6 HTU
        go_wp2
        go_ret
        exact ⟨rfl, HB6.out⟩
    · have hg : (eb != 0) = true := by rw [bne_iff_ne]; exact h2
      subst h1
      clear h2 HR4 HR5 HR6 HTU
      go_wp2
      go_ret
      exact ⟨rfl, HB6.out⟩
  · have hg : (ea != 0) = true := by rw [bne_iff_ne]; exact h1
    clear h1 HR4 HR5 HR6 HTU
    go_wp2
    go_ret
    exact ⟨rfl, HB6.out⟩
end Go.Proofs.YtfgpkgenahlikaaDoor.metaTurns
