/-
  Texts laid together: Kk.
-/
import Derived.Test.YtlckeebbjnhejaaGreatBKd
import Derived.Test.YtlckeebbjnhejaaGreatBGh
import Derived.Test.YtlckeebbjnhejaaGreatBGm
section
/-
  package index: Put, Tomb, Restore.
-/
namespace Go.Proofs.YtlckeebbjnhejaaGreat
open Go.ChangeShapes Go.WideShapes Go.ChangeAt Go.RowKit Go.Deep
set_option linter.unusedVariables false
set_option linter.unusedSimpArgs false

set_option maxHeartbeats 2000000 in
theorem try_put (w : World) (q : Rv) (N : Nat) (hN : N ≤ 900000) : TryK (w.alloc (.cells #[.int .i64 q.1, .int .i64 q.2] 29)) 47 #[.pointer (some ⟨w.heap.size, 0, none⟩)] (fun gs => mcG gs q) (fun gs => putG gs q) N := by
  intro W r F gs hb hg hi hbd
  obtain ⟨t0, t1⟩ := (two_new w 29 q.1 q.2).keeps (Keeps.of_below hb)
  have HC := kept (gput_any hg hi hbd hN q)
  show Calls Tryz.prog 47 #[.pointer (some ⟨r, 0, none⟩), .pointer (some ⟨w.heap.size, 0, none⟩)] W fun e w' => e = .returned (.int .i64 (mcG gs q)) ∧ GLeft W r F (putG gs q) w'
  generalize mcG gs q = z at HC ⊢
  generalize putG gs q = gs' at HC ⊢
  clear hg hi hbd hb
  go_enter Tryz.func47, Tryz.ntmps47
  go_wp2_with (first | (go_at_call 48; (with_reducible refine (HC.out).mono ?_); rintro e w1 ⟨rfl, hl⟩; have HL := kept hl; clear hl))
  go_returns
  exact ⟨rfl, HL.out⟩
set_option maxHeartbeats 2000000 in
theorem xputP_any {w : World} {x : Nat} {F : Nat → Prop} {l : Rv} {P : List PE} (h : Ix w x F l P) {N : Nat} (hi : XInv l P N) (hN : N ≤ 800000) (B : Option Addr) (m d : Nat) (ys : List UInt8) (hrd : Rd w B m ys) (hm : m ≤ 1000) (q : Rv) :
    Calls Tryz.prog 23 #[.pointer (some ⟨x, 0, none⟩), .slice B m d, .agg #[.int .i64 q.1, .int .i64 q.2]] w fun e w' => e = .returned (.int .i64 (chC l P ys q (fun gs => mcG gs q))) ∧ IxLeft w x F (chL l P ys q (fun gs => mcG gs q)) (chP l P ys q (fun gs => mcG gs q) (fun gs => putG gs q)) w' := by
  have hb0 : Below w.heap.size w (w.alloc (.cells #[.int .i64 q.1, .int .i64 q.2] 29)) := (Below.refl _ w).alloc (Nat.le_refl _) _
  have eg : ∀ args w, (callFunc 47 args).run Tryz.prog w = .ok (.enter 47 args) w := enters_of Tryz.func47 (by kernel_rfl) rfl
  have HC := kept (change_any (h.below hb0) hi hN B m d ys (hrd.below hb0) hm q (try_put w q N (by omega)) eg (fun gs hc => by show putG gs q = gs; unfold putG; exact if_neg hc))
  obtain ⟨t0, t1⟩ := two_new w 29 q.1 q.2
  have HB := kept hb0
  generalize chC l P ys q (fun gs => mcG gs q) = z at HC ⊢
  generalize chP l P ys q (fun gs => mcG gs q) (fun gs => putG gs q) = P' at HC ⊢
  generalize chL l P ys q (fun gs => mcG gs q) = l' at HC ⊢
  clear h hi hrd hb0 eg
  go_enter Tryz.func23, Tryz.ntmps23
  go_wp2_with (first | (go_at_call 46; (with_reducible refine (HC.out).mono ?_); rintro e w1 ⟨rfl, hl⟩; have HL := kept hl; clear hl t0 t1))
  go_returns
  exact ⟨rfl, HL.out.after HB.out⟩
set_option maxHeartbeats 2000000 in
theorem try_tomb (w : World) (q : Rv) (N : Nat) (hN : N ≤ 900000) : TryK (w.alloc (.cells #[.int .i64 q.1, .int .i64 q.2] 29)) 49 #[.pointer (some ⟨w.heap.size, 0, none⟩)] (fun gs => tombC gs q) (fun gs => tombG gs q) N := by
  intro W r F gs hb hg hi hbd
  obtain ⟨t0, t1⟩ := (two_new w 29 q.1 q.2).keeps (Keeps.of_below hb)
  have HC := kept (gtomb_any hg hi hbd hN q)
  show Calls Tryz.prog 49 #[.pointer (some ⟨r, 0, none⟩), .pointer (some ⟨w.heap.size, 0, none⟩)] W fun e w' => e = .returned (.int .i64 (tombC gs q)) ∧ GLeft W r F (tombG gs q) w'
  generalize tombC gs q = z at HC ⊢
  generalize tombG gs q = gs' at HC ⊢
  clear hg hi hbd hb
  go_enter Tryz.func49, Tryz.ntmps49
  go_wp2_with (first | (go_at_call 50; (with_reducible refine (HC.out).mono ?_); rintro e w1 ⟨rfl, hl⟩; have HL := kept hl; clear hl))
  go_returns
  exact ⟨rfl, HL.out⟩
set_option maxHeartbeats 2000000 in
theorem xtombP_any {w : World} {x : Nat} {F : Nat → Prop} {l : Rv} {P : List PE} (h : Ix w x F l P) {N : Nat} (hi : XInv l P N) (hN : N ≤ 800000) (B : Option Addr) (m d : Nat) (ys : List UInt8) (hrd : Rd w B m ys) (hm : m ≤ 1000) (q : Rv) :
    Calls Tryz.prog 24 #[.pointer (some ⟨x, 0, none⟩), .slice B m d, .agg #[.int .i64 q.1, .int .i64 q.2]] w fun e w' => e = .returned (.int .i64 (chC l P ys q (fun gs => tombC gs q))) ∧ IxLeft w x F (chL l P ys q (fun gs => tombC gs q)) (chP l P ys q (fun gs => tombC gs q) (fun gs => tombG gs q)) w' := by
  have hb0 : Below w.heap.size w (w.alloc (.cells #[.int .i64 q.1, .int .i64 q.2] 29)) := (Below.refl _ w).alloc (Nat.le_refl _) _
  have eg : ∀ args w, (callFunc 49 args).run Tryz.prog w = .ok (.enter 49 args) w := enters_of Tryz.func49 (by kernel_rfl) rfl
  have HC := kept (change_any (h.below hb0) hi hN B m d ys (hrd.below hb0) hm q (try_tomb w q N (by omega)) eg (fun gs hc => by show tombG gs q = gs; have hc : tombC gs q ≠ 0 := hc; unfold tombG; unfold tombC at hc; by_cases h1 : mcG gs q = 0 <;> by_cases h2 : goingG gs = true <;> simp_all))
  obtain ⟨t0, t1⟩ := two_new w 29 q.1 q.2
  have HB := kept hb0
  generalize chC l P ys q (fun gs => tombC gs q) = z at HC ⊢
  generalize chP l P ys q (fun gs => tombC gs q) (fun gs => tombG gs q) = P' at HC ⊢
  generalize chL l P ys q (fun gs => tombC gs q) = l' at HC ⊢
  clear h hi hrd hb0 eg
  go_enter Tryz.func24, Tryz.ntmps24
  go_wp2_with (first | (go_at_call 46; (with_reducible refine (HC.out).mono ?_); rintro e w1 ⟨rfl, hl⟩; have HL := kept hl; clear hl t0 t1))
  go_returns
  exact ⟨rfl, HL.out.after HB.out⟩
set_option maxHeartbeats 2000000 in
theorem try_rest (w W0 : World) (b1 b2 : Nat) (q : Rv) (c v : Int) (N : Nat) (hN : N ≤ 900000) (h1 : Blk W0 b1 31 [.int .i64 q.1, .int .i64 q.2, .int .i64 c, .int .i64 v]) (h2 : W0.cell? ⟨b2, 0, none⟩ = some (.bool false)) : TryK W0 73 #[.pointer (some ⟨b1, 0, none⟩), .pointer (some ⟨b2, 0, none⟩)] (fun gs => restC gs q c v) (fun gs => restG gs q c v) N := by
  intro W r F gs hb hg hi hbd
  have hk := h1.below hb h1.lt
  have t0 := hk.cell 0
  have t1 := hk.cell 1
  have t2 := hk.cell 2
  have t3 := hk.cell 3
  have t4 := (Keeps.of_below hb).cell_ h2
  have HC := kept (grest_put hg hi hbd hN q c v)
  show Calls Tryz.prog 73 #[.pointer (some ⟨r, 0, none⟩), .pointer (some ⟨b1, 0, none⟩), .pointer (some ⟨b2, 0, none⟩)] W fun e w' => e = .returned (.int .i64 (restC gs q c v)) ∧ GLeft W r F (restG gs q c v) w'
  generalize restC gs q c v = z at HC ⊢
  generalize restG gs q c v = gs' at HC ⊢
  clear hg hi hbd hb hk h1 h2
  go_enter Tryz.func73, Tryz.ntmps73
  go_wp2_with (first | (go_at_call 74; (with_reducible refine (HC.out).mono ?_); rintro e w1 ⟨rfl, hl⟩; have HL := kept hl; clear hl))
  go_returns
  exact ⟨rfl, HL.out⟩
set_option maxHeartbeats 2000000 in
theorem xrestP_any {w : World} {x : Nat} {F : Nat → Prop} {l : Rv} {P : List PE} (h : Ix w x F l P) {N : Nat} (hi : XInv l P N) (hN : N ≤ 800000) (B : Option Addr) (m d : Nat) (ys : List UInt8) (hrd : Rd w B m ys) (hm : m ≤ 1000) (q : Rv) (c v : Int) :
    Calls Tryz.prog 41 #[.pointer (some ⟨x, 0, none⟩), .slice B m d, .agg #[.int .i64 q.1, .int .i64 q.2, .int .i64 c, .int .i64 v], .bool false] w fun e w' => e = .returned (.int .i64 (chC l P ys q (fun gs => restC gs q c v))) ∧ IxLeft w x F (chL l P ys q (fun gs => restC gs q c v)) (chP l P ys q (fun gs => restC gs q c v) (fun gs => restG gs q c v)) w' := by
  have hb0 : Below w.heap.size w ((w.alloc (.cells #[.int .i64 q.1, .int .i64 q.2, .int .i64 c, .int .i64 v] 31)).alloc (.cells #[.bool false] 4)) := ((Below.refl _ w).alloc (Nat.le_refl _) _).alloc (by simp) _
  have eg : ∀ args w, (callFunc 73 args).run Tryz.prog w = .ok (.enter 73 args) w := enters_of Tryz.func73 (by kernel_rfl) rfl
  have hk := (Blk.new w 31 #[.int .i64 q.1, .int .i64 q.2, .int .i64 c, .int .i64 v]).alloc (.cells #[.bool false] 4)
  have hk2 := Blk.new (w.alloc (.cells #[.int .i64 q.1, .int .i64 q.2, .int .i64 c, .int .i64 v] 31)) 4 #[.bool false]
  rw [World.size_alloc] at hk2
  have HC := kept (change_any (h.below hb0) hi hN B m d ys (hrd.below hb0) hm q (try_rest w _ w.heap.size (w.heap.size + 1) q c v N (by omega) hk (hk2.cell 0)) eg (fun gs hc => by show restG gs q c v = gs; unfold restG; exact if_neg hc))
  have t0 := hk.cell 0
  have t1 := hk.cell 1
  have HB := kept hb0
  generalize chC l P ys q (fun gs => restC gs q c v) = z at HC ⊢
  generalize chP l P ys q (fun gs => restC gs q c v) (fun gs => restG gs q c v) = P' at HC ⊢
  generalize chL l P ys q (fun gs => restC gs q c v) = l' at HC ⊢
  clear h hi hrd hb0 eg hk hk2
  go_enter Tryz.func41, Tryz.ntmps41
  go_wp2_with (first | (go_at_call 46; (with_reducible refine (HC.out).mono ?_); rintro e w1 ⟨rfl, hl⟩; have HL := kept hl; clear hl t0 t1))
  go_returns
  exact ⟨rfl, HL.out.after HB.out⟩
set_option maxHeartbeats 2000000 in
theorem try_restT (w W0 : World) (b1 b2 : Nat) (q : Rv) (c v : Int) (N : Nat) (hN : N ≤ 900000) (h1 : Blk W0 b1 31 [.int .i64 q.1, .int .i64 q.2, .int .i64 c, .int .i64 v]) (h2 : W0.cell? ⟨b2, 0, none⟩ = some (.bool true)) : TryK W0 73 #[.pointer (some ⟨b1, 0, none⟩), .pointer (some ⟨b2, 0, none⟩)] (fun gs => tombC gs q) (fun gs => tombG gs q) N := by
  intro W r F gs hb hg hi hbd
  have hk := h1.below hb h1.lt
  have t0 := hk.cell 0
  have t1 := hk.cell 1
  have t2 := hk.cell 2
  have t3 := hk.cell 3
  have t4 := (Keeps.of_below hb).cell_ h2
  have HC := kept (grest_tomb hg hi hbd hN q c v)
  show Calls Tryz.prog 73 #[.pointer (some ⟨r, 0, none⟩), .pointer (some ⟨b1, 0, none⟩), .pointer (some ⟨b2, 0, none⟩)] W fun e w' => e = .returned (.int .i64 (tombC gs q)) ∧ GLeft W r F (tombG gs q) w'
  generalize tombC gs q = z at HC ⊢
  generalize tombG gs q = gs' at HC ⊢
  clear hg hi hbd hb hk h1 h2
  go_enter Tryz.func73, Tryz.ntmps73
  go_wp2_with (first | (go_at_call 74; (with_reducible refine (HC.out).mono ?_); rintro e w1 ⟨rfl, hl⟩; have HL := kept hl; clear hl))
  go_returns
  exact ⟨rfl, HL.out⟩
set_option maxHeartbeats 2000000 in
theorem xrestTP_any {w : World} {x : Nat} {F : Nat → Prop} {l : Rv} {P : List PE} (h : Ix w x F l P) {N : Nat} (hi : XInv l P N) (hN : N ≤ 800000) (B : Option Addr) (m d : Nat) (ys : List UInt8) (hrd : Rd w B m ys) (hm : m ≤ 1000) (q : Rv) (c v : Int) :
    Calls Tryz.prog 41 #[.pointer (some ⟨x, 0, none⟩), .slice B m d, .agg #[.int .i64 q.1, .int .i64 q.2, .int .i64 c, .int .i64 v], .bool true] w fun e w' => e = .returned (.int .i64 (chC l P ys q (fun gs => tombC gs q))) ∧ IxLeft w x F (chL l P ys q (fun gs => tombC gs q)) (chP l P ys q (fun gs => tombC gs q) (fun gs => tombG gs q)) w' := by
  have hb0 : Below w.heap.size w ((w.alloc (.cells #[.int .i64 q.1, .int .i64 q.2, .int .i64 c, .int .i64 v] 31)).alloc (.cells #[.bool true] 4)) := ((Below.refl _ w).alloc (Nat.le_refl _) _).alloc (by simp) _
  have eg : ∀ args w, (callFunc 73 args).run Tryz.prog w = .ok (.enter 73 args) w := enters_of Tryz.func73 (by kernel_rfl) rfl
  have hk := (Blk.new w 31 #[.int .i64 q.1, .int .i64 q.2, .int .i64 c, .int .i64 v]).alloc (.cells #[.bool true] 4)
  have hk2 := Blk.new (w.alloc (.cells #[.int .i64 q.1, .int .i64 q.2, .int .i64 c, .int .i64 v] 31)) 4 #[.bool true]
  rw [World.size_alloc] at hk2
  have HC := kept (change_any (h.below hb0) hi hN B m d ys (hrd.below hb0) hm q (try_restT w _ w.heap.size (w.heap.size + 1) q c v N (by omega) hk (hk2.cell 0)) eg (fun gs hc => by show tombG gs q = gs; have hc : tombC gs q ≠ 0 := hc; unfold tombG; unfold tombC at hc; by_cases h1 : mcG gs q = 0 <;> by_cases h2 : goingG gs = true <;> simp_all))
  have t0 := hk.cell 0
  have t1 := hk.cell 1
  have HB := kept hb0
  generalize chC l P ys q (fun gs => tombC gs q) = z at HC ⊢
  generalize chP l P ys q (fun gs => tombC gs q) (fun gs => tombG gs q) = P' at HC ⊢
  generalize chL l P ys q (fun gs => tombC gs q) = l' at HC ⊢
  clear h hi hrd hb0 eg hk hk2
  go_enter Tryz.func41, Tryz.ntmps41
  go_wp2_with (first | (go_at_call 46; (with_reducible refine (HC.out).mono ?_); rintro e w1 ⟨rfl, hl⟩; have HL := kept hl; clear hl t0 t1))
  go_returns
  exact ⟨rfl, HL.out.after HB.out⟩
end Go.Proofs.YtlckeebbjnhejaaGreat
end
