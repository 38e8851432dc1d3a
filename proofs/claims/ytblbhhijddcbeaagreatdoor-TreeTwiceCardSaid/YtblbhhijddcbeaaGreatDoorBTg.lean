/- Tg -/
import Derived.Test.YtblbhhijddcbeaaGreatDoorBQw
import Derived.Test.YtblbhhijddcbeaaGreatDoorBHnd
section
namespace Go.Proofs.YtblbhhijddcbeaaGreatDoor
open Go.ChangeShapes Go.WideShapes Go.ChangeAt Go.RowKit
set_option linter.unusedVariables false
set_option linter.unusedSimpArgs false
set_option maxRecDepth 100000
set_option maxHeartbeats 16000000
structure RelV (a w : World) (r : Nat) (t : TypeId) (R : List Value) (p : Pgl) (P : PSt) (S : St) (A : Option Addr) (n : Nat) (M : List Int) (l : List (Int × List UInt8)) (ic : List Value) (i : Int) (l1 l2 : List (Int × List UInt8)) (f : Bool) (A' : Option Addr) (c' : Nat) (A1 : Option Addr) (n1 c1 : Nat) (B1 : Option Addr) (m1 d1 : Nat) (wr : World) : Prop where
 cat : l = l1 ++ l2
 ch : ChainP P S i l2
 fi : fillP f l2 = fillP true l
 en : n1 = (bytesP l1).length
 em : m1 = l1.length
 vs : ValS a w r t R p P S A A' (n + m1) c' (M ++ idsP l1) A1 n1 c1 (bytesP l1) B1 m1 d1 (idsP l1) [.slice A1 n1 c1, .slice B1 m1 d1, .bool f] ic wr
theorem bytesP_append (l k : List (Int × List UInt8)) : bytesP (l ++ k) = bytesP l ++ bytesP k := by simp [bytesP]
theorem idsP_append (l k : List (Int × List UInt8)) : idsP (l ++ k) = idsP l ++ idsP k := by simp [idsP]
theorem value_long {a w : World} {r : Nat} {t : TypeId} {R : List Value} {p : Pgl} {P : PSt} {S : St} {A : Option Addr} {n c : Nat} {M : List Int} (h : Vi a r t R p P S A n c M w) (hf : S.fuse ≠ 0) (hF : Fours a) (ka : Option Addr) (kn kc sz : Nat) (more : Int) (l : List (Int × List UInt8)) (hl : ChainP P S more l) (hsz : (bytesP l).length = sz) (hs2 : sz ≤ 100000) (hn : n + l.length ≤ 1024) :
 Calls Tryz.prog 54 #[.pointer (some ⟨r, 0, none⟩), .agg #[.slice ka kn kc, .slice none 0 0, .int .i64 (sz : Int), .int .i64 more]] w (ValA a w r t R p P S A n M sz l) := by
 have H := kept h
 have HSZ := kept hsz
 have HN := kept hn
 have HF := kept hF
 have HFU := kept hf
 have hb3 : Below w.heap.size w (((w.alloc (.cells #[.slice ka kn kc, .slice none 0 0, .int .i64 (sz : Int), .int .i64 more] 149)).alloc (.cells #[.slice none 0 0, .slice none 0 0, .bool false] 145)).alloc (.cells #[.slice none 0 0, .slice none 0 0, .bool true] 145)) := (((Below.refl _ w).alloc (Nat.le_refl _) _).alloc (by simp) _).alloc (by simp; omega) _
 have H0 : Hid (RelV a w r t R p P S A n M l [.slice ka kn kc, .slice none 0 0, .int .i64 (sz : Int), .int .i64 more] more [] l true A c none 0 0 none 0 0 (((w.alloc (.cells #[.slice ka kn kc, .slice none 0 0, .int .i64 (sz : Int), .int .i64 more] 149)).alloc (.cells #[.slice none 0 0, .slice none 0 0, .bool false] 145)).alloc (.cells #[.slice none 0 0, .slice none 0 0, .bool true] 145))) := kept
  ⟨rfl, hl, rfl, rfl, rfl, by
   have hv := h.on hb3
   refine ⟨by simpa [idsP] using hv, ?_, ?_, ?_, OwB.nil_ _, OwI.nil_ _, fun g e => (by cases e), fun g e => (by cases e), Turned.of_below hb3 _, fun g e => .inl e⟩
   · have := Blk.new ((w.alloc (.cells #[.slice ka kn kc, .slice none 0 0, .int .i64 (sz : Int), .int .i64 more] 149)).alloc (.cells #[.slice none 0 0, .slice none 0 0, .bool false] 145)) 145 #[.slice none 0 0, .slice none 0 0, .bool true]
     simpa using this
   · exact ((Blk.new w 149 #[.slice ka kn kc, .slice none 0 0, .int .i64 (sz : Int), .int .i64 more]).alloc _).alloc _
   · have := (Blk.new (w.alloc (.cells #[.slice ka kn kc, .slice none 0 0, .int .i64 (sz : Int), .int .i64 more] 149)) 145 #[.slice none 0 0, .slice none 0 0, .bool false]).alloc (.cells #[.slice none 0 0, .slice none 0 0, .bool true] 145)
     simpa using this⟩
 clear h hl hsz hn hF hf hb3
 go_enter Tryz.func54, Tryz.ntmps54
 go_wp2
 generalize (((w.alloc (.cells #[.slice ka kn kc, .slice none 0 0, .int .i64 (sz : Int), .int .i64 more] 149)).alloc (.cells #[.slice none 0 0, .slice none 0 0, .bool false] 145)).alloc (.cells #[.slice none 0 0, .slice none 0 0, .bool true] 145)) = W3 at H0 ⊢
 go_loopg [7] l.length (fun gk at_ wr => ∃ (i : Int) (l1 l2 : List (Int × List UInt8)) (f : Bool) (A' : Option Addr) (c' : Nat) (A1 : Option Addr) (n1 c1 : Nat) (B1 : Option Addr) (m1 d1 : Nat), at_ = .int .i64 i ∧ gk = l2.length ∧ Hid (RelV a w r t R p P S A n M l [.slice ka kn kc, .slice none 0 0, .int .i64 (sz : Int), .int .i64 more] i l1 l2 f A' c' A1 n1 c1 B1 m1 d1 wr))
 case atStart => exact ⟨more, [], l, true, A, c, none, 0, 0, none, 0, 0, rfl, rfl, H0⟩
 case round =>
  obtain ⟨i, l1, l2, f, A', c', A1, n1, c1, B1, m1, d1, rfl, hgk, HL⟩ := hrel
  clear H0
  have HGK := kept hgk
  clear hgk
  have hb := HL.out.vs.box
  have q0 : wr.cell? ⟨w.heap.size + 2, 0, none⟩ = some (.slice A1 n1 c1) := hb.cell 0
  have q1 : wr.cell? ⟨w.heap.size + 2, 1, none⟩ = some (.slice B1 m1 d1) := hb.cell 1
  have q2 : wr.cell? ⟨w.heap.size + 2, 2, none⟩ = some (.bool f) := hb.cell 2
  have i2 : wr.cell? ⟨w.heap.size, 2, none⟩ = some (.int .i64 (sz : Int)) := HL.out.vs.itm.cell 2
  clear hb
  cases l2 with
  | nil =>
    obtain rfl : i = 0 := HL.out.ch
    have hll : l1 = l := by have := HL.out.cat; rw [List.append_nil] at this; exact this.symm
    obtain rfl : n1 = sz := by rw [HL.out.en, hll]; exact HSZ.out
    have hr := HL.out.vs.res
    have r0 : wr.cell? ⟨w.heap.size + 1, 0, none⟩ = some (.slice none 0 0) := hr.cell 0
    have r1 : wr.cell? ⟨w.heap.size + 1, 1, none⟩ = some (.slice none 0 0) := hr.cell 1
    have r2 : wr.cell? ⟨w.heap.size + 1, 2, none⟩ = some (.bool false) := hr.cell 2
    have s0 := hr.frozen 0
    have s1 := hr.frozen 1
    have s2 := hr.frozen 2
    clear hr
    have HLL := kept hll
    clear hll
    go_wp2
    have hbx := ((HL.out.vs.res.set_ 0 (.slice A1 n1 c1)).set_ 1 (.slice B1 m1 d1)).set_ 2 (.bool f)
    simp only [List.set_cons_zero, List.set_cons_succ] at hbx
    have tq : Turned wr (((wr.setCell ⟨w.heap.size + 1, 0, none⟩ (.slice A1 n1 c1)).setCell ⟨w.heap.size + 1, 1, none⟩ (.slice B1 m1 d1)).setCell ⟨w.heap.size + 1, 2, none⟩ (.bool f)) (fun j => j = w.heap.size + 1) :=
     (((Turned.refl wr (fun j => j = w.heap.size + 1)).setCell (T := fun j => j = w.heap.size + 1) (p := ⟨w.heap.size + 1, 0, none⟩) (fun _ => rfl) _).setCell (p := ⟨w.heap.size + 1, 1, none⟩) (fun _ => rfl) _).setCell (p := ⟨w.heap.size + 1, 2, none⟩) (fun _ => rfl) _
    generalize (((wr.setCell ⟨w.heap.size + 1, 0, none⟩ (.slice A1 n1 c1)).setCell ⟨w.heap.size + 1, 1, none⟩ (.slice B1 m1 d1)).setCell ⟨w.heap.size + 1, 2, none⟩ (.bool f)) = Y at hbx tq ⊢
    have x0 : Y.cell? ⟨w.heap.size + 1, 0, none⟩ = some (.slice A1 n1 c1) := hbx.cell 0
    have x1 : Y.cell? ⟨w.heap.size + 1, 1, none⟩ = some (.slice B1 m1 d1) := hbx.cell 1
    have x2 : Y.cell? ⟨w.heap.size + 1, 2, none⟩ = some (.bool f) := hbx.cell 2
    have hvs := HL.out.vs
    obtain ⟨hv, ht⟩ := hvs.vi_far H.out tq (fun k e => ⟨by omega, fun e2 => by subst e; exact absurd ((hvs.vi.l2.own.cl e2).uniq hvs.res.cl) (by decide)⟩)
    have hob := hvs.ob.turned tq (fun g e e2 => by subst e2; exact absurd ((hvs.ob.cl e).uniq hvs.res.cl) (by decide))
    have hoi := hvs.oi.turned tq (fun g e e2 => by subst e2; exact absurd ((hvs.oi.cl e).uniq hvs.res.cl) (by decide))
    have hm := HL.out.em
    have hfi : fillP true l = f := HL.out.fi.symm
    have hll := HLL.out
    subst hll
    refine bodyPost_ret (v := .tuple #[.agg #[.slice A1 n1 c1, .slice B1 m1 d1, .bool f], .int .i64 0]) (by simp [results, Tryz.results54, go_sem, x0, x1, x2]) rfl ?_
    rw [hm] at hv hoi ⊢
    rw [← hfi]
    exact ⟨A1, c1, B1, d1, A', c', rfl, kept ⟨hv, hob, hoi, hvs.nb, hvs.ni, ht, hvs.ga⟩⟩
  | cons x rest =>
    obtain ⟨hi, hfin, X, hX, hk3, hdt, hch⟩ := HL.out.ch
    obtain rfl : i = x.1 := hi
    have hne : (x.1 != 0) = true := by
     have h1 : 2 ≤ x.1 ∧ x.1 < P.M.size := by simpa [finB] using hfin
     simp; omega
    have hlen : n + m1 < 1024 := by have h1 := HN.out; have h2 := HL.out.em; rw [HL.out.cat] at h1; simp at h1; omega
    have HR := kept (vread_x HL.out.vs.vi x.1 hfin hlen HFU.out HF.out hX)
    have HX := kept (And.intro hk3 (And.intro hdt hch))
    clear hk3 hdt hch hX hfin
    go_wp2_with fail
    with_reducible refine HR.out.mono ?_
    rintro e w4 ⟨l4, A4, c4, K, B, rfl, HH⟩
    obtain ⟨kind, txn, next, a1, k1, kc1, a2, k2, kc2, a3, n3, k3, a4, k4, kc4⟩ := l4
    obtain rfl : kind = 3 := by have := HH.out.2.1.here.toRdPg.kind; rw [HX.out.1] at this; exact this.symm
    clear HR q0 q1 q2 i2
    have hv4 := HL.out.vs.met H.out.lt HH.out.1 HH.out.2.2.1 HH.out.2.2.2.2
    have HV4 := kept hv4
    have q0 : ∀ o, (w4.alloc o).cell? ⟨w.heap.size + 2, 0, none⟩ = some (.slice A1 n1 c1) := fun o => (hv4.box.alloc o).cell 0
    have q2 : ∀ o, (w4.alloc o).cell? ⟨w.heap.size + 2, 2, none⟩ = some (.bool f) := fun o => (hv4.box.alloc o).cell 2
    have i2 : ∀ o, (w4.alloc o).cell? ⟨w.heap.size, 2, none⟩ = some (.int .i64 (sz : Int)) := fun o => (hv4.itm.alloc o).cell 2
    have f2 : ∀ o, (w4.alloc o).frozen? ⟨w.heap.size + 2, 2, none⟩ = false := fun o => (hv4.box.alloc o).frozen 2
    have hd3 : Rd w4 a3 n3 x.2 := by have := HH.out.2.1.here.toRdPg.data; rw [HX.out.2.1] at this; exact this
    have HD3 := kept hd3
    have hnx : X.next = next := HH.out.2.1.here.toRdPg.next
    have hch := HX.out.2.2
    rw [hnx] at hch
    have HCH := kept hch
    have h3l : x.2.length = n3 := hd3.1
    have hnn : n1 + n3 ≤ sz := by
     have h1 := HL.out.en
     have h2 := HSZ.out
     rw [HL.out.cat, bytesP_append, List.length_append] at h2
     have h4 : (bytesP (x :: rest)).length = x.2.length + (bytesP rest).length := by simp [bytesP]
     omega
    have hemp : rest.isEmpty = decide (next = 0) := by
     cases rest with
     | nil => have : next = 0 := hch; subst this; rfl
     | cons y rs =>
       have h1 : 2 ≤ y.1 ∧ y.1 < P.M.size := by simpa [finB] using hch.2.1
       have h2 : next = y.1 := hch.1
       have h3 : ¬ next = 0 := by omega
       simp [h3]
    have hfl : (x.2.length == 237) = decide (n3 = 237) := by rw [h3l]; rfl
    have hfi : fillP (f && (decide (next = 0) || decide (n3 = 237))) rest = fillP true l := by rw [← hemp, ← hfl]; exact HL.out.fi
    have HFI := kept hfi
    have hgt : ¬ (sz : Int) < (n1 : Int) + (n3 : Int) := by omega
    have h0n1 : (n1 : Int) + (n3 : Int) ≤ 100000 := by omega
    have HM := kept (And.intro h3l (And.intro hnn hlen))
    clear hv4 hd3 hnx hch h3l hnn hemp hfl hfi hlen hne
    have four : (f = false ∧ (f && (decide (next = 0) || decide (n3 = 237))) = false) ∨ (f = true ∧ next = 0 ∧ (f && (decide (next = 0) || decide (n3 = 237))) = true) ∨ (f = true ∧ ¬ next = 0 ∧ n3 = 237 ∧ (f && (decide (next = 0) || decide (n3 = 237))) = true) ∨ (f = true ∧ ¬ next = 0 ∧ ¬ n3 = 237 ∧ (f && (decide (next = 0) || decide (n3 = 237))) = false) := by
     cases f with
     | false => exact .inl ⟨rfl, rfl⟩
     | true =>
       by_cases h1 : next = 0
       · exact .inr (.inl ⟨rfl, h1, by simp [h1]⟩)
       · by_cases h2 : n3 = 237
         · exact .inr (.inr (.inl ⟨rfl, h1, h2, by simp [h2]⟩))
         · exact .inr (.inr (.inr ⟨rfl, h1, h2, by simp [h1, h2]⟩))
    rcases four with ⟨hf1, hg⟩ | ⟨hf1, hn0, hg⟩ | ⟨hf1, hn0, h37, hg⟩ | ⟨hf1, hn0, h37, hg⟩
    · rw [hg] at HFI
      clear hg
      subst hf1
      have hm4 : n1 + n3 ≤ 1000000 := by omega
      have hm9 : m1 + 1 ≤ 1000000 := by have := HM.out; omega
      go_wp2
      have hb5 := (Below.refl w4.heap.size w4).alloc (Nat.le_refl _) (.cells #[.int .i64 3, .int .u64 txn, .int .i64 next, .slice a1 k1 kc1, .slice a2 k2 kc2, .slice a3 n3 k3, .slice a4 k4 kc4] 137)
      have hv5 := (HV4.out.on hb5).put H.out 2 (.bool false)
      simp only [List.set_cons_zero, List.set_cons_succ] at hv5
      have hq4 : w.heap.size + 2 < w4.heap.size := HV4.out.box.lt
      have hx5 : Blk ((w4.alloc (.cells #[.int .i64 3, .int .u64 txn, .int .i64 next, .slice a1 k1 kc1, .slice a2 k2 kc2, .slice a3 n3 k3, .slice a4 k4 kc4] 137)).setCell ⟨w.heap.size + 2, 2, none⟩ (.bool false)) w4.heap.size 137 [.int .i64 3, .int .u64 txn, .int .i64 next, .slice a1 k1 kc1, .slice a2 k2 kc2, .slice a3 n3 k3, .slice a4 k4 kc4] := (Blk.new w4 137 #[.int .i64 3, .int .u64 txn, .int .i64 next, .slice a1 k1 kc1, .slice a2 k2 kc2, .slice a3 n3 k3, .slice a4 k4 kc4]).far (by show w4.heap.size ≠ w.heap.size + 2; omega) _
      have tq5 : Turned (w4.alloc (.cells #[.int .i64 3, .int .u64 txn, .int .i64 next, .slice a1 k1 kc1, .slice a2 k2 kc2, .slice a3 n3 k3, .slice a4 k4 kc4] 137)) ((w4.alloc (.cells #[.int .i64 3, .int .u64 txn, .int .i64 next, .slice a1 k1 kc1, .slice a2 k2 kc2, .slice a3 n3 k3, .slice a4 k4 kc4] 137)).setCell ⟨w.heap.size + 2, 2, none⟩ (.bool false)) (fun k => k = w.heap.size + 2) := (Turned.refl _ (fun k => k = w.heap.size + 2)).setCell (T := fun k => k = w.heap.size + 2) (p := ⟨w.heap.size + 2, 2, none⟩) (fun _ => rfl) _
      have hd5 : Rd ((w4.alloc (.cells #[.int .i64 3, .int .u64 txn, .int .i64 next, .slice a1 k1 kc1, .slice a2 k2 kc2, .slice a3 n3 k3, .slice a4 k4 kc4] 137)).setCell ⟨w.heap.size + 2, 2, none⟩ (.bool false)) a3 n3 x.2 := by
       have h1 := ((HH.out.2.1.below hb5).turned tq5 (fun k hk e => by have h2 := (HH.out.2.2.2.1 k hk).1; have h3 := HL.out.vs.box.lt; omega)).here.toRdPg.data
       rw [HX.out.2.1] at h1; exact h1
      generalize ((w4.alloc (.cells #[.int .i64 3, .int .u64 txn, .int .i64 next, .slice a1 k1 kc1, .slice a2 k2 kc2, .slice a3 n3 k3, .slice a4 k4 kc4] 137)).setCell ⟨w.heap.size + 2, 2, none⟩ (.bool false)) = W5 at hv5 hx5 hd5 ⊢
      have HVd := kept (hv5.on (Below.refl _ W5).drew)
      have HVa := fun o => kept (hv5.on (below_ad W5 o))
      have HXd := kept (hx5.below (Below.refl _ W5).drew hx5.lt)
      have HXa := fun o => kept (hx5.below (below_ad W5 o) hx5.lt)
      have HDd := kept (hd5.below (Below.refl _ W5).drew)
      have HDa := fun o => kept (hd5.below (below_ad W5 o))
      have HSd := kept (show ((fun W' => W'.cell? ⟨w.heap.size + 2, 0, none⟩ = some (.slice A1 n1 c1) ∧ W'.cell? ⟨w.heap.size + 2, 1, none⟩ = some (.slice B1 m1 d1) ∧ W'.cell? ⟨w4.heap.size, 5, none⟩ = some (.slice a3 n3 k3))) W5.drew from ⟨HVd.out.box.cell 0, HVd.out.box.cell 1, HXd.out.cell 5⟩)
      have HSa := fun o => kept (show ((fun W' => W'.cell? ⟨w.heap.size + 2, 0, none⟩ = some (.slice A1 n1 c1) ∧ W'.cell? ⟨w.heap.size + 2, 1, none⟩ = some (.slice B1 m1 d1) ∧ W'.cell? ⟨w4.heap.size, 5, none⟩ = some (.slice a3 n3 k3))) (W5.alloc o).drew from ⟨(HVa o).out.box.cell 0, (HVa o).out.box.cell 1, (HXa o).out.cell 5⟩)
      clear hv5 hx5 hd5 tq5 hb5 q0 q2 i2 f2
      refine region_L [11, 13] ((fun W' => W'.cell? ⟨w.heap.size + 2, 0, none⟩ = some (.slice A1 n1 c1) ∧ W'.cell? ⟨w.heap.size + 2, 1, none⟩ = some (.slice B1 m1 d1) ∧ W'.cell? ⟨w4.heap.size, 5, none⟩ = some (.slice a3 n3 k3))) (by kernel_rfl) ?_ (fun hHeld => ?_)
      · ((try dsimp only); (first | with_reducible exact HSd.out | with_reducible exact (HSa _).out | with_reducible exact HS7.out | with_reducible exact HS6.out | with_reducible exact (HS6a _).out))
      (try simp only [List.size_toArray, List.length_cons, List.length_nil, Nat.reduceAdd, Array.replicate_succ, Array.replicate_zero, List.push_toArray, List.append_toArray, List.nil_append, List.cons_append])
      refine take_P 0 (some 57) ?_ (by (intro o ho w; (simp only [List.getElem?_toArray, List.getElem?_cons_succ, List.getElem?_cons_zero, Option.some.injEq] at ho); subst ho; go_simp; (first | done | with_reducible rfl))) (by ((try simp only [Act.put, hA, h0, h1]); (first | done | rfl))) (by first | exact fun _ => by assumption | exact fun hE => absurd hE (by decide))
      (try simp only [Act.put, List.setIfInBounds_toArray, List.set_cons_zero, List.set_cons_succ])
      refine take_L 1 (some 58) ?_ (by (intro o ho w hSw; (simp only [List.getElem?_toArray, List.getElem?_cons_succ, List.getElem?_cons_zero, Option.some.injEq] at ho); subst ho; (try dsimp only at hSw); go_simp; (first | done | with_reducible rfl))) (by ((try simp only [Act.put, hA, h0, h1]); (first | done | rfl)))
      (try simp only [Act.put, List.setIfInBounds_toArray, List.set_cons_zero, List.set_cons_succ])
      refine take_P 2 (some 59) ?_ (by (intro o ho w; (simp only [List.getElem?_toArray, List.getElem?_cons_succ, List.getElem?_cons_zero, Option.some.injEq] at ho); subst ho; go_simp; (first | done | with_reducible rfl))) (by ((try simp only [Act.put, hA, h0, h1]); (first | done | rfl))) (by first | exact fun _ => by assumption | exact fun hE => absurd hE (by decide))
      (try simp only [Act.put, List.setIfInBounds_toArray, List.set_cons_zero, List.set_cons_succ])
      refine take_L 3 (some 60) ?_ (by (intro o ho w hSw; (simp only [List.getElem?_toArray, List.getElem?_cons_succ, List.getElem?_cons_zero, Option.some.injEq] at ho); subst ho; (try dsimp only at hSw); go_simp; (first | done | with_reducible rfl))) (by ((try simp only [Act.put, hA, h0, h1]); (first | done | rfl)))
      (try simp only [Act.put, List.setIfInBounds_toArray, List.set_cons_zero, List.set_cons_succ])
      refine take_P 5 (some 62) ?_ (by (intro o ho w; (simp only [List.getElem?_toArray, List.getElem?_cons_succ, List.getElem?_cons_zero, Option.some.injEq] at ho); subst ho; go_simp; (first | done | with_reducible rfl))) (by ((try simp only [Act.put, hA, h0, h1]); (first | done | rfl))) (by first | exact fun _ => by assumption | exact fun hE => absurd hE (by decide))
      (try simp only [Act.put, List.setIfInBounds_toArray, List.set_cons_zero, List.set_cons_succ])
      refine take_L 6 (some 63) ?_ (by (intro o ho w hSw; (simp only [List.getElem?_toArray, List.getElem?_cons_succ, List.getElem?_cons_zero, Option.some.injEq] at ho); subst ho; (try dsimp only at hSw); go_simp; (first | done | with_reducible rfl))) (by ((try simp only [Act.put, hA, h0, h1]); (first | done | rfl)))
      (try simp only [Act.put, List.setIfInBounds_toArray, List.set_cons_zero, List.set_cons_succ])
      refine take_P 7 (some 64) ?_ (by (intro o ho w; (simp only [List.getElem?_toArray, List.getElem?_cons_succ, List.getElem?_cons_zero, Option.some.injEq] at ho); subst ho; go_simp; (first | done | with_reducible rfl))) (by ((try simp only [Act.put, hA, h0, h1]); (first | done | rfl))) (by first | exact fun _ => by assumption | exact fun hE => absurd hE (by decide))
      (try simp only [Act.put, List.setIfInBounds_toArray, List.set_cons_zero, List.set_cons_succ])
      refine two_L 4 8 (fun o ho K hK => ?_) (fun o ho K hK => ?_)
      · (simp only [List.getElem?_toArray, List.getElem?_cons_succ, List.getElem?_cons_zero, Option.some.injEq] at ho)
        subst ho
        ((first | refine wp_append_b (.tmp 58) (.tmp 60) rfl rfl rfl HVd.out.ob HDd.out hm4 ?_ | refine wp_append_b (.tmp 58) (.tmp 60) rfl rfl rfl (HVa _).out.ob (HDa _).out hm4 ?_); intro A6 c6 w6 h6 t6 g6; (have HV6 : Hid (ValS a w r t R p P S A A4 (n + m1 + 1) c4 (M ++ idsP l1 ++ [x.1]) A6 (n1 + n3) c6 (bytesP l1 ++ x.2) B1 m1 d1 (idsP l1) [.slice A1 n1 c1, .slice B1 m1 d1, .bool false] [.slice ka kn kc, .slice none 0 0, .int .i64 (sz : Int), .int .i64 more] w6) := kept (by first | exact HVd.out.appB H.out h6 t6 g6 | exact (HVa _).out.appB H.out h6 t6 g6)); (have HX6 : Hid (Blk w6 w4.heap.size 137 [.int .i64 3, .int .u64 txn, .int .i64 next, .slice a1 k1 kc1, .slice a2 k2 kc2, .slice a3 n3 k3, .slice a4 k4 kc4]) := kept (by first | exact t6.blk HXd.out (fun e => absurd ((HVd.out.ob.cl e).uniq HXd.out.cl) (by decide)) | exact t6.blk (HXa (.cells #[.int .i64 x.1] 3)).out (fun e => absurd (((HVa (.cells #[.int .i64 x.1] 3)).out.ob.cl e).uniq (HXa (.cells #[.int .i64 x.1] 3)).out.cl) (by decide)))); (try (have HI6 : Hid (RdI w6 (some ⟨W5.heap.size, 0, none⟩) 1 [x.1]) := kept (by exact ((RdI.oneI W5 x.1).below (Below.refl _ _).drew).turned t6 (fun g e e2 => by cases e; have h9 := (HVd.out.ob.cl e2).lt; simp at h9))));  (have HS6 := kept (show ((fun W' => W'.cell? ⟨w.heap.size + 2, 0, none⟩ = some (.slice A1 n1 c1) ∧ W'.cell? ⟨w.heap.size + 2, 1, none⟩ = some (.slice B1 m1 d1) ∧ W'.cell? ⟨w4.heap.size, 5, none⟩ = some (.slice a3 n3 k3))) w6 from ⟨HV6.out.box.cell 0, HV6.out.box.cell 1, HX6.out.cell 5⟩)); (have HS6a := fun o => kept (show ((fun W' => W'.cell? ⟨w.heap.size + 2, 0, none⟩ = some (.slice A1 n1 c1) ∧ W'.cell? ⟨w.heap.size + 2, 1, none⟩ = some (.slice B1 m1 d1) ∧ W'.cell? ⟨w4.heap.size, 5, none⟩ = some (.slice a3 n3 k3))) (w6.alloc o) from ⟨(HV6.out.box.alloc o).cell 0, (HV6.out.box.alloc o).cell 1, (HX6.out.alloc o).cell 5⟩)); clear h6 t6 g6)
        refine hK.out _ _ ?_ (fun hHeld => ?_)
        · (first | exact fun hE => absurd hE (by decide) | (intro _; (try dsimp only); (first | with_reducible exact HSd.out | with_reducible exact (HSa _).out | with_reducible exact HS7.out | with_reducible exact HS6.out | with_reducible exact (HS6a _).out)))
        clear hK K
        (try replace hHeld := hHeld (by decide))
        (try simp only [Act.put, List.setIfInBounds_toArray, List.set_cons_zero, List.set_cons_succ])
        refine take_P 10 (some 67) ?_ (by (intro o ho w; (simp only [List.getElem?_toArray, List.getElem?_cons_succ, List.getElem?_cons_zero, Option.some.injEq] at ho); subst ho; go_simp; (first | done | with_reducible rfl))) (by ((try simp only [Act.put, hA, h0, h1]); (first | done | rfl))) (by first | exact fun _ => by assumption | exact fun hE => absurd hE (by decide))
        (try simp only [Act.put, List.setIfInBounds_toArray, List.set_cons_zero, List.set_cons_succ])
        refine ready_L 8 (fun o ho K hK => ?_)
        (simp only [List.getElem?_toArray, List.getElem?_cons_succ, List.getElem?_cons_zero, Option.some.injEq] at ho)
        subst ho
        go_simp
        refine hK.out _ _ ?_ (fun hHeld => ?_)
        · (first | exact fun hE => absurd hE (by decide) | (intro _; (try dsimp only); (first | with_reducible exact HSd.out | with_reducible exact (HSa _).out | with_reducible exact HS7.out | with_reducible exact HS6.out | with_reducible exact (HS6a _).out)))
        clear hK K
        (try replace hHeld := hHeld (by decide))
        (try simp only [Act.put, List.setIfInBounds_toArray, List.set_cons_zero, List.set_cons_succ])
        refine ready_L 9 (fun o ho K hK => ?_)
        (simp only [List.getElem?_toArray, List.getElem?_cons_succ, List.getElem?_cons_zero, Option.some.injEq] at ho)
        subst ho
        ((first | refine wp_append_i (.tmp 63) (.tmp 65) rfl rfl rfl HV6.out.oi HI6.out hm9 ?_ | refine wp_append_i (.tmp 63) (.tmp 65) rfl rfl rfl (HV6.out.on ((Below.refl _ w6).alloc (Nat.le_refl _) _)).oi (RdI.oneI w6 x.1) hm9 ?_); intro B7 d7 w7 h7 t7 g7; (have HV7 : Hid (ValS a w r t R p P S A A4 (n + m1 + 1) c4 (M ++ idsP l1 ++ [x.1]) A6 (n1 + n3) c6 (bytesP l1 ++ x.2) B7 (m1 + 1) d7 (idsP l1 ++ [x.1]) [.slice A1 n1 c1, .slice B1 m1 d1, .bool false] [.slice ka kn kc, .slice none 0 0, .int .i64 (sz : Int), .int .i64 more] w7) := kept (by first | exact HV6.out.appI H.out h7 t7 g7 | exact (HV6.out.on ((Below.refl _ w6).alloc (Nat.le_refl _) _)).appI H.out h7 t7 g7)); (have HX7 : Hid (Blk w7 w4.heap.size 137 [.int .i64 3, .int .u64 txn, .int .i64 next, .slice a1 k1 kc1, .slice a2 k2 kc2, .slice a3 n3 k3, .slice a4 k4 kc4]) := kept (by first | exact t7.blk HX6.out (fun e => absurd ((HV6.out.oi.cl e).uniq HX6.out.cl) (by decide)) | exact t7.blk (HX6.out.alloc (.cells #[.int .i64 x.1] 3)) (fun e => absurd (((HV6.out.on ((Below.refl _ w6).alloc (Nat.le_refl _) (.cells #[.int .i64 x.1] 3))).oi.cl e).uniq (HX6.out.alloc (.cells #[.int .i64 x.1] 3)).cl) (by decide)))); (have HS7 := kept (show ((fun W' => W'.cell? ⟨w.heap.size + 2, 0, none⟩ = some (.slice A1 n1 c1) ∧ W'.cell? ⟨w.heap.size + 2, 1, none⟩ = some (.slice B1 m1 d1) ∧ W'.cell? ⟨w4.heap.size, 5, none⟩ = some (.slice a3 n3 k3))) w7 from ⟨HV7.out.box.cell 0, HV7.out.box.cell 1, HX7.out.cell 5⟩)); have z0 : w7.cell? ⟨w.heap.size + 2, 0, none⟩ = some (.slice A1 n1 c1) := HV7.out.box.cell 0; have z1 : w7.cell? ⟨w.heap.size + 2, 1, none⟩ = some (.slice B1 m1 d1) := HV7.out.box.cell 1; have v0 := HV7.out.box.frozen 0; have v1 := HV7.out.box.frozen 1; clear h7 t7 g7)
        refine hK.out _ _ ?_ (fun hHeld => ?_)
        · (first | exact fun hE => absurd hE (by decide) | (intro _; (try dsimp only); (first | with_reducible exact HSd.out | with_reducible exact (HSa _).out | with_reducible exact HS7.out | with_reducible exact HS6.out | with_reducible exact (HS6a _).out)))
        clear hK K
        (try replace hHeld := hHeld (by decide))
        (try simp only [Act.put, List.setIfInBounds_toArray, List.set_cons_zero, List.set_cons_succ])
        refine ready_L 11 (fun o ho K hK => ?_)
        (simp only [List.getElem?_toArray, List.getElem?_cons_succ, List.getElem?_cons_zero, Option.some.injEq] at ho)
        subst ho
        go_simp
        refine hK.out _ _ ?_ (fun hHeld => ?_)
        · (first | exact fun hE => absurd hE (by decide) | (intro _; (try dsimp only); (first | with_reducible exact HSd.out | with_reducible exact (HSa _).out | with_reducible exact HS7.out | with_reducible exact HS6.out | with_reducible exact (HS6a _).out)))
        clear hK K
        (try replace hHeld := hHeld (by decide))
        (try simp only [Act.put, List.setIfInBounds_toArray, List.set_cons_zero, List.set_cons_succ])
        refine take_P 12 (some 68) ?_ (by (intro o ho w; (simp only [List.getElem?_toArray, List.getElem?_cons_succ, List.getElem?_cons_zero, Option.some.injEq] at ho); subst ho; go_simp; (first | done | with_reducible rfl))) (by ((try simp only [Act.put, hA, h0, h1]); (first | done | rfl))) (by first | exact fun _ => by assumption | exact fun hE => absurd hE (by decide))
        (try simp only [Act.put, List.setIfInBounds_toArray, List.set_cons_zero, List.set_cons_succ])
        refine ready_L 13 (fun o ho K hK => ?_)
        (simp only [List.getElem?_toArray, List.getElem?_cons_succ, List.getElem?_cons_zero, Option.some.injEq] at ho)
        subst ho
        go_simp
        refine hK.out _ _ ?_ (fun hHeld => ?_)
        · (first | exact fun hE => absurd hE (by decide) | (intro _; (try dsimp only); (first | with_reducible exact HSd.out | with_reducible exact (HSa _).out | with_reducible exact HS7.out | with_reducible exact HS6.out | with_reducible exact (HS6a _).out)))
        clear hK K
        (try replace hHeld := hHeld (by decide))
        (try simp only [Act.put, List.setIfInBounds_toArray, List.set_cons_zero, List.set_cons_succ])
        refine done_L (by kernel_rfl) ?_ _
        (have hx9 := HX7.out; have hv9 := ((HV7.out.put H.out 0 (.slice A6 (n1 + n3) c6)).put H.out 1 (.slice B7 (m1 + 1) d7)); simp only [List.set_cons_zero, List.set_cons_succ] at hv9; have hx10 : Blk ((w7.setCell ⟨w.heap.size + 2, 0, none⟩ (.slice A6 (n1 + n3) c6)).setCell ⟨w.heap.size + 2, 1, none⟩ (.slice B7 (m1 + 1) d7)) w4.heap.size 137 [.int .i64 3, .int .u64 txn, .int .i64 next, .slice a1 k1 kc1, .slice a2 k2 kc2, .slice a3 n3 k3, .slice a4 k4 kc4] := (HX7.out.far (by show w4.heap.size ≠ w.heap.size + 2; omega) _).far (by show w4.heap.size ≠ w.heap.size + 2; omega) _; generalize ((w7.setCell ⟨w.heap.size + 2, 0, none⟩ (.slice A6 (n1 + n3) c6)).setCell ⟨w.heap.size + 2, 1, none⟩ (.slice B7 (m1 + 1) d7)) = W9 at hv9 hx10 ⊢; have y2 : W9.cell? ⟨w4.heap.size, 2, none⟩ = some (.int .i64 next) := hx10.cell 2; (have hid : M ++ idsP (l1 ++ [x]) = M ++ idsP l1 ++ [x.1] := by rw [idsP_append, ← List.append_assoc]; rfl); (have hby : bytesP (l1 ++ [x]) = bytesP l1 ++ x.2 := by rw [bytesP_append]; simp [bytesP]); (have hid2 : idsP (l1 ++ [x]) = idsP l1 ++ [x.1] := by rw [idsP_append]; rfl); (have HE : Hid (RelV a w r t R p P S A n M l [.slice ka kn kc, .slice none 0 0, .int .i64 (sz : Int), .int .i64 more] next (l1 ++ [x]) rest false A4 c4 A6 (n1 + n3) c6 B7 (m1 + 1) d7 W9) := kept ⟨by rw [List.append_assoc]; exact HL.out.cat, HCH.out, HFI.out, by rw [hby, List.length_append, ← HL.out.en, HM.out.1], by rw [List.length_append, ← HL.out.em]; rfl, by rw [hid, hby, hid2]; exact hv9⟩); clear hv9 hx10 hx9 hid hby hid2; go_wp2; go_roundg rest.length; (case measure => (have := HGK.out; simp at this; omega)); (case rel => exact ⟨next, l1 ++ [x], rest, false, A4, c4, A6, n1 + n3, c6, B7, m1 + 1, d7, rfl, rfl, HE⟩))
      · (simp only [List.getElem?_toArray, List.getElem?_cons_succ, List.getElem?_cons_zero, Option.some.injEq] at ho)
        subst ho
        go_simp
        refine hK.out _ _ ?_ (fun hHeld => ?_)
        · (first | exact fun hE => absurd hE (by decide) | (intro _; (try dsimp only); (first | with_reducible exact HSd.out | with_reducible exact (HSa _).out | with_reducible exact HS7.out | with_reducible exact HS6.out | with_reducible exact (HS6a _).out)))
        clear hK K
        (try replace hHeld := hHeld (by decide))
        (try simp only [Act.put, List.setIfInBounds_toArray, List.set_cons_zero, List.set_cons_succ])
        refine ready_L 4 (fun o ho K hK => ?_)
        (simp only [List.getElem?_toArray, List.getElem?_cons_succ, List.getElem?_cons_zero, Option.some.injEq] at ho)
        subst ho
        ((first | refine wp_append_b (.tmp 58) (.tmp 60) rfl rfl rfl HVd.out.ob HDd.out hm4 ?_ | refine wp_append_b (.tmp 58) (.tmp 60) rfl rfl rfl (HVa _).out.ob (HDa _).out hm4 ?_); intro A6 c6 w6 h6 t6 g6; (have HV6 : Hid (ValS a w r t R p P S A A4 (n + m1 + 1) c4 (M ++ idsP l1 ++ [x.1]) A6 (n1 + n3) c6 (bytesP l1 ++ x.2) B1 m1 d1 (idsP l1) [.slice A1 n1 c1, .slice B1 m1 d1, .bool false] [.slice ka kn kc, .slice none 0 0, .int .i64 (sz : Int), .int .i64 more] w6) := kept (by first | exact HVd.out.appB H.out h6 t6 g6 | exact (HVa _).out.appB H.out h6 t6 g6)); (have HX6 : Hid (Blk w6 w4.heap.size 137 [.int .i64 3, .int .u64 txn, .int .i64 next, .slice a1 k1 kc1, .slice a2 k2 kc2, .slice a3 n3 k3, .slice a4 k4 kc4]) := kept (by first | exact t6.blk HXd.out (fun e => absurd ((HVd.out.ob.cl e).uniq HXd.out.cl) (by decide)) | exact t6.blk (HXa (.cells #[.int .i64 x.1] 3)).out (fun e => absurd (((HVa (.cells #[.int .i64 x.1] 3)).out.ob.cl e).uniq (HXa (.cells #[.int .i64 x.1] 3)).out.cl) (by decide)))); (try (have HI6 : Hid (RdI w6 (some ⟨W5.heap.size, 0, none⟩) 1 [x.1]) := kept (by exact ((RdI.oneI W5 x.1).below (Below.refl _ _).drew).turned t6 (fun g e e2 => by cases e; have h9 := (HVd.out.ob.cl e2).lt; simp at h9))));  (have HS6 := kept (show ((fun W' => W'.cell? ⟨w.heap.size + 2, 0, none⟩ = some (.slice A1 n1 c1) ∧ W'.cell? ⟨w.heap.size + 2, 1, none⟩ = some (.slice B1 m1 d1) ∧ W'.cell? ⟨w4.heap.size, 5, none⟩ = some (.slice a3 n3 k3))) w6 from ⟨HV6.out.box.cell 0, HV6.out.box.cell 1, HX6.out.cell 5⟩)); (have HS6a := fun o => kept (show ((fun W' => W'.cell? ⟨w.heap.size + 2, 0, none⟩ = some (.slice A1 n1 c1) ∧ W'.cell? ⟨w.heap.size + 2, 1, none⟩ = some (.slice B1 m1 d1) ∧ W'.cell? ⟨w4.heap.size, 5, none⟩ = some (.slice a3 n3 k3))) (w6.alloc o) from ⟨(HV6.out.box.alloc o).cell 0, (HV6.out.box.alloc o).cell 1, (HX6.out.alloc o).cell 5⟩)); clear h6 t6 g6)
        refine hK.out _ _ ?_ (fun hHeld => ?_)
        · (first | exact fun hE => absurd hE (by decide) | (intro _; (try dsimp only); (first | with_reducible exact HSd.out | with_reducible exact (HSa _).out | with_reducible exact HS7.out | with_reducible exact HS6.out | with_reducible exact (HS6a _).out)))
        clear hK K
        (try replace hHeld := hHeld (by decide))
        (try simp only [Act.put, List.setIfInBounds_toArray, List.set_cons_zero, List.set_cons_succ])
        refine take_P 10 (some 67) ?_ (by (intro o ho w; (simp only [List.getElem?_toArray, List.getElem?_cons_succ, List.getElem?_cons_zero, Option.some.injEq] at ho); subst ho; go_simp; (first | done | with_reducible rfl))) (by ((try simp only [Act.put, hA, h0, h1]); (first | done | rfl))) (by first | exact fun _ => by assumption | exact fun hE => absurd hE (by decide))
        (try simp only [Act.put, List.setIfInBounds_toArray, List.set_cons_zero, List.set_cons_succ])
        refine ready_L 9 (fun o ho K hK => ?_)
        (simp only [List.getElem?_toArray, List.getElem?_cons_succ, List.getElem?_cons_zero, Option.some.injEq] at ho)
        subst ho
        ((first | refine wp_append_i (.tmp 63) (.tmp 65) rfl rfl rfl HV6.out.oi HI6.out hm9 ?_ | refine wp_append_i (.tmp 63) (.tmp 65) rfl rfl rfl (HV6.out.on ((Below.refl _ w6).alloc (Nat.le_refl _) _)).oi (RdI.oneI w6 x.1) hm9 ?_); intro B7 d7 w7 h7 t7 g7; (have HV7 : Hid (ValS a w r t R p P S A A4 (n + m1 + 1) c4 (M ++ idsP l1 ++ [x.1]) A6 (n1 + n3) c6 (bytesP l1 ++ x.2) B7 (m1 + 1) d7 (idsP l1 ++ [x.1]) [.slice A1 n1 c1, .slice B1 m1 d1, .bool false] [.slice ka kn kc, .slice none 0 0, .int .i64 (sz : Int), .int .i64 more] w7) := kept (by first | exact HV6.out.appI H.out h7 t7 g7 | exact (HV6.out.on ((Below.refl _ w6).alloc (Nat.le_refl _) _)).appI H.out h7 t7 g7)); (have HX7 : Hid (Blk w7 w4.heap.size 137 [.int .i64 3, .int .u64 txn, .int .i64 next, .slice a1 k1 kc1, .slice a2 k2 kc2, .slice a3 n3 k3, .slice a4 k4 kc4]) := kept (by first | exact t7.blk HX6.out (fun e => absurd ((HV6.out.oi.cl e).uniq HX6.out.cl) (by decide)) | exact t7.blk (HX6.out.alloc (.cells #[.int .i64 x.1] 3)) (fun e => absurd (((HV6.out.on ((Below.refl _ w6).alloc (Nat.le_refl _) (.cells #[.int .i64 x.1] 3))).oi.cl e).uniq (HX6.out.alloc (.cells #[.int .i64 x.1] 3)).cl) (by decide)))); (have HS7 := kept (show ((fun W' => W'.cell? ⟨w.heap.size + 2, 0, none⟩ = some (.slice A1 n1 c1) ∧ W'.cell? ⟨w.heap.size + 2, 1, none⟩ = some (.slice B1 m1 d1) ∧ W'.cell? ⟨w4.heap.size, 5, none⟩ = some (.slice a3 n3 k3))) w7 from ⟨HV7.out.box.cell 0, HV7.out.box.cell 1, HX7.out.cell 5⟩)); have z0 : w7.cell? ⟨w.heap.size + 2, 0, none⟩ = some (.slice A1 n1 c1) := HV7.out.box.cell 0; have z1 : w7.cell? ⟨w.heap.size + 2, 1, none⟩ = some (.slice B1 m1 d1) := HV7.out.box.cell 1; have v0 := HV7.out.box.frozen 0; have v1 := HV7.out.box.frozen 1; clear h7 t7 g7)
        refine hK.out _ _ ?_ (fun hHeld => ?_)
        · (first | exact fun hE => absurd hE (by decide) | (intro _; (try dsimp only); (first | with_reducible exact HSd.out | with_reducible exact (HSa _).out | with_reducible exact HS7.out | with_reducible exact HS6.out | with_reducible exact (HS6a _).out)))
        clear hK K
        (try replace hHeld := hHeld (by decide))
        (try simp only [Act.put, List.setIfInBounds_toArray, List.set_cons_zero, List.set_cons_succ])
        refine ready_L 11 (fun o ho K hK => ?_)
        (simp only [List.getElem?_toArray, List.getElem?_cons_succ, List.getElem?_cons_zero, Option.some.injEq] at ho)
        subst ho
        go_simp
        refine hK.out _ _ ?_ (fun hHeld => ?_)
        · (first | exact fun hE => absurd hE (by decide) | (intro _; (try dsimp only); (first | with_reducible exact HSd.out | with_reducible exact (HSa _).out | with_reducible exact HS7.out | with_reducible exact HS6.out | with_reducible exact (HS6a _).out)))
        clear hK K
        (try replace hHeld := hHeld (by decide))
        (try simp only [Act.put, List.setIfInBounds_toArray, List.set_cons_zero, List.set_cons_succ])
        refine take_P 12 (some 68) ?_ (by (intro o ho w; (simp only [List.getElem?_toArray, List.getElem?_cons_succ, List.getElem?_cons_zero, Option.some.injEq] at ho); subst ho; go_simp; (first | done | with_reducible rfl))) (by ((try simp only [Act.put, hA, h0, h1]); (first | done | rfl))) (by first | exact fun _ => by assumption | exact fun hE => absurd hE (by decide))
        (try simp only [Act.put, List.setIfInBounds_toArray, List.set_cons_zero, List.set_cons_succ])
        refine ready_L 13 (fun o ho K hK => ?_)
        (simp only [List.getElem?_toArray, List.getElem?_cons_succ, List.getElem?_cons_zero, Option.some.injEq] at ho)
        subst ho
        go_simp
        refine hK.out _ _ ?_ (fun hHeld => ?_)
        · (first | exact fun hE => absurd hE (by decide) | (intro _; (try dsimp only); (first | with_reducible exact HSd.out | with_reducible exact (HSa _).out | with_reducible exact HS7.out | with_reducible exact HS6.out | with_reducible exact (HS6a _).out)))
        clear hK K
        (try replace hHeld := hHeld (by decide))
        (try simp only [Act.put, List.setIfInBounds_toArray, List.set_cons_zero, List.set_cons_succ])
        refine done_L (by kernel_rfl) ?_ _
        (have hx9 := HX7.out; have hv9 := ((HV7.out.put H.out 0 (.slice A6 (n1 + n3) c6)).put H.out 1 (.slice B7 (m1 + 1) d7)); simp only [List.set_cons_zero, List.set_cons_succ] at hv9; have hx10 : Blk ((w7.setCell ⟨w.heap.size + 2, 0, none⟩ (.slice A6 (n1 + n3) c6)).setCell ⟨w.heap.size + 2, 1, none⟩ (.slice B7 (m1 + 1) d7)) w4.heap.size 137 [.int .i64 3, .int .u64 txn, .int .i64 next, .slice a1 k1 kc1, .slice a2 k2 kc2, .slice a3 n3 k3, .slice a4 k4 kc4] := (HX7.out.far (by show w4.heap.size ≠ w.heap.size + 2; omega) _).far (by show w4.heap.size ≠ w.heap.size + 2; omega) _; generalize ((w7.setCell ⟨w.heap.size + 2, 0, none⟩ (.slice A6 (n1 + n3) c6)).setCell ⟨w.heap.size + 2, 1, none⟩ (.slice B7 (m1 + 1) d7)) = W9 at hv9 hx10 ⊢; have y2 : W9.cell? ⟨w4.heap.size, 2, none⟩ = some (.int .i64 next) := hx10.cell 2; (have hid : M ++ idsP (l1 ++ [x]) = M ++ idsP l1 ++ [x.1] := by rw [idsP_append, ← List.append_assoc]; rfl); (have hby : bytesP (l1 ++ [x]) = bytesP l1 ++ x.2 := by rw [bytesP_append]; simp [bytesP]); (have hid2 : idsP (l1 ++ [x]) = idsP l1 ++ [x.1] := by rw [idsP_append]; rfl); (have HE : Hid (RelV a w r t R p P S A n M l [.slice ka kn kc, .slice none 0 0, .int .i64 (sz : Int), .int .i64 more] next (l1 ++ [x]) rest false A4 c4 A6 (n1 + n3) c6 B7 (m1 + 1) d7 W9) := kept ⟨by rw [List.append_assoc]; exact HL.out.cat, HCH.out, HFI.out, by rw [hby, List.length_append, ← HL.out.en, HM.out.1], by rw [List.length_append, ← HL.out.em]; rfl, by rw [hid, hby, hid2]; exact hv9⟩); clear hv9 hx10 hx9 hid hby hid2; go_wp2; go_roundg rest.length; (case measure => (have := HGK.out; simp at this; omega)); (case rel => exact ⟨next, l1 ++ [x], rest, false, A4, c4, A6, n1 + n3, c6, B7, m1 + 1, d7, rfl, rfl, HE⟩))
    · rw [hg] at HFI
      clear hg
      subst hf1
      subst hn0
      have hm4 : n1 + n3 ≤ 1000000 := by omega
      have hm9 : m1 + 1 ≤ 1000000 := by have := HM.out; omega
      go_wp2
      have hb5 := (Below.refl w4.heap.size w4).alloc (Nat.le_refl _) (.cells #[.int .i64 3, .int .u64 txn, .int .i64 0, .slice a1 k1 kc1, .slice a2 k2 kc2, .slice a3 n3 k3, .slice a4 k4 kc4] 137)
      have hv5 := (HV4.out.on hb5).put H.out 2 (.bool true)
      simp only [List.set_cons_zero, List.set_cons_succ] at hv5
      have hq4 : w.heap.size + 2 < w4.heap.size := HV4.out.box.lt
      have hx5 : Blk ((w4.alloc (.cells #[.int .i64 3, .int .u64 txn, .int .i64 0, .slice a1 k1 kc1, .slice a2 k2 kc2, .slice a3 n3 k3, .slice a4 k4 kc4] 137)).setCell ⟨w.heap.size + 2, 2, none⟩ (.bool true)) w4.heap.size 137 [.int .i64 3, .int .u64 txn, .int .i64 0, .slice a1 k1 kc1, .slice a2 k2 kc2, .slice a3 n3 k3, .slice a4 k4 kc4] := (Blk.new w4 137 #[.int .i64 3, .int .u64 txn, .int .i64 0, .slice a1 k1 kc1, .slice a2 k2 kc2, .slice a3 n3 k3, .slice a4 k4 kc4]).far (by show w4.heap.size ≠ w.heap.size + 2; omega) _
      have tq5 : Turned (w4.alloc (.cells #[.int .i64 3, .int .u64 txn, .int .i64 0, .slice a1 k1 kc1, .slice a2 k2 kc2, .slice a3 n3 k3, .slice a4 k4 kc4] 137)) ((w4.alloc (.cells #[.int .i64 3, .int .u64 txn, .int .i64 0, .slice a1 k1 kc1, .slice a2 k2 kc2, .slice a3 n3 k3, .slice a4 k4 kc4] 137)).setCell ⟨w.heap.size + 2, 2, none⟩ (.bool true)) (fun k => k = w.heap.size + 2) := (Turned.refl _ (fun k => k = w.heap.size + 2)).setCell (T := fun k => k = w.heap.size + 2) (p := ⟨w.heap.size + 2, 2, none⟩) (fun _ => rfl) _
      have hd5 : Rd ((w4.alloc (.cells #[.int .i64 3, .int .u64 txn, .int .i64 0, .slice a1 k1 kc1, .slice a2 k2 kc2, .slice a3 n3 k3, .slice a4 k4 kc4] 137)).setCell ⟨w.heap.size + 2, 2, none⟩ (.bool true)) a3 n3 x.2 := by
       have h1 := ((HH.out.2.1.below hb5).turned tq5 (fun k hk e => by have h2 := (HH.out.2.2.2.1 k hk).1; have h3 := HL.out.vs.box.lt; omega)).here.toRdPg.data
       rw [HX.out.2.1] at h1; exact h1
      generalize ((w4.alloc (.cells #[.int .i64 3, .int .u64 txn, .int .i64 0, .slice a1 k1 kc1, .slice a2 k2 kc2, .slice a3 n3 k3, .slice a4 k4 kc4] 137)).setCell ⟨w.heap.size + 2, 2, none⟩ (.bool true)) = W5 at hv5 hx5 hd5 ⊢
      have HVd := kept (hv5.on (Below.refl _ W5).drew)
      have HVa := fun o => kept (hv5.on (below_ad W5 o))
      have HXd := kept (hx5.below (Below.refl _ W5).drew hx5.lt)
      have HXa := fun o => kept (hx5.below (below_ad W5 o) hx5.lt)
      have HDd := kept (hd5.below (Below.refl _ W5).drew)
      have HDa := fun o => kept (hd5.below (below_ad W5 o))
      have HSd := kept (show ((fun W' => W'.cell? ⟨w.heap.size + 2, 0, none⟩ = some (.slice A1 n1 c1) ∧ W'.cell? ⟨w.heap.size + 2, 1, none⟩ = some (.slice B1 m1 d1) ∧ W'.cell? ⟨w4.heap.size, 5, none⟩ = some (.slice a3 n3 k3))) W5.drew from ⟨HVd.out.box.cell 0, HVd.out.box.cell 1, HXd.out.cell 5⟩)
      have HSa := fun o => kept (show ((fun W' => W'.cell? ⟨w.heap.size + 2, 0, none⟩ = some (.slice A1 n1 c1) ∧ W'.cell? ⟨w.heap.size + 2, 1, none⟩ = some (.slice B1 m1 d1) ∧ W'.cell? ⟨w4.heap.size, 5, none⟩ = some (.slice a3 n3 k3))) (W5.alloc o).drew from ⟨(HVa o).out.box.cell 0, (HVa o).out.box.cell 1, (HXa o).out.cell 5⟩)
      clear hv5 hx5 hd5 tq5 hb5 q0 q2 i2 f2
      refine region_L [11, 13] ((fun W' => W'.cell? ⟨w.heap.size + 2, 0, none⟩ = some (.slice A1 n1 c1) ∧ W'.cell? ⟨w.heap.size + 2, 1, none⟩ = some (.slice B1 m1 d1) ∧ W'.cell? ⟨w4.heap.size, 5, none⟩ = some (.slice a3 n3 k3))) (by kernel_rfl) ?_ (fun hHeld => ?_)
      · ((try dsimp only); (first | with_reducible exact HSd.out | with_reducible exact (HSa _).out | with_reducible exact HS7.out | with_reducible exact HS6.out | with_reducible exact (HS6a _).out))
      (try simp only [List.size_toArray, List.length_cons, List.length_nil, Nat.reduceAdd, Array.replicate_succ, Array.replicate_zero, List.push_toArray, List.append_toArray, List.nil_append, List.cons_append])
      refine take_P 0 (some 57) ?_ (by (intro o ho w; (simp only [List.getElem?_toArray, List.getElem?_cons_succ, List.getElem?_cons_zero, Option.some.injEq] at ho); subst ho; go_simp; (first | done | with_reducible rfl))) (by ((try simp only [Act.put, hA, h0, h1]); (first | done | rfl))) (by first | exact fun _ => by assumption | exact fun hE => absurd hE (by decide))
      (try simp only [Act.put, List.setIfInBounds_toArray, List.set_cons_zero, List.set_cons_succ])
      refine take_L 1 (some 58) ?_ (by (intro o ho w hSw; (simp only [List.getElem?_toArray, List.getElem?_cons_succ, List.getElem?_cons_zero, Option.some.injEq] at ho); subst ho; (try dsimp only at hSw); go_simp; (first | done | with_reducible rfl))) (by ((try simp only [Act.put, hA, h0, h1]); (first | done | rfl)))
      (try simp only [Act.put, List.setIfInBounds_toArray, List.set_cons_zero, List.set_cons_succ])
      refine take_P 2 (some 59) ?_ (by (intro o ho w; (simp only [List.getElem?_toArray, List.getElem?_cons_succ, List.getElem?_cons_zero, Option.some.injEq] at ho); subst ho; go_simp; (first | done | with_reducible rfl))) (by ((try simp only [Act.put, hA, h0, h1]); (first | done | rfl))) (by first | exact fun _ => by assumption | exact fun hE => absurd hE (by decide))
      (try simp only [Act.put, List.setIfInBounds_toArray, List.set_cons_zero, List.set_cons_succ])
      refine take_L 3 (some 60) ?_ (by (intro o ho w hSw; (simp only [List.getElem?_toArray, List.getElem?_cons_succ, List.getElem?_cons_zero, Option.some.injEq] at ho); subst ho; (try dsimp only at hSw); go_simp; (first | done | with_reducible rfl))) (by ((try simp only [Act.put, hA, h0, h1]); (first | done | rfl)))
      (try simp only [Act.put, List.setIfInBounds_toArray, List.set_cons_zero, List.set_cons_succ])
      refine take_P 5 (some 62) ?_ (by (intro o ho w; (simp only [List.getElem?_toArray, List.getElem?_cons_succ, List.getElem?_cons_zero, Option.some.injEq] at ho); subst ho; go_simp; (first | done | with_reducible rfl))) (by ((try simp only [Act.put, hA, h0, h1]); (first | done | rfl))) (by first | exact fun _ => by assumption | exact fun hE => absurd hE (by decide))
      (try simp only [Act.put, List.setIfInBounds_toArray, List.set_cons_zero, List.set_cons_succ])
      refine take_L 6 (some 63) ?_ (by (intro o ho w hSw; (simp only [List.getElem?_toArray, List.getElem?_cons_succ, List.getElem?_cons_zero, Option.some.injEq] at ho); subst ho; (try dsimp only at hSw); go_simp; (first | done | with_reducible rfl))) (by ((try simp only [Act.put, hA, h0, h1]); (first | done | rfl)))
      (try simp only [Act.put, List.setIfInBounds_toArray, List.set_cons_zero, List.set_cons_succ])
      refine take_P 7 (some 64) ?_ (by (intro o ho w; (simp only [List.getElem?_toArray, List.getElem?_cons_succ, List.getElem?_cons_zero, Option.some.injEq] at ho); subst ho; go_simp; (first | done | with_reducible rfl))) (by ((try simp only [Act.put, hA, h0, h1]); (first | done | rfl))) (by first | exact fun _ => by assumption | exact fun hE => absurd hE (by decide))
      (try simp only [Act.put, List.setIfInBounds_toArray, List.set_cons_zero, List.set_cons_succ])
      refine two_L 4 8 (fun o ho K hK => ?_) (fun o ho K hK => ?_)
      · (simp only [List.getElem?_toArray, List.getElem?_cons_succ, List.getElem?_cons_zero, Option.some.injEq] at ho)
        subst ho
        ((first | refine wp_append_b (.tmp 58) (.tmp 60) rfl rfl rfl HVd.out.ob HDd.out hm4 ?_ | refine wp_append_b (.tmp 58) (.tmp 60) rfl rfl rfl (HVa _).out.ob (HDa _).out hm4 ?_); intro A6 c6 w6 h6 t6 g6; (have HV6 : Hid (ValS a w r t R p P S A A4 (n + m1 + 1) c4 (M ++ idsP l1 ++ [x.1]) A6 (n1 + n3) c6 (bytesP l1 ++ x.2) B1 m1 d1 (idsP l1) [.slice A1 n1 c1, .slice B1 m1 d1, .bool true] [.slice ka kn kc, .slice none 0 0, .int .i64 (sz : Int), .int .i64 more] w6) := kept (by first | exact HVd.out.appB H.out h6 t6 g6 | exact (HVa _).out.appB H.out h6 t6 g6)); (have HX6 : Hid (Blk w6 w4.heap.size 137 [.int .i64 3, .int .u64 txn, .int .i64 0, .slice a1 k1 kc1, .slice a2 k2 kc2, .slice a3 n3 k3, .slice a4 k4 kc4]) := kept (by first | exact t6.blk HXd.out (fun e => absurd ((HVd.out.ob.cl e).uniq HXd.out.cl) (by decide)) | exact t6.blk (HXa (.cells #[.int .i64 x.1] 3)).out (fun e => absurd (((HVa (.cells #[.int .i64 x.1] 3)).out.ob.cl e).uniq (HXa (.cells #[.int .i64 x.1] 3)).out.cl) (by decide)))); (try (have HI6 : Hid (RdI w6 (some ⟨W5.heap.size, 0, none⟩) 1 [x.1]) := kept (by exact ((RdI.oneI W5 x.1).below (Below.refl _ _).drew).turned t6 (fun g e e2 => by cases e; have h9 := (HVd.out.ob.cl e2).lt; simp at h9))));  (have HS6 := kept (show ((fun W' => W'.cell? ⟨w.heap.size + 2, 0, none⟩ = some (.slice A1 n1 c1) ∧ W'.cell? ⟨w.heap.size + 2, 1, none⟩ = some (.slice B1 m1 d1) ∧ W'.cell? ⟨w4.heap.size, 5, none⟩ = some (.slice a3 n3 k3))) w6 from ⟨HV6.out.box.cell 0, HV6.out.box.cell 1, HX6.out.cell 5⟩)); (have HS6a := fun o => kept (show ((fun W' => W'.cell? ⟨w.heap.size + 2, 0, none⟩ = some (.slice A1 n1 c1) ∧ W'.cell? ⟨w.heap.size + 2, 1, none⟩ = some (.slice B1 m1 d1) ∧ W'.cell? ⟨w4.heap.size, 5, none⟩ = some (.slice a3 n3 k3))) (w6.alloc o) from ⟨(HV6.out.box.alloc o).cell 0, (HV6.out.box.alloc o).cell 1, (HX6.out.alloc o).cell 5⟩)); clear h6 t6 g6)
        refine hK.out _ _ ?_ (fun hHeld => ?_)
        · (first | exact fun hE => absurd hE (by decide) | (intro _; (try dsimp only); (first | with_reducible exact HSd.out | with_reducible exact (HSa _).out | with_reducible exact HS7.out | with_reducible exact HS6.out | with_reducible exact (HS6a _).out)))
        clear hK K
        (try replace hHeld := hHeld (by decide))
        (try simp only [Act.put, List.setIfInBounds_toArray, List.set_cons_zero, List.set_cons_succ])
        refine take_P 10 (some 67) ?_ (by (intro o ho w; (simp only [List.getElem?_toArray, List.getElem?_cons_succ, List.getElem?_cons_zero, Option.some.injEq] at ho); subst ho; go_simp; (first | done | with_reducible rfl))) (by ((try simp only [Act.put, hA, h0, h1]); (first | done | rfl))) (by first | exact fun _ => by assumption | exact fun hE => absurd hE (by decide))
        (try simp only [Act.put, List.setIfInBounds_toArray, List.set_cons_zero, List.set_cons_succ])
        refine ready_L 8 (fun o ho K hK => ?_)
        (simp only [List.getElem?_toArray, List.getElem?_cons_succ, List.getElem?_cons_zero, Option.some.injEq] at ho)
        subst ho
        go_simp
        refine hK.out _ _ ?_ (fun hHeld => ?_)
        · (first | exact fun hE => absurd hE (by decide) | (intro _; (try dsimp only); (first | with_reducible exact HSd.out | with_reducible exact (HSa _).out | with_reducible exact HS7.out | with_reducible exact HS6.out | with_reducible exact (HS6a _).out)))
        clear hK K
        (try replace hHeld := hHeld (by decide))
        (try simp only [Act.put, List.setIfInBounds_toArray, List.set_cons_zero, List.set_cons_succ])
        refine ready_L 9 (fun o ho K hK => ?_)
        (simp only [List.getElem?_toArray, List.getElem?_cons_succ, List.getElem?_cons_zero, Option.some.injEq] at ho)
        subst ho
        ((first | refine wp_append_i (.tmp 63) (.tmp 65) rfl rfl rfl HV6.out.oi HI6.out hm9 ?_ | refine wp_append_i (.tmp 63) (.tmp 65) rfl rfl rfl (HV6.out.on ((Below.refl _ w6).alloc (Nat.le_refl _) _)).oi (RdI.oneI w6 x.1) hm9 ?_); intro B7 d7 w7 h7 t7 g7; (have HV7 : Hid (ValS a w r t R p P S A A4 (n + m1 + 1) c4 (M ++ idsP l1 ++ [x.1]) A6 (n1 + n3) c6 (bytesP l1 ++ x.2) B7 (m1 + 1) d7 (idsP l1 ++ [x.1]) [.slice A1 n1 c1, .slice B1 m1 d1, .bool true] [.slice ka kn kc, .slice none 0 0, .int .i64 (sz : Int), .int .i64 more] w7) := kept (by first | exact HV6.out.appI H.out h7 t7 g7 | exact (HV6.out.on ((Below.refl _ w6).alloc (Nat.le_refl _) _)).appI H.out h7 t7 g7)); (have HX7 : Hid (Blk w7 w4.heap.size 137 [.int .i64 3, .int .u64 txn, .int .i64 0, .slice a1 k1 kc1, .slice a2 k2 kc2, .slice a3 n3 k3, .slice a4 k4 kc4]) := kept (by first | exact t7.blk HX6.out (fun e => absurd ((HV6.out.oi.cl e).uniq HX6.out.cl) (by decide)) | exact t7.blk (HX6.out.alloc (.cells #[.int .i64 x.1] 3)) (fun e => absurd (((HV6.out.on ((Below.refl _ w6).alloc (Nat.le_refl _) (.cells #[.int .i64 x.1] 3))).oi.cl e).uniq (HX6.out.alloc (.cells #[.int .i64 x.1] 3)).cl) (by decide)))); (have HS7 := kept (show ((fun W' => W'.cell? ⟨w.heap.size + 2, 0, none⟩ = some (.slice A1 n1 c1) ∧ W'.cell? ⟨w.heap.size + 2, 1, none⟩ = some (.slice B1 m1 d1) ∧ W'.cell? ⟨w4.heap.size, 5, none⟩ = some (.slice a3 n3 k3))) w7 from ⟨HV7.out.box.cell 0, HV7.out.box.cell 1, HX7.out.cell 5⟩)); have z0 : w7.cell? ⟨w.heap.size + 2, 0, none⟩ = some (.slice A1 n1 c1) := HV7.out.box.cell 0; have z1 : w7.cell? ⟨w.heap.size + 2, 1, none⟩ = some (.slice B1 m1 d1) := HV7.out.box.cell 1; have v0 := HV7.out.box.frozen 0; have v1 := HV7.out.box.frozen 1; clear h7 t7 g7)
        refine hK.out _ _ ?_ (fun hHeld => ?_)
        · (first | exact fun hE => absurd hE (by decide) | (intro _; (try dsimp only); (first | with_reducible exact HSd.out | with_reducible exact (HSa _).out | with_reducible exact HS7.out | with_reducible exact HS6.out | with_reducible exact (HS6a _).out)))
        clear hK K
        (try replace hHeld := hHeld (by decide))
        (try simp only [Act.put, List.setIfInBounds_toArray, List.set_cons_zero, List.set_cons_succ])
        refine ready_L 11 (fun o ho K hK => ?_)
        (simp only [List.getElem?_toArray, List.getElem?_cons_succ, List.getElem?_cons_zero, Option.some.injEq] at ho)
        subst ho
        go_simp
        refine hK.out _ _ ?_ (fun hHeld => ?_)
        · (first | exact fun hE => absurd hE (by decide) | (intro _; (try dsimp only); (first | with_reducible exact HSd.out | with_reducible exact (HSa _).out | with_reducible exact HS7.out | with_reducible exact HS6.out | with_reducible exact (HS6a _).out)))
        clear hK K
        (try replace hHeld := hHeld (by decide))
        (try simp only [Act.put, List.setIfInBounds_toArray, List.set_cons_zero, List.set_cons_succ])
        refine take_P 12 (some 68) ?_ (by (intro o ho w; (simp only [List.getElem?_toArray, List.getElem?_cons_succ, List.getElem?_cons_zero, Option.some.injEq] at ho); subst ho; go_simp; (first | done | with_reducible rfl))) (by ((try simp only [Act.put, hA, h0, h1]); (first | done | rfl))) (by first | exact fun _ => by assumption | exact fun hE => absurd hE (by decide))
        (try simp only [Act.put, List.setIfInBounds_toArray, List.set_cons_zero, List.set_cons_succ])
        refine ready_L 13 (fun o ho K hK => ?_)
        (simp only [List.getElem?_toArray, List.getElem?_cons_succ, List.getElem?_cons_zero, Option.some.injEq] at ho)
        subst ho
        go_simp
        refine hK.out _ _ ?_ (fun hHeld => ?_)
        · (first | exact fun hE => absurd hE (by decide) | (intro _; (try dsimp only); (first | with_reducible exact HSd.out | with_reducible exact (HSa _).out | with_reducible exact HS7.out | with_reducible exact HS6.out | with_reducible exact (HS6a _).out)))
        clear hK K
        (try replace hHeld := hHeld (by decide))
        (try simp only [Act.put, List.setIfInBounds_toArray, List.set_cons_zero, List.set_cons_succ])
        refine done_L (by kernel_rfl) ?_ _
        (have hx9 := HX7.out; have hv9 := ((HV7.out.put H.out 0 (.slice A6 (n1 + n3) c6)).put H.out 1 (.slice B7 (m1 + 1) d7)); simp only [List.set_cons_zero, List.set_cons_succ] at hv9; have hx10 : Blk ((w7.setCell ⟨w.heap.size + 2, 0, none⟩ (.slice A6 (n1 + n3) c6)).setCell ⟨w.heap.size + 2, 1, none⟩ (.slice B7 (m1 + 1) d7)) w4.heap.size 137 [.int .i64 3, .int .u64 txn, .int .i64 0, .slice a1 k1 kc1, .slice a2 k2 kc2, .slice a3 n3 k3, .slice a4 k4 kc4] := (HX7.out.far (by show w4.heap.size ≠ w.heap.size + 2; omega) _).far (by show w4.heap.size ≠ w.heap.size + 2; omega) _; generalize ((w7.setCell ⟨w.heap.size + 2, 0, none⟩ (.slice A6 (n1 + n3) c6)).setCell ⟨w.heap.size + 2, 1, none⟩ (.slice B7 (m1 + 1) d7)) = W9 at hv9 hx10 ⊢; have y2 : W9.cell? ⟨w4.heap.size, 2, none⟩ = some (.int .i64 0) := hx10.cell 2; (have hid : M ++ idsP (l1 ++ [x]) = M ++ idsP l1 ++ [x.1] := by rw [idsP_append, ← List.append_assoc]; rfl); (have hby : bytesP (l1 ++ [x]) = bytesP l1 ++ x.2 := by rw [bytesP_append]; simp [bytesP]); (have hid2 : idsP (l1 ++ [x]) = idsP l1 ++ [x.1] := by rw [idsP_append]; rfl); (have HE : Hid (RelV a w r t R p P S A n M l [.slice ka kn kc, .slice none 0 0, .int .i64 (sz : Int), .int .i64 more] 0 (l1 ++ [x]) rest true A4 c4 A6 (n1 + n3) c6 B7 (m1 + 1) d7 W9) := kept ⟨by rw [List.append_assoc]; exact HL.out.cat, HCH.out, HFI.out, by rw [hby, List.length_append, ← HL.out.en, HM.out.1], by rw [List.length_append, ← HL.out.em]; rfl, by rw [hid, hby, hid2]; exact hv9⟩); clear hv9 hx10 hx9 hid hby hid2; go_wp2; go_roundg rest.length; (case measure => (have := HGK.out; simp at this; omega)); (case rel => exact ⟨0, l1 ++ [x], rest, true, A4, c4, A6, n1 + n3, c6, B7, m1 + 1, d7, rfl, rfl, HE⟩))
      · (simp only [List.getElem?_toArray, List.getElem?_cons_succ, List.getElem?_cons_zero, Option.some.injEq] at ho)
        subst ho
        go_simp
        refine hK.out _ _ ?_ (fun hHeld => ?_)
        · (first | exact fun hE => absurd hE (by decide) | (intro _; (try dsimp only); (first | with_reducible exact HSd.out | with_reducible exact (HSa _).out | with_reducible exact HS7.out | with_reducible exact HS6.out | with_reducible exact (HS6a _).out)))
        clear hK K
        (try replace hHeld := hHeld (by decide))
        (try simp only [Act.put, List.setIfInBounds_toArray, List.set_cons_zero, List.set_cons_succ])
        refine ready_L 4 (fun o ho K hK => ?_)
        (simp only [List.getElem?_toArray, List.getElem?_cons_succ, List.getElem?_cons_zero, Option.some.injEq] at ho)
        subst ho
        ((first | refine wp_append_b (.tmp 58) (.tmp 60) rfl rfl rfl HVd.out.ob HDd.out hm4 ?_ | refine wp_append_b (.tmp 58) (.tmp 60) rfl rfl rfl (HVa _).out.ob (HDa _).out hm4 ?_); intro A6 c6 w6 h6 t6 g6; (have HV6 : Hid (ValS a w r t R p P S A A4 (n + m1 + 1) c4 (M ++ idsP l1 ++ [x.1]) A6 (n1 + n3) c6 (bytesP l1 ++ x.2) B1 m1 d1 (idsP l1) [.slice A1 n1 c1, .slice B1 m1 d1, .bool true] [.slice ka kn kc, .slice none 0 0, .int .i64 (sz : Int), .int .i64 more] w6) := kept (by first | exact HVd.out.appB H.out h6 t6 g6 | exact (HVa _).out.appB H.out h6 t6 g6)); (have HX6 : Hid (Blk w6 w4.heap.size 137 [.int .i64 3, .int .u64 txn, .int .i64 0, .slice a1 k1 kc1, .slice a2 k2 kc2, .slice a3 n3 k3, .slice a4 k4 kc4]) := kept (by first | exact t6.blk HXd.out (fun e => absurd ((HVd.out.ob.cl e).uniq HXd.out.cl) (by decide)) | exact t6.blk (HXa (.cells #[.int .i64 x.1] 3)).out (fun e => absurd (((HVa (.cells #[.int .i64 x.1] 3)).out.ob.cl e).uniq (HXa (.cells #[.int .i64 x.1] 3)).out.cl) (by decide)))); (try (have HI6 : Hid (RdI w6 (some ⟨W5.heap.size, 0, none⟩) 1 [x.1]) := kept (by exact ((RdI.oneI W5 x.1).below (Below.refl _ _).drew).turned t6 (fun g e e2 => by cases e; have h9 := (HVd.out.ob.cl e2).lt; simp at h9))));  (have HS6 := kept (show ((fun W' => W'.cell? ⟨w.heap.size + 2, 0, none⟩ = some (.slice A1 n1 c1) ∧ W'.cell? ⟨w.heap.size + 2, 1, none⟩ = some (.slice B1 m1 d1) ∧ W'.cell? ⟨w4.heap.size, 5, none⟩ = some (.slice a3 n3 k3))) w6 from ⟨HV6.out.box.cell 0, HV6.out.box.cell 1, HX6.out.cell 5⟩)); (have HS6a := fun o => kept (show ((fun W' => W'.cell? ⟨w.heap.size + 2, 0, none⟩ = some (.slice A1 n1 c1) ∧ W'.cell? ⟨w.heap.size + 2, 1, none⟩ = some (.slice B1 m1 d1) ∧ W'.cell? ⟨w4.heap.size, 5, none⟩ = some (.slice a3 n3 k3))) (w6.alloc o) from ⟨(HV6.out.box.alloc o).cell 0, (HV6.out.box.alloc o).cell 1, (HX6.out.alloc o).cell 5⟩)); clear h6 t6 g6)
        refine hK.out _ _ ?_ (fun hHeld => ?_)
        · (first | exact fun hE => absurd hE (by decide) | (intro _; (try dsimp only); (first | with_reducible exact HSd.out | with_reducible exact (HSa _).out | with_reducible exact HS7.out | with_reducible exact HS6.out | with_reducible exact (HS6a _).out)))
        clear hK K
        (try replace hHeld := hHeld (by decide))
        (try simp only [Act.put, List.setIfInBounds_toArray, List.set_cons_zero, List.set_cons_succ])
        refine take_P 10 (some 67) ?_ (by (intro o ho w; (simp only [List.getElem?_toArray, List.getElem?_cons_succ, List.getElem?_cons_zero, Option.some.injEq] at ho); subst ho; go_simp; (first | done | with_reducible rfl))) (by ((try simp only [Act.put, hA, h0, h1]); (first | done | rfl))) (by first | exact fun _ => by assumption | exact fun hE => absurd hE (by decide))
        (try simp only [Act.put, List.setIfInBounds_toArray, List.set_cons_zero, List.set_cons_succ])
        refine ready_L 9 (fun o ho K hK => ?_)
        (simp only [List.getElem?_toArray, List.getElem?_cons_succ, List.getElem?_cons_zero, Option.some.injEq] at ho)
        subst ho
        ((first | refine wp_append_i (.tmp 63) (.tmp 65) rfl rfl rfl HV6.out.oi HI6.out hm9 ?_ | refine wp_append_i (.tmp 63) (.tmp 65) rfl rfl rfl (HV6.out.on ((Below.refl _ w6).alloc (Nat.le_refl _) _)).oi (RdI.oneI w6 x.1) hm9 ?_); intro B7 d7 w7 h7 t7 g7; (have HV7 : Hid (ValS a w r t R p P S A A4 (n + m1 + 1) c4 (M ++ idsP l1 ++ [x.1]) A6 (n1 + n3) c6 (bytesP l1 ++ x.2) B7 (m1 + 1) d7 (idsP l1 ++ [x.1]) [.slice A1 n1 c1, .slice B1 m1 d1, .bool true] [.slice ka kn kc, .slice none 0 0, .int .i64 (sz : Int), .int .i64 more] w7) := kept (by first | exact HV6.out.appI H.out h7 t7 g7 | exact (HV6.out.on ((Below.refl _ w6).alloc (Nat.le_refl _) _)).appI H.out h7 t7 g7)); (have HX7 : Hid (Blk w7 w4.heap.size 137 [.int .i64 3, .int .u64 txn, .int .i64 0, .slice a1 k1 kc1, .slice a2 k2 kc2, .slice a3 n3 k3, .slice a4 k4 kc4]) := kept (by first | exact t7.blk HX6.out (fun e => absurd ((HV6.out.oi.cl e).uniq HX6.out.cl) (by decide)) | exact t7.blk (HX6.out.alloc (.cells #[.int .i64 x.1] 3)) (fun e => absurd (((HV6.out.on ((Below.refl _ w6).alloc (Nat.le_refl _) (.cells #[.int .i64 x.1] 3))).oi.cl e).uniq (HX6.out.alloc (.cells #[.int .i64 x.1] 3)).cl) (by decide)))); (have HS7 := kept (show ((fun W' => W'.cell? ⟨w.heap.size + 2, 0, none⟩ = some (.slice A1 n1 c1) ∧ W'.cell? ⟨w.heap.size + 2, 1, none⟩ = some (.slice B1 m1 d1) ∧ W'.cell? ⟨w4.heap.size, 5, none⟩ = some (.slice a3 n3 k3))) w7 from ⟨HV7.out.box.cell 0, HV7.out.box.cell 1, HX7.out.cell 5⟩)); have z0 : w7.cell? ⟨w.heap.size + 2, 0, none⟩ = some (.slice A1 n1 c1) := HV7.out.box.cell 0; have z1 : w7.cell? ⟨w.heap.size + 2, 1, none⟩ = some (.slice B1 m1 d1) := HV7.out.box.cell 1; have v0 := HV7.out.box.frozen 0; have v1 := HV7.out.box.frozen 1; clear h7 t7 g7)
        refine hK.out _ _ ?_ (fun hHeld => ?_)
        · (first | exact fun hE => absurd hE (by decide) | (intro _; (try dsimp only); (first | with_reducible exact HSd.out | with_reducible exact (HSa _).out | with_reducible exact HS7.out | with_reducible exact HS6.out | with_reducible exact (HS6a _).out)))
        clear hK K
        (try replace hHeld := hHeld (by decide))
        (try simp only [Act.put, List.setIfInBounds_toArray, List.set_cons_zero, List.set_cons_succ])
        refine ready_L 11 (fun o ho K hK => ?_)
        (simp only [List.getElem?_toArray, List.getElem?_cons_succ, List.getElem?_cons_zero, Option.some.injEq] at ho)
        subst ho
        go_simp
        refine hK.out _ _ ?_ (fun hHeld => ?_)
        · (first | exact fun hE => absurd hE (by decide) | (intro _; (try dsimp only); (first | with_reducible exact HSd.out | with_reducible exact (HSa _).out | with_reducible exact HS7.out | with_reducible exact HS6.out | with_reducible exact (HS6a _).out)))
        clear hK K
        (try replace hHeld := hHeld (by decide))
        (try simp only [Act.put, List.setIfInBounds_toArray, List.set_cons_zero, List.set_cons_succ])
        refine take_P 12 (some 68) ?_ (by (intro o ho w; (simp only [List.getElem?_toArray, List.getElem?_cons_succ, List.getElem?_cons_zero, Option.some.injEq] at ho); subst ho; go_simp; (first | done | with_reducible rfl))) (by ((try simp only [Act.put, hA, h0, h1]); (first | done | rfl))) (by first | exact fun _ => by assumption | exact fun hE => absurd hE (by decide))
        (try simp only [Act.put, List.setIfInBounds_toArray, List.set_cons_zero, List.set_cons_succ])
        refine ready_L 13 (fun o ho K hK => ?_)
        (simp only [List.getElem?_toArray, List.getElem?_cons_succ, List.getElem?_cons_zero, Option.some.injEq] at ho)
        subst ho
        go_simp
        refine hK.out _ _ ?_ (fun hHeld => ?_)
        · (first | exact fun hE => absurd hE (by decide) | (intro _; (try dsimp only); (first | with_reducible exact HSd.out | with_reducible exact (HSa _).out | with_reducible exact HS7.out | with_reducible exact HS6.out | with_reducible exact (HS6a _).out)))
        clear hK K
        (try replace hHeld := hHeld (by decide))
        (try simp only [Act.put, List.setIfInBounds_toArray, List.set_cons_zero, List.set_cons_succ])
        refine done_L (by kernel_rfl) ?_ _
        (have hx9 := HX7.out; have hv9 := ((HV7.out.put H.out 0 (.slice A6 (n1 + n3) c6)).put H.out 1 (.slice B7 (m1 + 1) d7)); simp only [List.set_cons_zero, List.set_cons_succ] at hv9; have hx10 : Blk ((w7.setCell ⟨w.heap.size + 2, 0, none⟩ (.slice A6 (n1 + n3) c6)).setCell ⟨w.heap.size + 2, 1, none⟩ (.slice B7 (m1 + 1) d7)) w4.heap.size 137 [.int .i64 3, .int .u64 txn, .int .i64 0, .slice a1 k1 kc1, .slice a2 k2 kc2, .slice a3 n3 k3, .slice a4 k4 kc4] := (HX7.out.far (by show w4.heap.size ≠ w.heap.size + 2; omega) _).far (by show w4.heap.size ≠ w.heap.size + 2; omega) _; generalize ((w7.setCell ⟨w.heap.size + 2, 0, none⟩ (.slice A6 (n1 + n3) c6)).setCell ⟨w.heap.size + 2, 1, none⟩ (.slice B7 (m1 + 1) d7)) = W9 at hv9 hx10 ⊢; have y2 : W9.cell? ⟨w4.heap.size, 2, none⟩ = some (.int .i64 0) := hx10.cell 2; (have hid : M ++ idsP (l1 ++ [x]) = M ++ idsP l1 ++ [x.1] := by rw [idsP_append, ← List.append_assoc]; rfl); (have hby : bytesP (l1 ++ [x]) = bytesP l1 ++ x.2 := by rw [bytesP_append]; simp [bytesP]); (have hid2 : idsP (l1 ++ [x]) = idsP l1 ++ [x.1] := by rw [idsP_append]; rfl); (have HE : Hid (RelV a w r t R p P S A n M l [.slice ka kn kc, .slice none 0 0, .int .i64 (sz : Int), .int .i64 more] 0 (l1 ++ [x]) rest true A4 c4 A6 (n1 + n3) c6 B7 (m1 + 1) d7 W9) := kept ⟨by rw [List.append_assoc]; exact HL.out.cat, HCH.out, HFI.out, by rw [hby, List.length_append, ← HL.out.en, HM.out.1], by rw [List.length_append, ← HL.out.em]; rfl, by rw [hid, hby, hid2]; exact hv9⟩); clear hv9 hx10 hx9 hid hby hid2; go_wp2; go_roundg rest.length; (case measure => (have := HGK.out; simp at this; omega)); (case rel => exact ⟨0, l1 ++ [x], rest, true, A4, c4, A6, n1 + n3, c6, B7, m1 + 1, d7, rfl, rfl, HE⟩))
    · rw [hg] at HFI
      clear hg
      subst hf1
      have hn0' : (next == 0) = false := by simpa using hn0
      have h37' : ((n3 : Int) == 237) = true := by simp; omega
      clear h37
      have hm4 : n1 + n3 ≤ 1000000 := by omega
      have hm9 : m1 + 1 ≤ 1000000 := by have := HM.out; omega
      go_wp2
      have hb5 := (Below.refl w4.heap.size w4).alloc (Nat.le_refl _) (.cells #[.int .i64 3, .int .u64 txn, .int .i64 next, .slice a1 k1 kc1, .slice a2 k2 kc2, .slice a3 n3 k3, .slice a4 k4 kc4] 137)
      have hv5 := (HV4.out.on hb5).put H.out 2 (.bool true)
      simp only [List.set_cons_zero, List.set_cons_succ] at hv5
      have hq4 : w.heap.size + 2 < w4.heap.size := HV4.out.box.lt
      have hx5 : Blk ((w4.alloc (.cells #[.int .i64 3, .int .u64 txn, .int .i64 next, .slice a1 k1 kc1, .slice a2 k2 kc2, .slice a3 n3 k3, .slice a4 k4 kc4] 137)).setCell ⟨w.heap.size + 2, 2, none⟩ (.bool true)) w4.heap.size 137 [.int .i64 3, .int .u64 txn, .int .i64 next, .slice a1 k1 kc1, .slice a2 k2 kc2, .slice a3 n3 k3, .slice a4 k4 kc4] := (Blk.new w4 137 #[.int .i64 3, .int .u64 txn, .int .i64 next, .slice a1 k1 kc1, .slice a2 k2 kc2, .slice a3 n3 k3, .slice a4 k4 kc4]).far (by show w4.heap.size ≠ w.heap.size + 2; omega) _
      have tq5 : Turned (w4.alloc (.cells #[.int .i64 3, .int .u64 txn, .int .i64 next, .slice a1 k1 kc1, .slice a2 k2 kc2, .slice a3 n3 k3, .slice a4 k4 kc4] 137)) ((w4.alloc (.cells #[.int .i64 3, .int .u64 txn, .int .i64 next, .slice a1 k1 kc1, .slice a2 k2 kc2, .slice a3 n3 k3, .slice a4 k4 kc4] 137)).setCell ⟨w.heap.size + 2, 2, none⟩ (.bool true)) (fun k => k = w.heap.size + 2) := (Turned.refl _ (fun k => k = w.heap.size + 2)).setCell (T := fun k => k = w.heap.size + 2) (p := ⟨w.heap.size + 2, 2, none⟩) (fun _ => rfl) _
      have hd5 : Rd ((w4.alloc (.cells #[.int .i64 3, .int .u64 txn, .int .i64 next, .slice a1 k1 kc1, .slice a2 k2 kc2, .slice a3 n3 k3, .slice a4 k4 kc4] 137)).setCell ⟨w.heap.size + 2, 2, none⟩ (.bool true)) a3 n3 x.2 := by
       have h1 := ((HH.out.2.1.below hb5).turned tq5 (fun k hk e => by have h2 := (HH.out.2.2.2.1 k hk).1; have h3 := HL.out.vs.box.lt; omega)).here.toRdPg.data
       rw [HX.out.2.1] at h1; exact h1
      generalize ((w4.alloc (.cells #[.int .i64 3, .int .u64 txn, .int .i64 next, .slice a1 k1 kc1, .slice a2 k2 kc2, .slice a3 n3 k3, .slice a4 k4 kc4] 137)).setCell ⟨w.heap.size + 2, 2, none⟩ (.bool true)) = W5 at hv5 hx5 hd5 ⊢
      have HVd := kept (hv5.on (Below.refl _ W5).drew)
      have HVa := fun o => kept (hv5.on (below_ad W5 o))
      have HXd := kept (hx5.below (Below.refl _ W5).drew hx5.lt)
      have HXa := fun o => kept (hx5.below (below_ad W5 o) hx5.lt)
      have HDd := kept (hd5.below (Below.refl _ W5).drew)
      have HDa := fun o => kept (hd5.below (below_ad W5 o))
      have HSd := kept (show ((fun W' => W'.cell? ⟨w.heap.size + 2, 0, none⟩ = some (.slice A1 n1 c1) ∧ W'.cell? ⟨w.heap.size + 2, 1, none⟩ = some (.slice B1 m1 d1) ∧ W'.cell? ⟨w4.heap.size, 5, none⟩ = some (.slice a3 n3 k3))) W5.drew from ⟨HVd.out.box.cell 0, HVd.out.box.cell 1, HXd.out.cell 5⟩)
      have HSa := fun o => kept (show ((fun W' => W'.cell? ⟨w.heap.size + 2, 0, none⟩ = some (.slice A1 n1 c1) ∧ W'.cell? ⟨w.heap.size + 2, 1, none⟩ = some (.slice B1 m1 d1) ∧ W'.cell? ⟨w4.heap.size, 5, none⟩ = some (.slice a3 n3 k3))) (W5.alloc o).drew from ⟨(HVa o).out.box.cell 0, (HVa o).out.box.cell 1, (HXa o).out.cell 5⟩)
      clear hv5 hx5 hd5 tq5 hb5 q0 q2 i2 f2
      refine region_L [11, 13] ((fun W' => W'.cell? ⟨w.heap.size + 2, 0, none⟩ = some (.slice A1 n1 c1) ∧ W'.cell? ⟨w.heap.size + 2, 1, none⟩ = some (.slice B1 m1 d1) ∧ W'.cell? ⟨w4.heap.size, 5, none⟩ = some (.slice a3 n3 k3))) (by kernel_rfl) ?_ (fun hHeld => ?_)
      · ((try dsimp only); (first | with_reducible exact HSd.out | with_reducible exact (HSa _).out | with_reducible exact HS7.out | with_reducible exact HS6.out | with_reducible exact (HS6a _).out))
      (try simp only [List.size_toArray, List.length_cons, List.length_nil, Nat.reduceAdd, Array.replicate_succ, Array.replicate_zero, List.push_toArray, List.append_toArray, List.nil_append, List.cons_append])
      refine take_P 0 (some 57) ?_ (by (intro o ho w; (simp only [List.getElem?_toArray, List.getElem?_cons_succ, List.getElem?_cons_zero, Option.some.injEq] at ho); subst ho; go_simp; (first | done | with_reducible rfl))) (by ((try simp only [Act.put, hA, h0, h1]); (first | done | rfl))) (by first | exact fun _ => by assumption | exact fun hE => absurd hE (by decide))
      (try simp only [Act.put, List.setIfInBounds_toArray, List.set_cons_zero, List.set_cons_succ])
      refine take_L 1 (some 58) ?_ (by (intro o ho w hSw; (simp only [List.getElem?_toArray, List.getElem?_cons_succ, List.getElem?_cons_zero, Option.some.injEq] at ho); subst ho; (try dsimp only at hSw); go_simp; (first | done | with_reducible rfl))) (by ((try simp only [Act.put, hA, h0, h1]); (first | done | rfl)))
      (try simp only [Act.put, List.setIfInBounds_toArray, List.set_cons_zero, List.set_cons_succ])
      refine take_P 2 (some 59) ?_ (by (intro o ho w; (simp only [List.getElem?_toArray, List.getElem?_cons_succ, List.getElem?_cons_zero, Option.some.injEq] at ho); subst ho; go_simp; (first | done | with_reducible rfl))) (by ((try simp only [Act.put, hA, h0, h1]); (first | done | rfl))) (by first | exact fun _ => by assumption | exact fun hE => absurd hE (by decide))
      (try simp only [Act.put, List.setIfInBounds_toArray, List.set_cons_zero, List.set_cons_succ])
      refine take_L 3 (some 60) ?_ (by (intro o ho w hSw; (simp only [List.getElem?_toArray, List.getElem?_cons_succ, List.getElem?_cons_zero, Option.some.injEq] at ho); subst ho; (try dsimp only at hSw); go_simp; (first | done | with_reducible rfl))) (by ((try simp only [Act.put, hA, h0, h1]); (first | done | rfl)))
      (try simp only [Act.put, List.setIfInBounds_toArray, List.set_cons_zero, List.set_cons_succ])
      refine take_P 5 (some 62) ?_ (by (intro o ho w; (simp only [List.getElem?_toArray, List.getElem?_cons_succ, List.getElem?_cons_zero, Option.some.injEq] at ho); subst ho; go_simp; (first | done | with_reducible rfl))) (by ((try simp only [Act.put, hA, h0, h1]); (first | done | rfl))) (by first | exact fun _ => by assumption | exact fun hE => absurd hE (by decide))
      (try simp only [Act.put, List.setIfInBounds_toArray, List.set_cons_zero, List.set_cons_succ])
      refine take_L 6 (some 63) ?_ (by (intro o ho w hSw; (simp only [List.getElem?_toArray, List.getElem?_cons_succ, List.getElem?_cons_zero, Option.some.injEq] at ho); subst ho; (try dsimp only at hSw); go_simp; (first | done | with_reducible rfl))) (by ((try simp only [Act.put, hA, h0, h1]); (first | done | rfl)))
      (try simp only [Act.put, List.setIfInBounds_toArray, List.set_cons_zero, List.set_cons_succ])
      refine take_P 7 (some 64) ?_ (by (intro o ho w; (simp only [List.getElem?_toArray, List.getElem?_cons_succ, List.getElem?_cons_zero, Option.some.injEq] at ho); subst ho; go_simp; (first | done | with_reducible rfl))) (by ((try simp only [Act.put, hA, h0, h1]); (first | done | rfl))) (by first | exact fun _ => by assumption | exact fun hE => absurd hE (by decide))
      (try simp only [Act.put, List.setIfInBounds_toArray, List.set_cons_zero, List.set_cons_succ])
      refine two_L 4 8 (fun o ho K hK => ?_) (fun o ho K hK => ?_)
      · (simp only [List.getElem?_toArray, List.getElem?_cons_succ, List.getElem?_cons_zero, Option.some.injEq] at ho)
        subst ho
        ((first | refine wp_append_b (.tmp 58) (.tmp 60) rfl rfl rfl HVd.out.ob HDd.out hm4 ?_ | refine wp_append_b (.tmp 58) (.tmp 60) rfl rfl rfl (HVa _).out.ob (HDa _).out hm4 ?_); intro A6 c6 w6 h6 t6 g6; (have HV6 : Hid (ValS a w r t R p P S A A4 (n + m1 + 1) c4 (M ++ idsP l1 ++ [x.1]) A6 (n1 + n3) c6 (bytesP l1 ++ x.2) B1 m1 d1 (idsP l1) [.slice A1 n1 c1, .slice B1 m1 d1, .bool true] [.slice ka kn kc, .slice none 0 0, .int .i64 (sz : Int), .int .i64 more] w6) := kept (by first | exact HVd.out.appB H.out h6 t6 g6 | exact (HVa _).out.appB H.out h6 t6 g6)); (have HX6 : Hid (Blk w6 w4.heap.size 137 [.int .i64 3, .int .u64 txn, .int .i64 next, .slice a1 k1 kc1, .slice a2 k2 kc2, .slice a3 n3 k3, .slice a4 k4 kc4]) := kept (by first | exact t6.blk HXd.out (fun e => absurd ((HVd.out.ob.cl e).uniq HXd.out.cl) (by decide)) | exact t6.blk (HXa (.cells #[.int .i64 x.1] 3)).out (fun e => absurd (((HVa (.cells #[.int .i64 x.1] 3)).out.ob.cl e).uniq (HXa (.cells #[.int .i64 x.1] 3)).out.cl) (by decide)))); (try (have HI6 : Hid (RdI w6 (some ⟨W5.heap.size, 0, none⟩) 1 [x.1]) := kept (by exact ((RdI.oneI W5 x.1).below (Below.refl _ _).drew).turned t6 (fun g e e2 => by cases e; have h9 := (HVd.out.ob.cl e2).lt; simp at h9))));  (have HS6 := kept (show ((fun W' => W'.cell? ⟨w.heap.size + 2, 0, none⟩ = some (.slice A1 n1 c1) ∧ W'.cell? ⟨w.heap.size + 2, 1, none⟩ = some (.slice B1 m1 d1) ∧ W'.cell? ⟨w4.heap.size, 5, none⟩ = some (.slice a3 n3 k3))) w6 from ⟨HV6.out.box.cell 0, HV6.out.box.cell 1, HX6.out.cell 5⟩)); (have HS6a := fun o => kept (show ((fun W' => W'.cell? ⟨w.heap.size + 2, 0, none⟩ = some (.slice A1 n1 c1) ∧ W'.cell? ⟨w.heap.size + 2, 1, none⟩ = some (.slice B1 m1 d1) ∧ W'.cell? ⟨w4.heap.size, 5, none⟩ = some (.slice a3 n3 k3))) (w6.alloc o) from ⟨(HV6.out.box.alloc o).cell 0, (HV6.out.box.alloc o).cell 1, (HX6.out.alloc o).cell 5⟩)); clear h6 t6 g6)
        refine hK.out _ _ ?_ (fun hHeld => ?_)
        · (first | exact fun hE => absurd hE (by decide) | (intro _; (try dsimp only); (first | with_reducible exact HSd.out | with_reducible exact (HSa _).out | with_reducible exact HS7.out | with_reducible exact HS6.out | with_reducible exact (HS6a _).out)))
        clear hK K
        (try replace hHeld := hHeld (by decide))
        (try simp only [Act.put, List.setIfInBounds_toArray, List.set_cons_zero, List.set_cons_succ])
        refine take_P 10 (some 67) ?_ (by (intro o ho w; (simp only [List.getElem?_toArray, List.getElem?_cons_succ, List.getElem?_cons_zero, Option.some.injEq] at ho); subst ho; go_simp; (first | done | with_reducible rfl))) (by ((try simp only [Act.put, hA, h0, h1]); (first | done | rfl))) (by first | exact fun _ => by assumption | exact fun hE => absurd hE (by decide))
        (try simp only [Act.put, List.setIfInBounds_toArray, List.set_cons_zero, List.set_cons_succ])
        refine ready_L 8 (fun o ho K hK => ?_)
        (simp only [List.getElem?_toArray, List.getElem?_cons_succ, List.getElem?_cons_zero, Option.some.injEq] at ho)
        subst ho
        go_simp
        refine hK.out _ _ ?_ (fun hHeld => ?_)
        · (first | exact fun hE => absurd hE (by decide) | (intro _; (try dsimp only); (first | with_reducible exact HSd.out | with_reducible exact (HSa _).out | with_reducible exact HS7.out | with_reducible exact HS6.out | with_reducible exact (HS6a _).out)))
        clear hK K
        (try replace hHeld := hHeld (by decide))
        (try simp only [Act.put, List.setIfInBounds_toArray, List.set_cons_zero, List.set_cons_succ])
        refine ready_L 9 (fun o ho K hK => ?_)
        (simp only [List.getElem?_toArray, List.getElem?_cons_succ, List.getElem?_cons_zero, Option.some.injEq] at ho)
        subst ho
        ((first | refine wp_append_i (.tmp 63) (.tmp 65) rfl rfl rfl HV6.out.oi HI6.out hm9 ?_ | refine wp_append_i (.tmp 63) (.tmp 65) rfl rfl rfl (HV6.out.on ((Below.refl _ w6).alloc (Nat.le_refl _) _)).oi (RdI.oneI w6 x.1) hm9 ?_); intro B7 d7 w7 h7 t7 g7; (have HV7 : Hid (ValS a w r t R p P S A A4 (n + m1 + 1) c4 (M ++ idsP l1 ++ [x.1]) A6 (n1 + n3) c6 (bytesP l1 ++ x.2) B7 (m1 + 1) d7 (idsP l1 ++ [x.1]) [.slice A1 n1 c1, .slice B1 m1 d1, .bool true] [.slice ka kn kc, .slice none 0 0, .int .i64 (sz : Int), .int .i64 more] w7) := kept (by first | exact HV6.out.appI H.out h7 t7 g7 | exact (HV6.out.on ((Below.refl _ w6).alloc (Nat.le_refl _) _)).appI H.out h7 t7 g7)); (have HX7 : Hid (Blk w7 w4.heap.size 137 [.int .i64 3, .int .u64 txn, .int .i64 next, .slice a1 k1 kc1, .slice a2 k2 kc2, .slice a3 n3 k3, .slice a4 k4 kc4]) := kept (by first | exact t7.blk HX6.out (fun e => absurd ((HV6.out.oi.cl e).uniq HX6.out.cl) (by decide)) | exact t7.blk (HX6.out.alloc (.cells #[.int .i64 x.1] 3)) (fun e => absurd (((HV6.out.on ((Below.refl _ w6).alloc (Nat.le_refl _) (.cells #[.int .i64 x.1] 3))).oi.cl e).uniq (HX6.out.alloc (.cells #[.int .i64 x.1] 3)).cl) (by decide)))); (have HS7 := kept (show ((fun W' => W'.cell? ⟨w.heap.size + 2, 0, none⟩ = some (.slice A1 n1 c1) ∧ W'.cell? ⟨w.heap.size + 2, 1, none⟩ = some (.slice B1 m1 d1) ∧ W'.cell? ⟨w4.heap.size, 5, none⟩ = some (.slice a3 n3 k3))) w7 from ⟨HV7.out.box.cell 0, HV7.out.box.cell 1, HX7.out.cell 5⟩)); have z0 : w7.cell? ⟨w.heap.size + 2, 0, none⟩ = some (.slice A1 n1 c1) := HV7.out.box.cell 0; have z1 : w7.cell? ⟨w.heap.size + 2, 1, none⟩ = some (.slice B1 m1 d1) := HV7.out.box.cell 1; have v0 := HV7.out.box.frozen 0; have v1 := HV7.out.box.frozen 1; clear h7 t7 g7)
        refine hK.out _ _ ?_ (fun hHeld => ?_)
        · (first | exact fun hE => absurd hE (by decide) | (intro _; (try dsimp only); (first | with_reducible exact HSd.out | with_reducible exact (HSa _).out | with_reducible exact HS7.out | with_reducible exact HS6.out | with_reducible exact (HS6a _).out)))
        clear hK K
        (try replace hHeld := hHeld (by decide))
        (try simp only [Act.put, List.setIfInBounds_toArray, List.set_cons_zero, List.set_cons_succ])
        refine ready_L 11 (fun o ho K hK => ?_)
        (simp only [List.getElem?_toArray, List.getElem?_cons_succ, List.getElem?_cons_zero, Option.some.injEq] at ho)
        subst ho
        go_simp
        refine hK.out _ _ ?_ (fun hHeld => ?_)
        · (first | exact fun hE => absurd hE (by decide) | (intro _; (try dsimp only); (first | with_reducible exact HSd.out | with_reducible exact (HSa _).out | with_reducible exact HS7.out | with_reducible exact HS6.out | with_reducible exact (HS6a _).out)))
        clear hK K
        (try replace hHeld := hHeld (by decide))
        (try simp only [Act.put, List.setIfInBounds_toArray, List.set_cons_zero, List.set_cons_succ])
        refine take_P 12 (some 68) ?_ (by (intro o ho w; (simp only [List.getElem?_toArray, List.getElem?_cons_succ, List.getElem?_cons_zero, Option.some.injEq] at ho); subst ho; go_simp; (first | done | with_reducible rfl))) (by ((try simp only [Act.put, hA, h0, h1]); (first | done | rfl))) (by first | exact fun _ => by assumption | exact fun hE => absurd hE (by decide))
        (try simp only [Act.put, List.setIfInBounds_toArray, List.set_cons_zero, List.set_cons_succ])
        refine ready_L 13 (fun o ho K hK => ?_)
        (simp only [List.getElem?_toArray, List.getElem?_cons_succ, List.getElem?_cons_zero, Option.some.injEq] at ho)
        subst ho
        go_simp
        refine hK.out _ _ ?_ (fun hHeld => ?_)
        · (first | exact fun hE => absurd hE (by decide) | (intro _; (try dsimp only); (first | with_reducible exact HSd.out | with_reducible exact (HSa _).out | with_reducible exact HS7.out | with_reducible exact HS6.out | with_reducible exact (HS6a _).out)))
        clear hK K
        (try replace hHeld := hHeld (by decide))
        (try simp only [Act.put, List.setIfInBounds_toArray, List.set_cons_zero, List.set_cons_succ])
        refine done_L (by kernel_rfl) ?_ _
        (have hx9 := HX7.out; have hv9 := ((HV7.out.put H.out 0 (.slice A6 (n1 + n3) c6)).put H.out 1 (.slice B7 (m1 + 1) d7)); simp only [List.set_cons_zero, List.set_cons_succ] at hv9; have hx10 : Blk ((w7.setCell ⟨w.heap.size + 2, 0, none⟩ (.slice A6 (n1 + n3) c6)).setCell ⟨w.heap.size + 2, 1, none⟩ (.slice B7 (m1 + 1) d7)) w4.heap.size 137 [.int .i64 3, .int .u64 txn, .int .i64 next, .slice a1 k1 kc1, .slice a2 k2 kc2, .slice a3 n3 k3, .slice a4 k4 kc4] := (HX7.out.far (by show w4.heap.size ≠ w.heap.size + 2; omega) _).far (by show w4.heap.size ≠ w.heap.size + 2; omega) _; generalize ((w7.setCell ⟨w.heap.size + 2, 0, none⟩ (.slice A6 (n1 + n3) c6)).setCell ⟨w.heap.size + 2, 1, none⟩ (.slice B7 (m1 + 1) d7)) = W9 at hv9 hx10 ⊢; have y2 : W9.cell? ⟨w4.heap.size, 2, none⟩ = some (.int .i64 next) := hx10.cell 2; (have hid : M ++ idsP (l1 ++ [x]) = M ++ idsP l1 ++ [x.1] := by rw [idsP_append, ← List.append_assoc]; rfl); (have hby : bytesP (l1 ++ [x]) = bytesP l1 ++ x.2 := by rw [bytesP_append]; simp [bytesP]); (have hid2 : idsP (l1 ++ [x]) = idsP l1 ++ [x.1] := by rw [idsP_append]; rfl); (have HE : Hid (RelV a w r t R p P S A n M l [.slice ka kn kc, .slice none 0 0, .int .i64 (sz : Int), .int .i64 more] next (l1 ++ [x]) rest true A4 c4 A6 (n1 + n3) c6 B7 (m1 + 1) d7 W9) := kept ⟨by rw [List.append_assoc]; exact HL.out.cat, HCH.out, HFI.out, by rw [hby, List.length_append, ← HL.out.en, HM.out.1], by rw [List.length_append, ← HL.out.em]; rfl, by rw [hid, hby, hid2]; exact hv9⟩); clear hv9 hx10 hx9 hid hby hid2; go_wp2; go_roundg rest.length; (case measure => (have := HGK.out; simp at this; omega)); (case rel => exact ⟨next, l1 ++ [x], rest, true, A4, c4, A6, n1 + n3, c6, B7, m1 + 1, d7, rfl, rfl, HE⟩))
      · (simp only [List.getElem?_toArray, List.getElem?_cons_succ, List.getElem?_cons_zero, Option.some.injEq] at ho)
        subst ho
        go_simp
        refine hK.out _ _ ?_ (fun hHeld => ?_)
        · (first | exact fun hE => absurd hE (by decide) | (intro _; (try dsimp only); (first | with_reducible exact HSd.out | with_reducible exact (HSa _).out | with_reducible exact HS7.out | with_reducible exact HS6.out | with_reducible exact (HS6a _).out)))
        clear hK K
        (try replace hHeld := hHeld (by decide))
        (try simp only [Act.put, List.setIfInBounds_toArray, List.set_cons_zero, List.set_cons_succ])
        refine ready_L 4 (fun o ho K hK => ?_)
        (simp only [List.getElem?_toArray, List.getElem?_cons_succ, List.getElem?_cons_zero, Option.some.injEq] at ho)
        subst ho
        ((first | refine wp_append_b (.tmp 58) (.tmp 60) rfl rfl rfl HVd.out.ob HDd.out hm4 ?_ | refine wp_append_b (.tmp 58) (.tmp 60) rfl rfl rfl (HVa _).out.ob (HDa _).out hm4 ?_); intro A6 c6 w6 h6 t6 g6; (have HV6 : Hid (ValS a w r t R p P S A A4 (n + m1 + 1) c4 (M ++ idsP l1 ++ [x.1]) A6 (n1 + n3) c6 (bytesP l1 ++ x.2) B1 m1 d1 (idsP l1) [.slice A1 n1 c1, .slice B1 m1 d1, .bool true] [.slice ka kn kc, .slice none 0 0, .int .i64 (sz : Int), .int .i64 more] w6) := kept (by first | exact HVd.out.appB H.out h6 t6 g6 | exact (HVa _).out.appB H.out h6 t6 g6)); (have HX6 : Hid (Blk w6 w4.heap.size 137 [.int .i64 3, .int .u64 txn, .int .i64 next, .slice a1 k1 kc1, .slice a2 k2 kc2, .slice a3 n3 k3, .slice a4 k4 kc4]) := kept (by first | exact t6.blk HXd.out (fun e => absurd ((HVd.out.ob.cl e).uniq HXd.out.cl) (by decide)) | exact t6.blk (HXa (.cells #[.int .i64 x.1] 3)).out (fun e => absurd (((HVa (.cells #[.int .i64 x.1] 3)).out.ob.cl e).uniq (HXa (.cells #[.int .i64 x.1] 3)).out.cl) (by decide)))); (try (have HI6 : Hid (RdI w6 (some ⟨W5.heap.size, 0, none⟩) 1 [x.1]) := kept (by exact ((RdI.oneI W5 x.1).below (Below.refl _ _).drew).turned t6 (fun g e e2 => by cases e; have h9 := (HVd.out.ob.cl e2).lt; simp at h9))));  (have HS6 := kept (show ((fun W' => W'.cell? ⟨w.heap.size + 2, 0, none⟩ = some (.slice A1 n1 c1) ∧ W'.cell? ⟨w.heap.size + 2, 1, none⟩ = some (.slice B1 m1 d1) ∧ W'.cell? ⟨w4.heap.size, 5, none⟩ = some (.slice a3 n3 k3))) w6 from ⟨HV6.out.box.cell 0, HV6.out.box.cell 1, HX6.out.cell 5⟩)); (have HS6a := fun o => kept (show ((fun W' => W'.cell? ⟨w.heap.size + 2, 0, none⟩ = some (.slice A1 n1 c1) ∧ W'.cell? ⟨w.heap.size + 2, 1, none⟩ = some (.slice B1 m1 d1) ∧ W'.cell? ⟨w4.heap.size, 5, none⟩ = some (.slice a3 n3 k3))) (w6.alloc o) from ⟨(HV6.out.box.alloc o).cell 0, (HV6.out.box.alloc o).cell 1, (HX6.out.alloc o).cell 5⟩)); clear h6 t6 g6)
        refine hK.out _ _ ?_ (fun hHeld => ?_)
        · (first | exact fun hE => absurd hE (by decide) | (intro _; (try dsimp only); (first | with_reducible exact HSd.out | with_reducible exact (HSa _).out | with_reducible exact HS7.out | with_reducible exact HS6.out | with_reducible exact (HS6a _).out)))
        clear hK K
        (try replace hHeld := hHeld (by decide))
        (try simp only [Act.put, List.setIfInBounds_toArray, List.set_cons_zero, List.set_cons_succ])
        refine take_P 10 (some 67) ?_ (by (intro o ho w; (simp only [List.getElem?_toArray, List.getElem?_cons_succ, List.getElem?_cons_zero, Option.some.injEq] at ho); subst ho; go_simp; (first | done | with_reducible rfl))) (by ((try simp only [Act.put, hA, h0, h1]); (first | done | rfl))) (by first | exact fun _ => by assumption | exact fun hE => absurd hE (by decide))
        (try simp only [Act.put, List.setIfInBounds_toArray, List.set_cons_zero, List.set_cons_succ])
        refine ready_L 9 (fun o ho K hK => ?_)
        (simp only [List.getElem?_toArray, List.getElem?_cons_succ, List.getElem?_cons_zero, Option.some.injEq] at ho)
        subst ho
        ((first | refine wp_append_i (.tmp 63) (.tmp 65) rfl rfl rfl HV6.out.oi HI6.out hm9 ?_ | refine wp_append_i (.tmp 63) (.tmp 65) rfl rfl rfl (HV6.out.on ((Below.refl _ w6).alloc (Nat.le_refl _) _)).oi (RdI.oneI w6 x.1) hm9 ?_); intro B7 d7 w7 h7 t7 g7; (have HV7 : Hid (ValS a w r t R p P S A A4 (n + m1 + 1) c4 (M ++ idsP l1 ++ [x.1]) A6 (n1 + n3) c6 (bytesP l1 ++ x.2) B7 (m1 + 1) d7 (idsP l1 ++ [x.1]) [.slice A1 n1 c1, .slice B1 m1 d1, .bool true] [.slice ka kn kc, .slice none 0 0, .int .i64 (sz : Int), .int .i64 more] w7) := kept (by first | exact HV6.out.appI H.out h7 t7 g7 | exact (HV6.out.on ((Below.refl _ w6).alloc (Nat.le_refl _) _)).appI H.out h7 t7 g7)); (have HX7 : Hid (Blk w7 w4.heap.size 137 [.int .i64 3, .int .u64 txn, .int .i64 next, .slice a1 k1 kc1, .slice a2 k2 kc2, .slice a3 n3 k3, .slice a4 k4 kc4]) := kept (by first | exact t7.blk HX6.out (fun e => absurd ((HV6.out.oi.cl e).uniq HX6.out.cl) (by decide)) | exact t7.blk (HX6.out.alloc (.cells #[.int .i64 x.1] 3)) (fun e => absurd (((HV6.out.on ((Below.refl _ w6).alloc (Nat.le_refl _) (.cells #[.int .i64 x.1] 3))).oi.cl e).uniq (HX6.out.alloc (.cells #[.int .i64 x.1] 3)).cl) (by decide)))); (have HS7 := kept (show ((fun W' => W'.cell? ⟨w.heap.size + 2, 0, none⟩ = some (.slice A1 n1 c1) ∧ W'.cell? ⟨w.heap.size + 2, 1, none⟩ = some (.slice B1 m1 d1) ∧ W'.cell? ⟨w4.heap.size, 5, none⟩ = some (.slice a3 n3 k3))) w7 from ⟨HV7.out.box.cell 0, HV7.out.box.cell 1, HX7.out.cell 5⟩)); have z0 : w7.cell? ⟨w.heap.size + 2, 0, none⟩ = some (.slice A1 n1 c1) := HV7.out.box.cell 0; have z1 : w7.cell? ⟨w.heap.size + 2, 1, none⟩ = some (.slice B1 m1 d1) := HV7.out.box.cell 1; have v0 := HV7.out.box.frozen 0; have v1 := HV7.out.box.frozen 1; clear h7 t7 g7)
        refine hK.out _ _ ?_ (fun hHeld => ?_)
        · (first | exact fun hE => absurd hE (by decide) | (intro _; (try dsimp only); (first | with_reducible exact HSd.out | with_reducible exact (HSa _).out | with_reducible exact HS7.out | with_reducible exact HS6.out | with_reducible exact (HS6a _).out)))
        clear hK K
        (try replace hHeld := hHeld (by decide))
        (try simp only [Act.put, List.setIfInBounds_toArray, List.set_cons_zero, List.set_cons_succ])
        refine ready_L 11 (fun o ho K hK => ?_)
        (simp only [List.getElem?_toArray, List.getElem?_cons_succ, List.getElem?_cons_zero, Option.some.injEq] at ho)
        subst ho
        go_simp
        refine hK.out _ _ ?_ (fun hHeld => ?_)
        · (first | exact fun hE => absurd hE (by decide) | (intro _; (try dsimp only); (first | with_reducible exact HSd.out | with_reducible exact (HSa _).out | with_reducible exact HS7.out | with_reducible exact HS6.out | with_reducible exact (HS6a _).out)))
        clear hK K
        (try replace hHeld := hHeld (by decide))
        (try simp only [Act.put, List.setIfInBounds_toArray, List.set_cons_zero, List.set_cons_succ])
        refine take_P 12 (some 68) ?_ (by (intro o ho w; (simp only [List.getElem?_toArray, List.getElem?_cons_succ, List.getElem?_cons_zero, Option.some.injEq] at ho); subst ho; go_simp; (first | done | with_reducible rfl))) (by ((try simp only [Act.put, hA, h0, h1]); (first | done | rfl))) (by first | exact fun _ => by assumption | exact fun hE => absurd hE (by decide))
        (try simp only [Act.put, List.setIfInBounds_toArray, List.set_cons_zero, List.set_cons_succ])
        refine ready_L 13 (fun o ho K hK => ?_)
        (simp only [List.getElem?_toArray, List.getElem?_cons_succ, List.getElem?_cons_zero, Option.some.injEq] at ho)
        subst ho
        go_simp
        refine hK.out _ _ ?_ (fun hHeld => ?_)
        · (first | exact fun hE => absurd hE (by decide) | (intro _; (try dsimp only); (first | with_reducible exact HSd.out | with_reducible exact (HSa _).out | with_reducible exact HS7.out | with_reducible exact HS6.out | with_reducible exact (HS6a _).out)))
        clear hK K
        (try replace hHeld := hHeld (by decide))
        (try simp only [Act.put, List.setIfInBounds_toArray, List.set_cons_zero, List.set_cons_succ])
        refine done_L (by kernel_rfl) ?_ _
        (have hx9 := HX7.out; have hv9 := ((HV7.out.put H.out 0 (.slice A6 (n1 + n3) c6)).put H.out 1 (.slice B7 (m1 + 1) d7)); simp only [List.set_cons_zero, List.set_cons_succ] at hv9; have hx10 : Blk ((w7.setCell ⟨w.heap.size + 2, 0, none⟩ (.slice A6 (n1 + n3) c6)).setCell ⟨w.heap.size + 2, 1, none⟩ (.slice B7 (m1 + 1) d7)) w4.heap.size 137 [.int .i64 3, .int .u64 txn, .int .i64 next, .slice a1 k1 kc1, .slice a2 k2 kc2, .slice a3 n3 k3, .slice a4 k4 kc4] := (HX7.out.far (by show w4.heap.size ≠ w.heap.size + 2; omega) _).far (by show w4.heap.size ≠ w.heap.size + 2; omega) _; generalize ((w7.setCell ⟨w.heap.size + 2, 0, none⟩ (.slice A6 (n1 + n3) c6)).setCell ⟨w.heap.size + 2, 1, none⟩ (.slice B7 (m1 + 1) d7)) = W9 at hv9 hx10 ⊢; have y2 : W9.cell? ⟨w4.heap.size, 2, none⟩ = some (.int .i64 next) := hx10.cell 2; (have hid : M ++ idsP (l1 ++ [x]) = M ++ idsP l1 ++ [x.1] := by rw [idsP_append, ← List.append_assoc]; rfl); (have hby : bytesP (l1 ++ [x]) = bytesP l1 ++ x.2 := by rw [bytesP_append]; simp [bytesP]); (have hid2 : idsP (l1 ++ [x]) = idsP l1 ++ [x.1] := by rw [idsP_append]; rfl); (have HE : Hid (RelV a w r t R p P S A n M l [.slice ka kn kc, .slice none 0 0, .int .i64 (sz : Int), .int .i64 more] next (l1 ++ [x]) rest true A4 c4 A6 (n1 + n3) c6 B7 (m1 + 1) d7 W9) := kept ⟨by rw [List.append_assoc]; exact HL.out.cat, HCH.out, HFI.out, by rw [hby, List.length_append, ← HL.out.en, HM.out.1], by rw [List.length_append, ← HL.out.em]; rfl, by rw [hid, hby, hid2]; exact hv9⟩); clear hv9 hx10 hx9 hid hby hid2; go_wp2; go_roundg rest.length; (case measure => (have := HGK.out; simp at this; omega)); (case rel => exact ⟨next, l1 ++ [x], rest, true, A4, c4, A6, n1 + n3, c6, B7, m1 + 1, d7, rfl, rfl, HE⟩))
    · rw [hg] at HFI
      clear hg
      subst hf1
      have hn0' : (next == 0) = false := by simpa using hn0
      have h37' : ((n3 : Int) == 237) = false := by simp; omega
      have hm4 : n1 + n3 ≤ 1000000 := by omega
      have hm9 : m1 + 1 ≤ 1000000 := by have := HM.out; omega
      go_wp2
      have hb5 := (Below.refl w4.heap.size w4).alloc (Nat.le_refl _) (.cells #[.int .i64 3, .int .u64 txn, .int .i64 next, .slice a1 k1 kc1, .slice a2 k2 kc2, .slice a3 n3 k3, .slice a4 k4 kc4] 137)
      have hv5 := (HV4.out.on hb5).put H.out 2 (.bool false)
      simp only [List.set_cons_zero, List.set_cons_succ] at hv5
      have hq4 : w.heap.size + 2 < w4.heap.size := HV4.out.box.lt
      have hx5 : Blk ((w4.alloc (.cells #[.int .i64 3, .int .u64 txn, .int .i64 next, .slice a1 k1 kc1, .slice a2 k2 kc2, .slice a3 n3 k3, .slice a4 k4 kc4] 137)).setCell ⟨w.heap.size + 2, 2, none⟩ (.bool false)) w4.heap.size 137 [.int .i64 3, .int .u64 txn, .int .i64 next, .slice a1 k1 kc1, .slice a2 k2 kc2, .slice a3 n3 k3, .slice a4 k4 kc4] := (Blk.new w4 137 #[.int .i64 3, .int .u64 txn, .int .i64 next, .slice a1 k1 kc1, .slice a2 k2 kc2, .slice a3 n3 k3, .slice a4 k4 kc4]).far (by show w4.heap.size ≠ w.heap.size + 2; omega) _
      have tq5 : Turned (w4.alloc (.cells #[.int .i64 3, .int .u64 txn, .int .i64 next, .slice a1 k1 kc1, .slice a2 k2 kc2, .slice a3 n3 k3, .slice a4 k4 kc4] 137)) ((w4.alloc (.cells #[.int .i64 3, .int .u64 txn, .int .i64 next, .slice a1 k1 kc1, .slice a2 k2 kc2, .slice a3 n3 k3, .slice a4 k4 kc4] 137)).setCell ⟨w.heap.size + 2, 2, none⟩ (.bool false)) (fun k => k = w.heap.size + 2) := (Turned.refl _ (fun k => k = w.heap.size + 2)).setCell (T := fun k => k = w.heap.size + 2) (p := ⟨w.heap.size + 2, 2, none⟩) (fun _ => rfl) _
      have hd5 : Rd ((w4.alloc (.cells #[.int .i64 3, .int .u64 txn, .int .i64 next, .slice a1 k1 kc1, .slice a2 k2 kc2, .slice a3 n3 k3, .slice a4 k4 kc4] 137)).setCell ⟨w.heap.size + 2, 2, none⟩ (.bool false)) a3 n3 x.2 := by
       have h1 := ((HH.out.2.1.below hb5).turned tq5 (fun k hk e => by have h2 := (HH.out.2.2.2.1 k hk).1; have h3 := HL.out.vs.box.lt; omega)).here.toRdPg.data
       rw [HX.out.2.1] at h1; exact h1
      generalize ((w4.alloc (.cells #[.int .i64 3, .int .u64 txn, .int .i64 next, .slice a1 k1 kc1, .slice a2 k2 kc2, .slice a3 n3 k3, .slice a4 k4 kc4] 137)).setCell ⟨w.heap.size + 2, 2, none⟩ (.bool false)) = W5 at hv5 hx5 hd5 ⊢
      have HVd := kept (hv5.on (Below.refl _ W5).drew)
      have HVa := fun o => kept (hv5.on (below_ad W5 o))
      have HXd := kept (hx5.below (Below.refl _ W5).drew hx5.lt)
      have HXa := fun o => kept (hx5.below (below_ad W5 o) hx5.lt)
      have HDd := kept (hd5.below (Below.refl _ W5).drew)
      have HDa := fun o => kept (hd5.below (below_ad W5 o))
      have HSd := kept (show ((fun W' => W'.cell? ⟨w.heap.size + 2, 0, none⟩ = some (.slice A1 n1 c1) ∧ W'.cell? ⟨w.heap.size + 2, 1, none⟩ = some (.slice B1 m1 d1) ∧ W'.cell? ⟨w4.heap.size, 5, none⟩ = some (.slice a3 n3 k3))) W5.drew from ⟨HVd.out.box.cell 0, HVd.out.box.cell 1, HXd.out.cell 5⟩)
      have HSa := fun o => kept (show ((fun W' => W'.cell? ⟨w.heap.size + 2, 0, none⟩ = some (.slice A1 n1 c1) ∧ W'.cell? ⟨w.heap.size + 2, 1, none⟩ = some (.slice B1 m1 d1) ∧ W'.cell? ⟨w4.heap.size, 5, none⟩ = some (.slice a3 n3 k3))) (W5.alloc o).drew from ⟨(HVa o).out.box.cell 0, (HVa o).out.box.cell 1, (HXa o).out.cell 5⟩)
      clear hv5 hx5 hd5 tq5 hb5 q0 q2 i2 f2
      refine region_L [11, 13] ((fun W' => W'.cell? ⟨w.heap.size + 2, 0, none⟩ = some (.slice A1 n1 c1) ∧ W'.cell? ⟨w.heap.size + 2, 1, none⟩ = some (.slice B1 m1 d1) ∧ W'.cell? ⟨w4.heap.size, 5, none⟩ = some (.slice a3 n3 k3))) (by kernel_rfl) ?_ (fun hHeld => ?_)
      · ((try dsimp only); (first | with_reducible exact HSd.out | with_reducible exact (HSa _).out | with_reducible exact HS7.out | with_reducible exact HS6.out | with_reducible exact (HS6a _).out))
      (try simp only [List.size_toArray, List.length_cons, List.length_nil, Nat.reduceAdd, Array.replicate_succ, Array.replicate_zero, List.push_toArray, List.append_toArray, List.nil_append, List.cons_append])
      refine take_P 0 (some 57) ?_ (by (intro o ho w; (simp only [List.getElem?_toArray, List.getElem?_cons_succ, List.getElem?_cons_zero, Option.some.injEq] at ho); subst ho; go_simp; (first | done | with_reducible rfl))) (by ((try simp only [Act.put, hA, h0, h1]); (first | done | rfl))) (by first | exact fun _ => by assumption | exact fun hE => absurd hE (by decide))
      (try simp only [Act.put, List.setIfInBounds_toArray, List.set_cons_zero, List.set_cons_succ])
      refine take_L 1 (some 58) ?_ (by (intro o ho w hSw; (simp only [List.getElem?_toArray, List.getElem?_cons_succ, List.getElem?_cons_zero, Option.some.injEq] at ho); subst ho; (try dsimp only at hSw); go_simp; (first | done | with_reducible rfl))) (by ((try simp only [Act.put, hA, h0, h1]); (first | done | rfl)))
      (try simp only [Act.put, List.setIfInBounds_toArray, List.set_cons_zero, List.set_cons_succ])
      refine take_P 2 (some 59) ?_ (by (intro o ho w; (simp only [List.getElem?_toArray, List.getElem?_cons_succ, List.getElem?_cons_zero, Option.some.injEq] at ho); subst ho; go_simp; (first | done | with_reducible rfl))) (by ((try simp only [Act.put, hA, h0, h1]); (first | done | rfl))) (by first | exact fun _ => by assumption | exact fun hE => absurd hE (by decide))
      (try simp only [Act.put, List.setIfInBounds_toArray, List.set_cons_zero, List.set_cons_succ])
      refine take_L 3 (some 60) ?_ (by (intro o ho w hSw; (simp only [List.getElem?_toArray, List.getElem?_cons_succ, List.getElem?_cons_zero, Option.some.injEq] at ho); subst ho; (try dsimp only at hSw); go_simp; (first | done | with_reducible rfl))) (by ((try simp only [Act.put, hA, h0, h1]); (first | done | rfl)))
      (try simp only [Act.put, List.setIfInBounds_toArray, List.set_cons_zero, List.set_cons_succ])
      refine take_P 5 (some 62) ?_ (by (intro o ho w; (simp only [List.getElem?_toArray, List.getElem?_cons_succ, List.getElem?_cons_zero, Option.some.injEq] at ho); subst ho; go_simp; (first | done | with_reducible rfl))) (by ((try simp only [Act.put, hA, h0, h1]); (first | done | rfl))) (by first | exact fun _ => by assumption | exact fun hE => absurd hE (by decide))
      (try simp only [Act.put, List.setIfInBounds_toArray, List.set_cons_zero, List.set_cons_succ])
      refine take_L 6 (some 63) ?_ (by (intro o ho w hSw; (simp only [List.getElem?_toArray, List.getElem?_cons_succ, List.getElem?_cons_zero, Option.some.injEq] at ho); subst ho; (try dsimp only at hSw); go_simp; (first | done | with_reducible rfl))) (by ((try simp only [Act.put, hA, h0, h1]); (first | done | rfl)))
      (try simp only [Act.put, List.setIfInBounds_toArray, List.set_cons_zero, List.set_cons_succ])
      refine take_P 7 (some 64) ?_ (by (intro o ho w; (simp only [List.getElem?_toArray, List.getElem?_cons_succ, List.getElem?_cons_zero, Option.some.injEq] at ho); subst ho; go_simp; (first | done | with_reducible rfl))) (by ((try simp only [Act.put, hA, h0, h1]); (first | done | rfl))) (by first | exact fun _ => by assumption | exact fun hE => absurd hE (by decide))
      (try simp only [Act.put, List.setIfInBounds_toArray, List.set_cons_zero, List.set_cons_succ])
      refine two_L 4 8 (fun o ho K hK => ?_) (fun o ho K hK => ?_)
      · (simp only [List.getElem?_toArray, List.getElem?_cons_succ, List.getElem?_cons_zero, Option.some.injEq] at ho)
        subst ho
        ((first | refine wp_append_b (.tmp 58) (.tmp 60) rfl rfl rfl HVd.out.ob HDd.out hm4 ?_ | refine wp_append_b (.tmp 58) (.tmp 60) rfl rfl rfl (HVa _).out.ob (HDa _).out hm4 ?_); intro A6 c6 w6 h6 t6 g6; (have HV6 : Hid (ValS a w r t R p P S A A4 (n + m1 + 1) c4 (M ++ idsP l1 ++ [x.1]) A6 (n1 + n3) c6 (bytesP l1 ++ x.2) B1 m1 d1 (idsP l1) [.slice A1 n1 c1, .slice B1 m1 d1, .bool false] [.slice ka kn kc, .slice none 0 0, .int .i64 (sz : Int), .int .i64 more] w6) := kept (by first | exact HVd.out.appB H.out h6 t6 g6 | exact (HVa _).out.appB H.out h6 t6 g6)); (have HX6 : Hid (Blk w6 w4.heap.size 137 [.int .i64 3, .int .u64 txn, .int .i64 next, .slice a1 k1 kc1, .slice a2 k2 kc2, .slice a3 n3 k3, .slice a4 k4 kc4]) := kept (by first | exact t6.blk HXd.out (fun e => absurd ((HVd.out.ob.cl e).uniq HXd.out.cl) (by decide)) | exact t6.blk (HXa (.cells #[.int .i64 x.1] 3)).out (fun e => absurd (((HVa (.cells #[.int .i64 x.1] 3)).out.ob.cl e).uniq (HXa (.cells #[.int .i64 x.1] 3)).out.cl) (by decide)))); (try (have HI6 : Hid (RdI w6 (some ⟨W5.heap.size, 0, none⟩) 1 [x.1]) := kept (by exact ((RdI.oneI W5 x.1).below (Below.refl _ _).drew).turned t6 (fun g e e2 => by cases e; have h9 := (HVd.out.ob.cl e2).lt; simp at h9))));  (have HS6 := kept (show ((fun W' => W'.cell? ⟨w.heap.size + 2, 0, none⟩ = some (.slice A1 n1 c1) ∧ W'.cell? ⟨w.heap.size + 2, 1, none⟩ = some (.slice B1 m1 d1) ∧ W'.cell? ⟨w4.heap.size, 5, none⟩ = some (.slice a3 n3 k3))) w6 from ⟨HV6.out.box.cell 0, HV6.out.box.cell 1, HX6.out.cell 5⟩)); (have HS6a := fun o => kept (show ((fun W' => W'.cell? ⟨w.heap.size + 2, 0, none⟩ = some (.slice A1 n1 c1) ∧ W'.cell? ⟨w.heap.size + 2, 1, none⟩ = some (.slice B1 m1 d1) ∧ W'.cell? ⟨w4.heap.size, 5, none⟩ = some (.slice a3 n3 k3))) (w6.alloc o) from ⟨(HV6.out.box.alloc o).cell 0, (HV6.out.box.alloc o).cell 1, (HX6.out.alloc o).cell 5⟩)); clear h6 t6 g6)
        refine hK.out _ _ ?_ (fun hHeld => ?_)
        · (first | exact fun hE => absurd hE (by decide) | (intro _; (try dsimp only); (first | with_reducible exact HSd.out | with_reducible exact (HSa _).out | with_reducible exact HS7.out | with_reducible exact HS6.out | with_reducible exact (HS6a _).out)))
        clear hK K
        (try replace hHeld := hHeld (by decide))
        (try simp only [Act.put, List.setIfInBounds_toArray, List.set_cons_zero, List.set_cons_succ])
        refine take_P 10 (some 67) ?_ (by (intro o ho w; (simp only [List.getElem?_toArray, List.getElem?_cons_succ, List.getElem?_cons_zero, Option.some.injEq] at ho); subst ho; go_simp; (first | done | with_reducible rfl))) (by ((try simp only [Act.put, hA, h0, h1]); (first | done | rfl))) (by first | exact fun _ => by assumption | exact fun hE => absurd hE (by decide))
        (try simp only [Act.put, List.setIfInBounds_toArray, List.set_cons_zero, List.set_cons_succ])
        refine ready_L 8 (fun o ho K hK => ?_)
        (simp only [List.getElem?_toArray, List.getElem?_cons_succ, List.getElem?_cons_zero, Option.some.injEq] at ho)
        subst ho
        go_simp
        refine hK.out _ _ ?_ (fun hHeld => ?_)
        · (first | exact fun hE => absurd hE (by decide) | (intro _; (try dsimp only); (first | with_reducible exact HSd.out | with_reducible exact (HSa _).out | with_reducible exact HS7.out | with_reducible exact HS6.out | with_reducible exact (HS6a _).out)))
        clear hK K
        (try replace hHeld := hHeld (by decide))
        (try simp only [Act.put, List.setIfInBounds_toArray, List.set_cons_zero, List.set_cons_succ])
        refine ready_L 9 (fun o ho K hK => ?_)
        (simp only [List.getElem?_toArray, List.getElem?_cons_succ, List.getElem?_cons_zero, Option.some.injEq] at ho)
        subst ho
        ((first | refine wp_append_i (.tmp 63) (.tmp 65) rfl rfl rfl HV6.out.oi HI6.out hm9 ?_ | refine wp_append_i (.tmp 63) (.tmp 65) rfl rfl rfl (HV6.out.on ((Below.refl _ w6).alloc (Nat.le_refl _) _)).oi (RdI.oneI w6 x.1) hm9 ?_); intro B7 d7 w7 h7 t7 g7; (have HV7 : Hid (ValS a w r t R p P S A A4 (n + m1 + 1) c4 (M ++ idsP l1 ++ [x.1]) A6 (n1 + n3) c6 (bytesP l1 ++ x.2) B7 (m1 + 1) d7 (idsP l1 ++ [x.1]) [.slice A1 n1 c1, .slice B1 m1 d1, .bool false] [.slice ka kn kc, .slice none 0 0, .int .i64 (sz : Int), .int .i64 more] w7) := kept (by first | exact HV6.out.appI H.out h7 t7 g7 | exact (HV6.out.on ((Below.refl _ w6).alloc (Nat.le_refl _) _)).appI H.out h7 t7 g7)); (have HX7 : Hid (Blk w7 w4.heap.size 137 [.int .i64 3, .int .u64 txn, .int .i64 next, .slice a1 k1 kc1, .slice a2 k2 kc2, .slice a3 n3 k3, .slice a4 k4 kc4]) := kept (by first | exact t7.blk HX6.out (fun e => absurd ((HV6.out.oi.cl e).uniq HX6.out.cl) (by decide)) | exact t7.blk (HX6.out.alloc (.cells #[.int .i64 x.1] 3)) (fun e => absurd (((HV6.out.on ((Below.refl _ w6).alloc (Nat.le_refl _) (.cells #[.int .i64 x.1] 3))).oi.cl e).uniq (HX6.out.alloc (.cells #[.int .i64 x.1] 3)).cl) (by decide)))); (have HS7 := kept (show ((fun W' => W'.cell? ⟨w.heap.size + 2, 0, none⟩ = some (.slice A1 n1 c1) ∧ W'.cell? ⟨w.heap.size + 2, 1, none⟩ = some (.slice B1 m1 d1) ∧ W'.cell? ⟨w4.heap.size, 5, none⟩ = some (.slice a3 n3 k3))) w7 from ⟨HV7.out.box.cell 0, HV7.out.box.cell 1, HX7.out.cell 5⟩)); have z0 : w7.cell? ⟨w.heap.size + 2, 0, none⟩ = some (.slice A1 n1 c1) := HV7.out.box.cell 0; have z1 : w7.cell? ⟨w.heap.size + 2, 1, none⟩ = some (.slice B1 m1 d1) := HV7.out.box.cell 1; have v0 := HV7.out.box.frozen 0; have v1 := HV7.out.box.frozen 1; clear h7 t7 g7)
        refine hK.out _ _ ?_ (fun hHeld => ?_)
        · (first | exact fun hE => absurd hE (by decide) | (intro _; (try dsimp only); (first | with_reducible exact HSd.out | with_reducible exact (HSa _).out | with_reducible exact HS7.out | with_reducible exact HS6.out | with_reducible exact (HS6a _).out)))
        clear hK K
        (try replace hHeld := hHeld (by decide))
        (try simp only [Act.put, List.setIfInBounds_toArray, List.set_cons_zero, List.set_cons_succ])
        refine ready_L 11 (fun o ho K hK => ?_)
        (simp only [List.getElem?_toArray, List.getElem?_cons_succ, List.getElem?_cons_zero, Option.some.injEq] at ho)
        subst ho
        go_simp
        refine hK.out _ _ ?_ (fun hHeld => ?_)
        · (first | exact fun hE => absurd hE (by decide) | (intro _; (try dsimp only); (first | with_reducible exact HSd.out | with_reducible exact (HSa _).out | with_reducible exact HS7.out | with_reducible exact HS6.out | with_reducible exact (HS6a _).out)))
        clear hK K
        (try replace hHeld := hHeld (by decide))
        (try simp only [Act.put, List.setIfInBounds_toArray, List.set_cons_zero, List.set_cons_succ])
        refine take_P 12 (some 68) ?_ (by (intro o ho w; (simp only [List.getElem?_toArray, List.getElem?_cons_succ, List.getElem?_cons_zero, Option.some.injEq] at ho); subst ho; go_simp; (first | done | with_reducible rfl))) (by ((try simp only [Act.put, hA, h0, h1]); (first | done | rfl))) (by first | exact fun _ => by assumption | exact fun hE => absurd hE (by decide))
        (try simp only [Act.put, List.setIfInBounds_toArray, List.set_cons_zero, List.set_cons_succ])
        refine ready_L 13 (fun o ho K hK => ?_)
        (simp only [List.getElem?_toArray, List.getElem?_cons_succ, List.getElem?_cons_zero, Option.some.injEq] at ho)
        subst ho
        go_simp
        refine hK.out _ _ ?_ (fun hHeld => ?_)
        · (first | exact fun hE => absurd hE (by decide) | (intro _; (try dsimp only); (first | with_reducible exact HSd.out | with_reducible exact (HSa _).out | with_reducible exact HS7.out | with_reducible exact HS6.out | with_reducible exact (HS6a _).out)))
        clear hK K
        (try replace hHeld := hHeld (by decide))
        (try simp only [Act.put, List.setIfInBounds_toArray, List.set_cons_zero, List.set_cons_succ])
        refine done_L (by kernel_rfl) ?_ _
        (have hx9 := HX7.out; have hv9 := ((HV7.out.put H.out 0 (.slice A6 (n1 + n3) c6)).put H.out 1 (.slice B7 (m1 + 1) d7)); simp only [List.set_cons_zero, List.set_cons_succ] at hv9; have hx10 : Blk ((w7.setCell ⟨w.heap.size + 2, 0, none⟩ (.slice A6 (n1 + n3) c6)).setCell ⟨w.heap.size + 2, 1, none⟩ (.slice B7 (m1 + 1) d7)) w4.heap.size 137 [.int .i64 3, .int .u64 txn, .int .i64 next, .slice a1 k1 kc1, .slice a2 k2 kc2, .slice a3 n3 k3, .slice a4 k4 kc4] := (HX7.out.far (by show w4.heap.size ≠ w.heap.size + 2; omega) _).far (by show w4.heap.size ≠ w.heap.size + 2; omega) _; generalize ((w7.setCell ⟨w.heap.size + 2, 0, none⟩ (.slice A6 (n1 + n3) c6)).setCell ⟨w.heap.size + 2, 1, none⟩ (.slice B7 (m1 + 1) d7)) = W9 at hv9 hx10 ⊢; have y2 : W9.cell? ⟨w4.heap.size, 2, none⟩ = some (.int .i64 next) := hx10.cell 2; (have hid : M ++ idsP (l1 ++ [x]) = M ++ idsP l1 ++ [x.1] := by rw [idsP_append, ← List.append_assoc]; rfl); (have hby : bytesP (l1 ++ [x]) = bytesP l1 ++ x.2 := by rw [bytesP_append]; simp [bytesP]); (have hid2 : idsP (l1 ++ [x]) = idsP l1 ++ [x.1] := by rw [idsP_append]; rfl); (have HE : Hid (RelV a w r t R p P S A n M l [.slice ka kn kc, .slice none 0 0, .int .i64 (sz : Int), .int .i64 more] next (l1 ++ [x]) rest false A4 c4 A6 (n1 + n3) c6 B7 (m1 + 1) d7 W9) := kept ⟨by rw [List.append_assoc]; exact HL.out.cat, HCH.out, HFI.out, by rw [hby, List.length_append, ← HL.out.en, HM.out.1], by rw [List.length_append, ← HL.out.em]; rfl, by rw [hid, hby, hid2]; exact hv9⟩); clear hv9 hx10 hx9 hid hby hid2; go_wp2; go_roundg rest.length; (case measure => (have := HGK.out; simp at this; omega)); (case rel => exact ⟨next, l1 ++ [x], rest, false, A4, c4, A6, n1 + n3, c6, B7, m1 + 1, d7, rfl, rfl, HE⟩))
      · (simp only [List.getElem?_toArray, List.getElem?_cons_succ, List.getElem?_cons_zero, Option.some.injEq] at ho)
        subst ho
        go_simp
        refine hK.out _ _ ?_ (fun hHeld => ?_)
        · (first | exact fun hE => absurd hE (by decide) | (intro _; (try dsimp only); (first | with_reducible exact HSd.out | with_reducible exact (HSa _).out | with_reducible exact HS7.out | with_reducible exact HS6.out | with_reducible exact (HS6a _).out)))
        clear hK K
        (try replace hHeld := hHeld (by decide))
        (try simp only [Act.put, List.setIfInBounds_toArray, List.set_cons_zero, List.set_cons_succ])
        refine ready_L 4 (fun o ho K hK => ?_)
        (simp only [List.getElem?_toArray, List.getElem?_cons_succ, List.getElem?_cons_zero, Option.some.injEq] at ho)
        subst ho
        ((first | refine wp_append_b (.tmp 58) (.tmp 60) rfl rfl rfl HVd.out.ob HDd.out hm4 ?_ | refine wp_append_b (.tmp 58) (.tmp 60) rfl rfl rfl (HVa _).out.ob (HDa _).out hm4 ?_); intro A6 c6 w6 h6 t6 g6; (have HV6 : Hid (ValS a w r t R p P S A A4 (n + m1 + 1) c4 (M ++ idsP l1 ++ [x.1]) A6 (n1 + n3) c6 (bytesP l1 ++ x.2) B1 m1 d1 (idsP l1) [.slice A1 n1 c1, .slice B1 m1 d1, .bool false] [.slice ka kn kc, .slice none 0 0, .int .i64 (sz : Int), .int .i64 more] w6) := kept (by first | exact HVd.out.appB H.out h6 t6 g6 | exact (HVa _).out.appB H.out h6 t6 g6)); (have HX6 : Hid (Blk w6 w4.heap.size 137 [.int .i64 3, .int .u64 txn, .int .i64 next, .slice a1 k1 kc1, .slice a2 k2 kc2, .slice a3 n3 k3, .slice a4 k4 kc4]) := kept (by first | exact t6.blk HXd.out (fun e => absurd ((HVd.out.ob.cl e).uniq HXd.out.cl) (by decide)) | exact t6.blk (HXa (.cells #[.int .i64 x.1] 3)).out (fun e => absurd (((HVa (.cells #[.int .i64 x.1] 3)).out.ob.cl e).uniq (HXa (.cells #[.int .i64 x.1] 3)).out.cl) (by decide)))); (try (have HI6 : Hid (RdI w6 (some ⟨W5.heap.size, 0, none⟩) 1 [x.1]) := kept (by exact ((RdI.oneI W5 x.1).below (Below.refl _ _).drew).turned t6 (fun g e e2 => by cases e; have h9 := (HVd.out.ob.cl e2).lt; simp at h9))));  (have HS6 := kept (show ((fun W' => W'.cell? ⟨w.heap.size + 2, 0, none⟩ = some (.slice A1 n1 c1) ∧ W'.cell? ⟨w.heap.size + 2, 1, none⟩ = some (.slice B1 m1 d1) ∧ W'.cell? ⟨w4.heap.size, 5, none⟩ = some (.slice a3 n3 k3))) w6 from ⟨HV6.out.box.cell 0, HV6.out.box.cell 1, HX6.out.cell 5⟩)); (have HS6a := fun o => kept (show ((fun W' => W'.cell? ⟨w.heap.size + 2, 0, none⟩ = some (.slice A1 n1 c1) ∧ W'.cell? ⟨w.heap.size + 2, 1, none⟩ = some (.slice B1 m1 d1) ∧ W'.cell? ⟨w4.heap.size, 5, none⟩ = some (.slice a3 n3 k3))) (w6.alloc o) from ⟨(HV6.out.box.alloc o).cell 0, (HV6.out.box.alloc o).cell 1, (HX6.out.alloc o).cell 5⟩)); clear h6 t6 g6)
        refine hK.out _ _ ?_ (fun hHeld => ?_)
        · (first | exact fun hE => absurd hE (by decide) | (intro _; (try dsimp only); (first | with_reducible exact HSd.out | with_reducible exact (HSa _).out | with_reducible exact HS7.out | with_reducible exact HS6.out | with_reducible exact (HS6a _).out)))
        clear hK K
        (try replace hHeld := hHeld (by decide))
        (try simp only [Act.put, List.setIfInBounds_toArray, List.set_cons_zero, List.set_cons_succ])
        refine take_P 10 (some 67) ?_ (by (intro o ho w; (simp only [List.getElem?_toArray, List.getElem?_cons_succ, List.getElem?_cons_zero, Option.some.injEq] at ho); subst ho; go_simp; (first | done | with_reducible rfl))) (by ((try simp only [Act.put, hA, h0, h1]); (first | done | rfl))) (by first | exact fun _ => by assumption | exact fun hE => absurd hE (by decide))
        (try simp only [Act.put, List.setIfInBounds_toArray, List.set_cons_zero, List.set_cons_succ])
        refine ready_L 9 (fun o ho K hK => ?_)
        (simp only [List.getElem?_toArray, List.getElem?_cons_succ, List.getElem?_cons_zero, Option.some.injEq] at ho)
        subst ho
        ((first | refine wp_append_i (.tmp 63) (.tmp 65) rfl rfl rfl HV6.out.oi HI6.out hm9 ?_ | refine wp_append_i (.tmp 63) (.tmp 65) rfl rfl rfl (HV6.out.on ((Below.refl _ w6).alloc (Nat.le_refl _) _)).oi (RdI.oneI w6 x.1) hm9 ?_); intro B7 d7 w7 h7 t7 g7; (have HV7 : Hid (ValS a w r t R p P S A A4 (n + m1 + 1) c4 (M ++ idsP l1 ++ [x.1]) A6 (n1 + n3) c6 (bytesP l1 ++ x.2) B7 (m1 + 1) d7 (idsP l1 ++ [x.1]) [.slice A1 n1 c1, .slice B1 m1 d1, .bool false] [.slice ka kn kc, .slice none 0 0, .int .i64 (sz : Int), .int .i64 more] w7) := kept (by first | exact HV6.out.appI H.out h7 t7 g7 | exact (HV6.out.on ((Below.refl _ w6).alloc (Nat.le_refl _) _)).appI H.out h7 t7 g7)); (have HX7 : Hid (Blk w7 w4.heap.size 137 [.int .i64 3, .int .u64 txn, .int .i64 next, .slice a1 k1 kc1, .slice a2 k2 kc2, .slice a3 n3 k3, .slice a4 k4 kc4]) := kept (by first | exact t7.blk HX6.out (fun e => absurd ((HV6.out.oi.cl e).uniq HX6.out.cl) (by decide)) | exact t7.blk (HX6.out.alloc (.cells #[.int .i64 x.1] 3)) (fun e => absurd (((HV6.out.on ((Below.refl _ w6).alloc (Nat.le_refl _) (.cells #[.int .i64 x.1] 3))).oi.cl e).uniq (HX6.out.alloc (.cells #[.int .i64 x.1] 3)).cl) (by decide)))); (have HS7 := kept (show ((fun W' => W'.cell? ⟨w.heap.size + 2, 0, none⟩ = some (.slice A1 n1 c1) ∧ W'.cell? ⟨w.heap.size + 2, 1, none⟩ = some (.slice B1 m1 d1) ∧ W'.cell? ⟨w4.heap.size, 5, none⟩ = some (.slice a3 n3 k3))) w7 from ⟨HV7.out.box.cell 0, HV7.out.box.cell 1, HX7.out.cell 5⟩)); have z0 : w7.cell? ⟨w.heap.size + 2, 0, none⟩ = some (.slice A1 n1 c1) := HV7.out.box.cell 0; have z1 : w7.cell? ⟨w.heap.size + 2, 1, none⟩ = some (.slice B1 m1 d1) := HV7.out.box.cell 1; have v0 := HV7.out.box.frozen 0; have v1 := HV7.out.box.frozen 1; clear h7 t7 g7)
        refine hK.out _ _ ?_ (fun hHeld => ?_)
        · (first | exact fun hE => absurd hE (by decide) | (intro _; (try dsimp only); (first | with_reducible exact HSd.out | with_reducible exact (HSa _).out | with_reducible exact HS7.out | with_reducible exact HS6.out | with_reducible exact (HS6a _).out)))
        clear hK K
        (try replace hHeld := hHeld (by decide))
        (try simp only [Act.put, List.setIfInBounds_toArray, List.set_cons_zero, List.set_cons_succ])
        refine ready_L 11 (fun o ho K hK => ?_)
        (simp only [List.getElem?_toArray, List.getElem?_cons_succ, List.getElem?_cons_zero, Option.some.injEq] at ho)
        subst ho
        go_simp
        refine hK.out _ _ ?_ (fun hHeld => ?_)
        · (first | exact fun hE => absurd hE (by decide) | (intro _; (try dsimp only); (first | with_reducible exact HSd.out | with_reducible exact (HSa _).out | with_reducible exact HS7.out | with_reducible exact HS6.out | with_reducible exact (HS6a _).out)))
        clear hK K
        (try replace hHeld := hHeld (by decide))
        (try simp only [Act.put, List.setIfInBounds_toArray, List.set_cons_zero, List.set_cons_succ])
        refine take_P 12 (some 68) ?_ (by (intro o ho w; (simp only [List.getElem?_toArray, List.getElem?_cons_succ, List.getElem?_cons_zero, Option.some.injEq] at ho); subst ho; go_simp; (first | done | with_reducible rfl))) (by ((try simp only [Act.put, hA, h0, h1]); (first | done | rfl))) (by first | exact fun _ => by assumption | exact fun hE => absurd hE (by decide))
        (try simp only [Act.put, List.setIfInBounds_toArray, List.set_cons_zero, List.set_cons_succ])
        refine ready_L 13 (fun o ho K hK => ?_)
        (simp only [List.getElem?_toArray, List.getElem?_cons_succ, List.getElem?_cons_zero, Option.some.injEq] at ho)
        subst ho
        go_simp
        refine hK.out _ _ ?_ (fun hHeld => ?_)
        · (first | exact fun hE => absurd hE (by decide) | (intro _; (try dsimp only); (first | with_reducible exact HSd.out | with_reducible exact (HSa _).out | with_reducible exact HS7.out | with_reducible exact HS6.out | with_reducible exact (HS6a _).out)))
        clear hK K
        (try replace hHeld := hHeld (by decide))
        (try simp only [Act.put, List.setIfInBounds_toArray, List.set_cons_zero, List.set_cons_succ])
        refine done_L (by kernel_rfl) ?_ _
        (have hx9 := HX7.out; have hv9 := ((HV7.out.put H.out 0 (.slice A6 (n1 + n3) c6)).put H.out 1 (.slice B7 (m1 + 1) d7)); simp only [List.set_cons_zero, List.set_cons_succ] at hv9; have hx10 : Blk ((w7.setCell ⟨w.heap.size + 2, 0, none⟩ (.slice A6 (n1 + n3) c6)).setCell ⟨w.heap.size + 2, 1, none⟩ (.slice B7 (m1 + 1) d7)) w4.heap.size 137 [.int .i64 3, .int .u64 txn, .int .i64 next, .slice a1 k1 kc1, .slice a2 k2 kc2, .slice a3 n3 k3, .slice a4 k4 kc4] := (HX7.out.far (by show w4.heap.size ≠ w.heap.size + 2; omega) _).far (by show w4.heap.size ≠ w.heap.size + 2; omega) _; generalize ((w7.setCell ⟨w.heap.size + 2, 0, none⟩ (.slice A6 (n1 + n3) c6)).setCell ⟨w.heap.size + 2, 1, none⟩ (.slice B7 (m1 + 1) d7)) = W9 at hv9 hx10 ⊢; have y2 : W9.cell? ⟨w4.heap.size, 2, none⟩ = some (.int .i64 next) := hx10.cell 2; (have hid : M ++ idsP (l1 ++ [x]) = M ++ idsP l1 ++ [x.1] := by rw [idsP_append, ← List.append_assoc]; rfl); (have hby : bytesP (l1 ++ [x]) = bytesP l1 ++ x.2 := by rw [bytesP_append]; simp [bytesP]); (have hid2 : idsP (l1 ++ [x]) = idsP l1 ++ [x.1] := by rw [idsP_append]; rfl); (have HE : Hid (RelV a w r t R p P S A n M l [.slice ka kn kc, .slice none 0 0, .int .i64 (sz : Int), .int .i64 more] next (l1 ++ [x]) rest false A4 c4 A6 (n1 + n3) c6 B7 (m1 + 1) d7 W9) := kept ⟨by rw [List.append_assoc]; exact HL.out.cat, HCH.out, HFI.out, by rw [hby, List.length_append, ← HL.out.en, HM.out.1], by rw [List.length_append, ← HL.out.em]; rfl, by rw [hid, hby, hid2]; exact hv9⟩); clear hv9 hx10 hx9 hid hby hid2; go_wp2; go_roundg rest.length; (case measure => (have := HGK.out; simp at this; omega)); (case rel => exact ⟨next, l1 ++ [x], rest, false, A4, c4, A6, n1 + n3, c6, B7, m1 + 1, d7, rfl, rfl, HE⟩))
end Go.Proofs.YtblbhhijddcbeaaGreatDoor
end
