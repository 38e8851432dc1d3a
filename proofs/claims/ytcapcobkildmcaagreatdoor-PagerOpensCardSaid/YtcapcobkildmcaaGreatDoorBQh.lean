/- Qh Qi Qj Qk Qs Qm Qn Qo Qp Qt -/
import Derived.Test.YtcapcobkildmcaaGreatDoorBQg
import Derived.Test.YtcapcobkildmcaaGreatDoorBQf
import Derived.Test.YtcapcobkildmcaaGreatDoorBQd
import Derived.Test.YtcapcobkildmcaaGreatDoorBFm
import Derived.BigQuiet
import Derived.Test.YtcapcobkildmcaaGreatDoorBRp
import Derived.Test.YtcapcobkildmcaaGreatDoorBQb
import Derived.Test.YtcapcobkildmcaaGreatDoorBMf
import Derived.Test.YtcapcobkildmcaaGreatDoorBHnd
section
namespace Go.Proofs.YtcapcobkildmcaaGreatDoor
open Go.ChangeShapes Go.WideShapes Go.ChangeAt Go.RowKit
set_option linter.unusedVariables false
set_option linter.unusedSimpArgs false
set_option maxRecDepth 100000
set_option maxHeartbeats 16000000
structure PSt where
 M : Mt
 chain : List Int
 root : Int
 L : FSt
 add : Adds
structure Pgl where
 r : Nat
 d : Dk
 Ac : Option Addr
 cc : Nat
 f : Fl
 m : Nat
 V : Int → Option Value
def Pgl.own (p : Pgl) (j : Nat) : Prop := j = p.r ∨ blkOf p.Ac = some j ∨ p.f.own j ∨ j = p.m
def Pgl.all (p : Pgl) (j : Nat) : Prop := p.own j ∨ p.d.own j
structure PSt.ok (P : PSt) (z : Nat) : Prop where
 lz : P.L.z = (z : Int)
 mz : P.M.size = (z : Int)
 tx : P.M.txn < 18446744073709551616
 cn : P.chain.Nodup
 cb : ∀ x ∈ P.chain, 2 ≤ x ∧ x < (z : Int)
 cs : ∀ x ∈ P.chain, x ∉ P.L.S ∧ x ∉ P.L.H
 sh : ∀ x ∈ P.L.S, x ∉ P.L.H
 ab : ∀ x bs, P.add x = some bs → 2 ≤ x ∧ x < (z : Int) ∧ x ∉ P.chain ∧ x ∉ P.L.S ∧ x ∉ P.L.H ∧ bs.length = 256
abbrev pgCells (p : Pgl) (P : PSt) : List Value := [.pointer (some ⟨p.d.r, 0, none⟩), .int .u64 (P.M.txn : Int), .int .i64 P.M.root, .int .i64 P.M.spare, .int .i64 P.M.size, .slice p.Ac P.chain.length p.cc, .bool false, .int .i64 P.root, .pointer (some ⟨p.f.r, 0, none⟩), .map (some p.m)]
structure Pgr (w : World) (p : Pgl) (P : PSt) (S : St) : Prop where
 ok : P.ok S.pages.length
 blk : Blk w p.r 111 (pgCells p P)
 dsk : Dsk w p.d S
 chn : OwI w p.Ac P.chain.length p.cc P.chain
 lst : Lst w p.f P.L
 adm : AdM w p.m p.V P.add
 cf : ∀ g, blkOf p.Ac = some g → ¬ p.f.own g
 md : p.m ≠ p.d.m
def PLeft (w w' : World) (p : Pgl) (P : PSt) (S : St) : Prop := ∃ p' : Pgl, p'.r = p.r ∧ p'.d = p.d ∧ Pgr w' p' P S ∧ Turned w w' p.all ∧ ∀ j, p'.own j → p.own j ∨ w.heap.size ≤ j
theorem OwI.cl {w : World} {A : Option Addr} {n c : Nat} {Z : List Int} (h : OwI w A n c Z) {g : Nat} (hg : blkOf A = some g) : Cl w g 3 := by
 rcases h.form with ⟨rfl, _⟩ | ⟨g', cur, rfl, hh, _⟩
 · cases hg
 · cases hg; exact ⟨_, _, hh⟩
theorem Lst.own_cl {w : World} {f : Fl} {s : FSt} (h : Lst w f s) {j : Nat} (hj : f.own j) : Cl w j 225 ∨ Cl w j 3 := by
 rcases hj with rfl | hj | hj
 · exact .inl h.2.1.cl
 · exact .inr (h.2.2.1.cl hj)
 · exact .inr (h.2.2.2.1.cl hj)
theorem Mv.not_cl {w : World} {m k : Nat} {f : Int → Option Value} (h : Mv w m k f) {t : TypeId} (hc : Cl w m t) : False := by
 obtain ⟨es, cl, h⟩ := h.kind; obtain ⟨cs, q, hc⟩ := hc; rw [h] at hc; cases hc
section
variable {w w' : World} {p : Pgl} {P : PSt} {S : St}
theorem Pgr.not_own (h : Pgr w p P S) {b : Nat} {t : TypeId} (hb : Cl w b t) (h1 : t ≠ 111) (h2 : t ≠ 3) (h3 : t ≠ 225) : ¬ p.own b := by
 rintro (rfl | hj | hj | rfl)
 · exact h1 (hb.uniq h.blk.cl)
 · exact h2 (hb.uniq (h.chn.cl hj))
 · rcases h.lst.own_cl hj with hc | hc
   · exact h3 (hb.uniq hc)
   · exact h2 (hb.uniq hc)
 · exact h.adm.1.not_cl hb
theorem Pgr.not_all (h : Pgr w p P S) {b : Nat} {t : TypeId} (hb : Cl w b t) (h1 : t ≠ 111) (h2 : t ≠ 3) (h3 : t ≠ 225) (h4 : t ≠ 136) (h5 : t ≠ 138) : ¬ p.all b := by
 rintro (hj | hj)
 · exact h.not_own hb h1 h2 h3 hj
 · exact h.dsk.own_cl hb h4 h5 hj
theorem Pgr.d_own (h : Pgr w p P S) {j : Nat} (hj : p.d.own j) : ¬ p.own j := by
 rintro (rfl | hk | hk | rfl)
 · exact h.dsk.own_cl h.blk.cl (by decide) (by decide) hj
 · exact h.dsk.own_cl (h.chn.cl hk) (by decide) (by decide) hj
 · rcases h.lst.own_cl hk with hc | hc <;> exact h.dsk.own_cl hc (by decide) (by decide) hj
 · rcases hj with e | e | e
   · exact h.adm.1.not_cl (e ▸ h.dsk.2.1.cl)
   · obtain ⟨cur, hg, _⟩ := h.dsk.2.2.1; exact h.adm.1.not_cl (e ▸ (⟨_, _, hg⟩ : Cl w p.d.g _))
   · exact h.md e
theorem Pgr.f_r (h : Pgr w p P S) : ¬ p.f.own p.r := fun hj => by
 rcases h.lst.own_cl hj with hc | hc
 · exact absurd (hc.uniq h.blk.cl) (by decide)
 · exact absurd (hc.uniq h.blk.cl) (by decide)
theorem Pgr.f_m (h : Pgr w p P S) : ¬ p.f.own p.m := fun hj => by
 rcases h.lst.own_cl hj with hc | hc <;> exact h.adm.1.not_cl hc
theorem Pgr.same (h : Pgr w p P S) {T : Nat → Prop} (t : Turned w w' T) (hn : ∀ j, p.all j → ¬ T j) (hu : ∀ b, Cl w b 5 → ¬ T b) : Pgr w' p P S where
 ok := h.ok
 blk := (t.block _ h.blk.lt (hn _ (.inl (.inl rfl)))).trans h.blk
 dsk := h.dsk.turned t fun i hi => hn i (.inr hi)
 chn := h.chn.turned t fun g hg => hn g (.inl (.inr (.inl hg)))
 lst := h.lst.turned t fun g hg => hn g (.inl (.inr (.inr (.inl hg))))
 adm := ⟨h.adm.1.keep (t.block _ h.adm.1.lt (hn _ (.inl (.inr (.inr (.inr rfl)))))), h.adm.2.turned t hu⟩
 cf := h.cf
 md := h.md
theorem Pgr.below (h : Pgr w p P S) (hb : Below w.heap.size w w') : Pgr w' p P S := h.same (Turned.of_below hb (fun _ => False)) (fun _ _ h => h) (fun _ _ h => h)
theorem Pgr.drewN (h : Pgr w p P S) (q : Nat) : Pgr (w.drewN q) p P S := ⟨h.ok, h.blk, h.dsk, h.chn, h.lst, h.adm, h.cf, h.md⟩
theorem Pgr.c (h : Pgr w p P S) (i : Nat) : w.cell? ⟨p.r, i, none⟩ = (pgCells p P)[i]? := h.blk.cell i
end
section
variable {w : World} {p : Pgl} {P : PSt} {S : St}
theorem palive_any (h : Pgr w p P S) : Calls Tryz.prog 49 #[.pointer (some ⟨p.r, 0, none⟩)] w fun e w' => e = .returned (.int .i64 0) ∧ w = w' := by
 have c6 : w.cell? ⟨p.r, 6, none⟩ = some (.bool false) := h.c 6; clear h; go_enter Tryz.func49, Tryz.ntmps49; go_wp2; go_ret; exact ⟨rfl, rfl⟩
theorem palive_nil (w : World) : Calls Tryz.prog 49 #[.pointer none] w fun e w' => e = .returned (.int .i64 1) ∧ w = w' := by
 go_enter Tryz.func49, Tryz.ntmps49; go_wp2; go_ret; exact ⟨rfl, rfl⟩
theorem reaches_nil (id : Int) (w : World) : Calls Tryz.prog 96 #[.pointer none, .int .i64 id] w fun e w' => e = .returned (.int .i64 1) ∧ w = w' := by
 go_enter Tryz.func96, Tryz.ntmps96; go_wp2_with (first | (go_at_call 49; (with_reducible refine (palive_nil _).mono ?_); rintro e w1 ⟨rfl, rfl⟩))
 go_ret; exact ⟨rfl, rfl⟩
theorem reaches_any (h : Pgr w p P S) (id er : Int) (he : (if finB P.M.size id then 0 else 2) = er) : Calls Tryz.prog 96 #[.pointer (some ⟨p.r, 0, none⟩), .int .i64 id] w fun e w' => e = .returned (.int .i64 er) ∧ w = w' := by
 have HA := kept (palive_any h); have c4 : w.cell? ⟨p.r, 4, none⟩ = some (.int .i64 P.M.size) := h.c 4; have HB := kept (pInBounds_any id P.M.size w); clear h; cases hb : finB P.M.size id with
 | true =>
   rw [hb] at he HB; simp only [if_true] at he; subst he; go_enter Tryz.func96, Tryz.ntmps96; go_wp2_with (first | (go_at_call 49; (with_reducible refine (HA.out).mono ?_); rintro e w1 ⟨rfl, rfl⟩) | (go_at_call 112; (with_reducible refine (HB.out).mono ?_); rintro e w1 ⟨rfl, rfl⟩))
   go_ret; exact ⟨rfl, rfl⟩
 | false =>
   rw [hb] at he HB; simp only [Bool.false_eq_true, if_false] at he; subst he; go_enter Tryz.func96, Tryz.ntmps96; go_wp2_with (first | (go_at_call 49; (with_reducible refine (HA.out).mono ?_); rintro e w1 ⟨rfl, rfl⟩) | (go_at_call 112; (with_reducible refine (HB.out).mono ?_); rintro e w1 ⟨rfl, rfl⟩))
   go_ret; exact ⟨rfl, rfl⟩
theorem txn_any (h : Pgr w p P S) : Calls Tryz.prog 43 #[.pointer (some ⟨p.r, 0, none⟩)] w fun e w' => e = .returned (.int .u64 (P.M.txn : Int)) ∧ w = w' := by
 have c1 : w.cell? ⟨p.r, 1, none⟩ = some (.int .u64 (P.M.txn : Int)) := h.c 1; clear h; go_enter Tryz.func43, Tryz.ntmps43; go_wp2; go_ret; exact ⟨rfl, rfl⟩
theorem pspare_any (h : Pgr w p P S) : Calls Tryz.prog 28 #[.pointer (some ⟨p.r, 0, none⟩)] w fun e w' => ∃ A c, e = .returned (.slice A P.L.S.length c) ∧ Hid (Says w w' P.L.S A c) := by
 have HS := kept (spare_any p.f P.L w h.lst); have c8 : w.cell? ⟨p.r, 8, none⟩ = some (.pointer (some ⟨p.f.r, 0, none⟩)) := h.c 8; clear h; go_enter Tryz.func28, Tryz.ntmps28; go_wp2_with (first | (go_at_call 56; (with_reducible refine (HS.out).mono ?_); rintro e w1 ⟨A1, c1, rfl, h1⟩))
 go_ret; exact ⟨A1, c1, rfl, h1⟩
end
theorem below_from_drew {w w' : World} (h : Below w.drew.heap.size w.drew w') : Below w.heap.size w w' := ⟨h.os, h.tape, h.output, h.size, h.block⟩
theorem below_dn {B : Nat} {a w : World} (h : Below B a w) (q : Nat) : Below B a (w.drewN q) := ⟨h.os, h.tape, h.output, h.size, h.block⟩
section
variable {w w' : World} {p : Pgl} {P : PSt} {S : St}
theorem Pgr.list_step (h : Pgr w p P S) {L' : FSt} (k : LLeft w w' p.f L') (hok : PSt.ok { P with L := L' } S.pages.length) : PLeft w w' p { P with L := L' } S := by
 obtain ⟨f', e, hl, t, ho⟩ := k; refine ⟨{ p with f := f' }, rfl, rfl, ⟨hok, ?_, h.dsk.turned t fun i hi hf => h.d_own hi (.inr (.inr (.inl hf))), h.chn.turned t h.cf, hl, ⟨h.adm.1.keep (t.block _ h.adm.1.lt h.f_m), h.adm.2.turned t fun g hg hf => ?_⟩, fun g hg hf => ?_, h.md⟩, t.mono fun j _ hj => .inl (.inr (.inr (.inl hj))), fun j hj => ?_⟩
 · have hb := (t.block _ h.blk.lt h.f_r).trans h.blk; show Blk w' p.r _ [.pointer (some ⟨p.d.r, 0, none⟩), .int .u64 (P.M.txn : Int), .int .i64 P.M.root, .int .i64 P.M.spare, .int .i64 P.M.size, .slice p.Ac P.chain.length p.cc, .bool false, .int .i64 P.root, .pointer (some ⟨f'.r, 0, none⟩), .map (some p.m)]; rw [e]; exact hb
 · rcases h.lst.own_cl hf with hc | hc <;> exact absurd (hg.uniq hc) (by decide)
 · rcases ho g hf with h5 | h5
   · exact h.cf g hg h5
   · have := h.chn.lt hg; omega
 · rcases hj with hj | hj | hj | hj
   · exact .inl (.inl hj)
   · exact .inl (.inr (.inl hj))
   · rcases ho j hj with h5 | h5
     · exact .inl (.inr (.inr (.inl h5)))
     · exact .inr h5
   · exact .inl (.inr (.inr (.inr hj)))
theorem Pgr.map_step (h : Pgr w p P S) {V' : Int → Option Value} {add' : Adds} (hm : Mv w' p.m 1022 V') (hg : w.grownBy w' (some p.m)) (hv : AdV w V' add') (hok : PSt.ok { P with add := add' } S.pages.length) : PLeft w w' p { P with add := add' } S := by
 have t : Turned w w' (fun j => j = p.m) := Turned.of_grown hg (fun j e => (Option.some.inj e).symm); have nm : ∀ {b : Nat} {ty : TypeId}, Cl w b ty → b ≠ p.m := fun hc e => h.adm.1.not_cl (e ▸ hc)
 refine ⟨{ p with V := V' }, rfl, rfl, ⟨hok, (t.block _ h.blk.lt (nm h.blk.cl)).trans h.blk, h.dsk.turned t fun i hi e => h.d_own hi (.inr (.inr (.inr e))), h.chn.turned t fun g hg => nm (h.chn.cl hg), h.lst.turned t fun j hj => ?_, ⟨hm, hv.turned t fun g hg => nm hg⟩, h.cf, h.md⟩, t.mono fun j _ hj => .inl (.inr (.inr (.inr hj))), fun j hj => .inl hj⟩; rcases h.lst.own_cl hj with hc | hc <;> exact nm hc
theorem ok_take (h : PSt.ok P S.pages.length) (hl : P.L.ok) : PSt.ok { P with L := P.L.take } S.pages.length := by
 have hs : ∀ x, x ∈ P.L.S.tail → x ∈ P.L.S := fun x hx => List.mem_of_mem_tail hx
 exact ⟨h.lz, h.mz, h.tx, h.cn, h.cb, fun x hx => ⟨fun hm => (h.cs x hx).1 (hs x hm), (h.cs x hx).2⟩, fun x hx => h.sh x (hs x hx), fun x bs e => by
  obtain ⟨a, b, c, d, f, g⟩ := h.ab x bs e; exact ⟨a, b, c, fun hm => d (hs x hm), f, g⟩⟩
def txnP (X : Pg) (t : Nat) : Pg := { X with txn := (t : Int) }
theorem rd_txn {l : Lay} {X : Pg} (h : RdPg w l X) (t : Nat) (ht : t < 18446744073709551616) : RdPg w { l with txn := (t : Int) } (txnP X t) :=
 ⟨h.kind, rfl, h.next, h.items, h.kids, h.data, h.ids, by show (0 : Int) ≤ (t : Int); omega, by show (t : Int) < _; omega, h.b1, h.b2, h.b3, h.b4⟩
theorem right_used {X : Pg} (h : rightB X = true) : usedN X ≤ 237 := (right_parts h).2.2.2
def addP (P : PSt) (x : Int) (bs : List UInt8) : PSt := { P with L := P.L.take, add := fun y => if y = x then some bs else P.add y }
theorem add_ok (h : Pgr w p P S) (l : Lay) (X : Pg) (hr : RdPg w l X) (hF : Fours w) (ht : P.M.txn + 1 < 18446744073709551616) (hR : rightB (txnP X (P.M.txn + 1)) = true) (hs : S.pages.length / 60 + 2 ≤ P.L.S.length) (x : Int) (r : List Int) (hx : P.L.S = x :: r) :
 Calls Tryz.prog 79 #[.pointer (some ⟨p.r, 0, none⟩), l.val] w fun e w' => e = .returned (.tuple #[.int .i64 x, .int .i64 0]) ∧ Hid (PLeft w w' p (addP P x (sealed (bodyOf (txnP X (P.M.txn + 1))))) S) := by
 obtain ⟨q, hq⟩ : ∃ q : Nat, P.M.txn + 1 = q := ⟨_, rfl⟩
 have hwq : IntKind.u64.wrap ((P.M.txn : Int) + 1) = (q : Int) := by rw [IntKind.wrap_u64]; omega
 rw [hq] at hR ht ⊢; have c1 := fun o => ((h.below ((Below.refl _ w).alloc (Nat.le_refl _) o)).c 1 : (w.alloc o).cell? ⟨p.r, 1, none⟩ = some (.int .u64 (P.M.txn : Int)))
 have HA := fun o => kept (palive_any (h.below ((Below.refl _ w).alloc (Nat.le_refl _) o)))
 have HE := kept (fun W (hb : Below w.heap.size w W) => encode_right { l with txn := (q : Int) } _ W ((rd_txn hr q ht).below hb) hR (hF.below hb)); have HP := kept (fun W (hb : Below w.heap.size w W) => h.below hb); have HQ := kept hq; have HSN := kept hs; have hlt := h.blk.lt; have hne : p.r ≠ w.heap.size := by omega
 have HX := kept hx; have HRT := kept hR; clear h hr hF hq hR hs hx; obtain ⟨kind, txn, next, a1, n1, c1', a2, n2, c2, a3, n3, c3, a4, n4, c4⟩ := l; simp only at HE; go_enter Tryz.func79, Tryz.ntmps79; go_wp2_with (first | (go_at_call 49; (with_reducible refine (HA _).out.mono ?_); rintro e w1 ⟨rfl, rfl⟩))
 with_reducible refine (HE.out _ ((Below.refl _ w).alloc (Nat.le_refl _) _)).mono ?_
 rintro e w2 ⟨A2, cc2, rfl, ho2, hb2⟩; have hB2 : Below w.heap.size w w2 := bel_to hb2 ((Below.refl _ w).alloc (Nat.le_refl _) _); have h2 := HP.out w2 hB2; have HB2 := kept hB2; have H2 := kept h2; have HO2 := kept (OwB.of_row ho2); have d8 : w2.cell? ⟨p.r, 8, none⟩ = some (.pointer (some ⟨p.f.r, 0, none⟩)) := h2.c 8; have d4 : w2.cell? ⟨p.r, 4, none⟩ = some (.int .i64 (S.pages.length : Int)) := by rw [← h2.ok.mz]; exact h2.c 4
 have HRM := fun q => kept (froom_any p.f P.L (w2.drewN q) (h2.drewN q).lst)
 have hz1024 : S.pages.length ≤ 1000000 := by have := h2.dsk.1.2.1; omega
 have HLR := fun q => kept (leastRoom_any S.pages.length (w2.drewN q) hz1024)
 generalize hnS : P.L.S.length = nS at HRM HSN; generalize hnZ : S.pages.length / 60 + 2 = nZ at HLR HSN; have HNS := kept hnS; clear ho2 hb2 hB2 h2 c1 HA HE HP hnS hnZ hz1024; have hbb : decide ((nS : Int) < (nZ : Int)) = false := by have := HSN.out; simp; omega
 have hbn : decide (nS < nZ) = false := by have := HSN.out; simp; omega
 have hbz : ¬ nS < nZ := by have := HSN.out; omega
 have HTK := fun q => kept (ftake_any p.f P.L (w2.drewN q) (H2.out.drewN q).lst)
 have hxe : P.L.taken = (x, 0) := by unfold FSt.taken; rw [HX.out]
 rw [hxe] at HTK; clear hxe; go_wp2
 go_quiet (first | (go_at_call 100; exact Calls.quiet_of_same (turn (HRM _).out)) | (go_at_call 142; exact Calls.quiet_of_same (turn (HLR _).out)))
 have d8' : ∀ q, (w2.drewN q).cell? ⟨p.r, 8, none⟩ = some (.pointer (some ⟨p.f.r, 0, none⟩)) := fun q => (H2.out.drewN q).c 8
 have hwx : Wf x ∧ 2 ≤ x ∧ x < 1024 := by
  have h1 := H2.out.lst.1.2.2.2.2.1 x (by rw [HX.out]; exact List.mem_cons_self ..); have h2 := H2.out.lst.1.2.1; exact ⟨⟨by omega, by omega⟩, by omega, by omega⟩
 have HWX := kept hwx; have HST : Hid (∀ W W', Pgr W p P S → LLeft W W' p.f P.L.take → PLeft W W' p { P with L := P.L.take } S) := kept (fun W W' hp hl => hp.list_step hl (ok_take hp.ok hp.lst.1)); clear hwx; go_wp2_with fail
 with_reducible refine (HTK _).out.mono ?_
 rintro e w3 ⟨rfl, h3⟩; obtain ⟨p3, e1, e2, hp3, t3, o3⟩ := HST.out _ _ (H2.out.drewN _) h3.out; have HP3 := kept hp3; have HT3 := kept t3; have HO3 := kept o3; have HE1 := kept e1; have HE2 := kept e2; have d9 : w3.cell? ⟨p.r, 9, none⟩ = some (.map (some p3.m)) := by rw [← e1]; exact hp3.c 9
 have HAB : Hid (OwB w3 A2 256 cc2 (sealed (bodyOf (txnP X q)))) := kept ((HO2.out.below (below_dn (Below.refl _ _) nq)).turned t3 (fun g hg => H2.out.not_all (HO2.out.cl hg) (by decide) (by decide) (by decide) (by decide) (by decide))); clear hp3 t3 o3 e1 e2 h3; go_wp2_with (first | (at_mapUpdate; go_loud (refine wpList_put_mv rfl 74 46 _ _ _ rfl addU HP3.out.adm.1 (by unfold maxLen; omega) rfl x rfl HWX.out.1 (.slice A2 256 cc2) rfl ?_; intro w4 hm4 hg4; have HM4 := kept hm4; have HG4 := kept hg4; clear hm4 hg4)))
 go_ret2; refine ⟨rfl, kept ?_⟩; have hv := HP3.out.adm.2.put HAB.out HWX.out.2; have hml : p3.m < w3.heap.size := HP3.out.adm.1.lt; have hm := HM4.out.tight (fun y hy => by
  by_cases e : y = x
  · subst e; exact HWX.out.2
  · rw [if_neg e] at hy; exact HP3.out.adm.2.range (by rw [← HP3.out.adm.2.some_]; exact hy))
 have hok : PSt.ok (addP P x (sealed (bodyOf (txnP X q)))) S.pages.length := by
  have h1 := ok_take H2.out.ok H2.out.lst.1; have hxS : x ∈ P.L.S := by rw [HX.out]; exact List.mem_cons_self ..
  have hb := H2.out.lst.1.2.2.2.2.1 x hxS; refine ⟨h1.lz, h1.mz, h1.tx, h1.cn, h1.cb, h1.cs, h1.sh, fun y bs e => ?_⟩; by_cases ey : y = x
  · subst ey; have e : some (sealed (bodyOf (txnP X q))) = some bs := by have := e; simp only [addP, if_true] at this; exact this
    cases e; have h9 : P.L.z = (S.pages.length : Int) := h1.lz; have hri : Rising (y :: r) := by rw [← HX.out]; exact H2.out.lst.1.2.2.1
    have hnr : y ∉ P.L.S.tail := by rw [HX.out]; exact fun hm => by have := (Rising.cons.1 hri).1 y hm; omega
    exact ⟨hb.1, by rw [← h9]; exact hb.2, fun hm => (H2.out.ok.cs y hm).1 hxS, hnr, H2.out.ok.sh y hxS, by rw [sealed_length, bodyOf_length (right_used HRT.out)]⟩
  · exact h1.ab y bs (by have := e; simp only [addP, if_neg ey] at this; exact this)
 have k4 := HP3.out.map_step (V' := fun y => if y = x then some (.slice A2 256 cc2) else p3.V y) (add' := fun y => if y = x then some (sealed (bodyOf (txnP X q))) else P.add y) hm HG4.out hv hok; obtain ⟨p4, g1, g2, g3, g4, g5⟩ := k4; refine ⟨p4, g1.trans HE1.out, g2.trans HE2.out, g3, ?_, fun j hj => ?_⟩
 · have t23 : Turned w w3 p.all := (Turned.of_below (below_dn HB2.out nq) p.all).trans HT3.out; refine ⟨g4.os.trans t23.os, g4.tape.trans t23.tape, g4.output.trans t23.output, Nat.le_trans t23.size g4.size, fun j hj hn => ?_⟩; refine (g4.block j (Nat.lt_of_lt_of_le hj t23.size) fun hk => ?_).trans (t23.block j hj hn); rcases hk with hk | hk
   · rcases HO3.out j hk with h5 | h5
     · exact hn (.inl h5)
     · have h6 : w2.heap.size ≤ j := h5; have := HB2.out.size; omega
   · exact hn (.inr (HE2.out ▸ hk))
 · rcases g5 j hj with h5 | h5
   · rcases HO3.out j h5 with h6 | h6
     · exact .inl h6
     · exact .inr (Nat.le_trans HB2.out.size h6)
   · exact .inr (Nat.le_trans HB2.out.size (Nat.le_trans HT3.out.size h5))
end
section
variable {w w' : World} {p : Pgl} {P : PSt} {S : St}
end
theorem readPage_any (d : Dk) (S : St) (id : Int) (w : World) (h : Dsk w d S) (hf : S.fuse ≠ 0) (h0 : 0 ≤ id) (h1 : id < (S.pages.length : Int)) (hF : Fours w) :
 Calls Tryz.prog 98 #[.pointer (some ⟨d.r, 0, none⟩), .int .i64 id] w (DecA w (decPg (S.page id)).1 (decPg (S.page id)).2) := by
 obtain ⟨k, rfl⟩ := Int.eq_ofNat_of_zero_le h0; have HLN := kept (h.page_len (p := k) (by omega)); have HR := fun o => kept (read_ok d S (k : Int) _ (h.below ((Below.refl _ w).alloc (Nat.le_refl _) o)) hf h0 h1)
 have HD := kept (fun W A (hb : Below w.heap.size w W) (hr : Rd W A 256 (S.page (k : Int))) => decode_any A 256 256 (S.page (k : Int)) W hr (Nat.le_refl _) (hF.below hb)); clear h hf h0 h1 hF; generalize S.page (k : Int) = xs at HLN HR HD; generalize (decPg xs).2 = er at HD; generalize (decPg xs).1 = Q at HD; go_enter Tryz.func98, Tryz.ntmps98; go_wp2_with fail
 with_reducible refine (HR _).out.mono ?_
 rintro e w1 ⟨b, rfl, hk1, hn1, hb1⟩; have HQ1 := kept ((Blk.new w 93 #[.int .i64 0, .int .u64 0, .int .i64 0, .slice none 0 0, .slice none 0 0, .slice none 0 0, .slice none 0 0]).below hb1 (by simp)); have HB1 := kept (bel_to hb1 ((Below.refl _ w).alloc (Nat.le_refl _) _)); have HDD := kept (HD.out w1 (some ⟨b, 0, none⟩) HB1.out (hk1.rd HLN.out)); clear hk1 hn1 hb1 HD HR; go_wp2_with fail
 with_reducible refine HDD.out.mono ?_
 rintro e w2 ⟨l, rfl, hs, hb2⟩; have hq2 := HQ1.out.below hb2 HQ1.out.lt; have p0 : w2.cell? ⟨w.heap.size, 0, none⟩ = some (.int .i64 0) := hq2.cell 0; have t0 := hq2.frozen 0; have p1 : w2.cell? ⟨w.heap.size, 1, none⟩ = some (.int .u64 0) := hq2.cell 1; have t1 := hq2.frozen 1; have p2 : w2.cell? ⟨w.heap.size, 2, none⟩ = some (.int .i64 0) := hq2.cell 2; have t2 := hq2.frozen 2; have p3 : w2.cell? ⟨w.heap.size, 3, none⟩ = some (.slice none 0 0) := hq2.cell 3; have t3 := hq2.frozen 3; have p4 : w2.cell? ⟨w.heap.size, 4, none⟩ = some (.slice none 0 0) := hq2.cell 4; have t4 := hq2.frozen 4; have p5 : w2.cell? ⟨w.heap.size, 5, none⟩ = some (.slice none 0 0) := hq2.cell 5; have t5 := hq2.frozen 5; have p6 : w2.cell? ⟨w.heap.size, 6, none⟩ = some (.slice none 0 0) := hq2.cell 6; have t6 := hq2.frozen 6; have HQ2 := kept hq2; have HB2 := kept (HB1.out.trans (hb2.mono HB1.out.size)); have HQL := kept HQ1.out.lt; clear hq2 hb2 HQ1; obtain ⟨kind, txn, next, a1, n1, k1, a2, n2, k2, a3, n3, k3, a4, n4, k4⟩ := l; go_wp2; have hb7 := ((((((HQ2.out.set_ 0 (.int .i64 kind)).set_ 1 (.int .u64 txn)).set_ 2 (.int .i64 next)).set_ 3 (.slice a1 n1 k1)).set_ 4 (.slice a2 n2 k2)).set_ 5 (.slice a3 n3 k3)).set_ 6 (.slice a4 n4 k4); simp only [List.set_cons_zero, List.set_cons_succ] at hb7; have ho7 := only7 w2 w.heap.size (.int .i64 kind) (.int .u64 txn) (.int .i64 next) (.slice a1 n1 k1) (.slice a2 n2 k2) (.slice a3 n3 k3) (.slice a4 n4 k4); unfold set7 at ho7; generalize (((((((w2.setCell ⟨w.heap.size, 0, none⟩ (.int .i64 kind)).setCell ⟨w.heap.size, 1, none⟩ (.int .u64 txn)).setCell ⟨w.heap.size, 2, none⟩ (.int .i64 next)).setCell ⟨w.heap.size, 3, none⟩ (.slice a1 n1 k1)).setCell ⟨w.heap.size, 4, none⟩ (.slice a2 n2 k2)).setCell ⟨w.heap.size, 5, none⟩ (.slice a3 n3 k3)).setCell ⟨w.heap.size, 6, none⟩ (.slice a4 n4 k4)) = X at hb7 ho7 ⊢; have x0 : X.cell? ⟨w.heap.size, 0, none⟩ = some (.int .i64 kind) := hb7.cell 0; have x1 : X.cell? ⟨w.heap.size, 1, none⟩ = some (.int .u64 txn) := hb7.cell 1
 have x2 : X.cell? ⟨w.heap.size, 2, none⟩ = some (.int .i64 next) := hb7.cell 2; have x3 : X.cell? ⟨w.heap.size, 3, none⟩ = some (.slice a1 n1 k1) := hb7.cell 3; have x4 : X.cell? ⟨w.heap.size, 4, none⟩ = some (.slice a2 n2 k2) := hb7.cell 4; have x5 : X.cell? ⟨w.heap.size, 5, none⟩ = some (.slice a3 n3 k3) := hb7.cell 5; have x6 : X.cell? ⟨w.heap.size, 6, none⟩ = some (.slice a4 n4 k4) := hb7.cell 6; exact bodyPost_ret (v := .tuple #[.agg #[.int .i64 kind, .int .u64 txn, .int .i64 next, .slice a1 n1 k1, .slice a2 n2 k2, .slice a3 n3 k3, .slice a4 n4 k4], .int .i64 er]) (by simp [results, Tryz.results98, go_sem, x0, x1, x2, x3, x4, x5, x6]) rfl ⟨⟨kind, txn, next, a1, n1, k1, a2, n2, k2, a3, n3, k3, a4, n4, k4⟩, rfl, kept (hs.out.go (Onl.one ho7 HQL.out) (Nat.le_of_lt HQL.out)), ho7.below HB2.out HB2.out.size (Nat.le_refl _)⟩
def bytesAt (P : PSt) (S : St) (id : Int) : List UInt8 := match P.add id with | some bs => bs | none => S.page id
theorem pread_any {w : World} {p : Pgl} {P : PSt} {S : St} (h : Pgr w p P S) (id : Int) (hb : finB P.M.size id = true) (hf : S.fuse ≠ 0) (hF : Fours w) :
 Calls Tryz.prog 42 #[.pointer (some ⟨p.r, 0, none⟩), .int .i64 id] w (DecA w (decPg (bytesAt P S id)).1 (decPg (bytesAt P S id)).2) := by
 have HB0 := fun o => kept ((Below.refl _ w).alloc (Nat.le_refl _) o)
 have HR := fun o => kept (reaches_any (h.below (HB0 o).out) id 0 (by rw [hb]; rfl))
 have hrange : 2 ≤ id ∧ id < (S.pages.length : Int) ∧ id < 1024 := by
  have h1 : 2 ≤ id ∧ id < P.M.size := by simpa [finB] using hb
  have h2 := h.ok.mz; have h3 := h.dsk.1.2.1; omega
 have HW : Hid (Wf id) := kept ⟨by omega, by omega⟩; have c9 := fun o => ((h.below (HB0 o).out).c 9 : (w.alloc o).cell? ⟨p.r, 9, none⟩ = some (.map (some p.m)))
 have c0 := fun o => ((h.below (HB0 o).out).c 0 : (w.alloc o).cell? ⟨p.r, 0, none⟩ = some (.pointer (some ⟨p.d.r, 0, none⟩)))
 have HM := fun o => kept (h.below (HB0 o).out).adm.1
 have hlt := h.blk.lt; have fin : ∀ (Q : Pg) (er : Int) (k : DecA w Q er = DecA w (decPg (bytesAt P S id)).1 (decPg (bytesAt P S id)).2), True := fun _ _ _ => trivial
 cases hadd : P.add id with
 | none =>
   have hV : p.V id = none := by
    have := h.adm.2.some_ (x := id); rw [hadd] at this; simpa using this
   have HV := kept hV; have e : bytesAt P S id = S.page id := by unfold bytesAt; rw [hadd]
   rw [e]; have HD := fun o => kept (readPage_any p.d S id _ (h.below (HB0 o).out).dsk hf (by omega) hrange.2.1 (hF.below (HB0 o).out))
   clear h hb hf hF hrange hV hadd e fin; generalize (decPg (S.page id)).2 = er at HD; generalize (decPg (S.page id)).1 = Q at HD; go_enter Tryz.func42, Tryz.ntmps42; go_wp2_with fail
   with_reducible refine (HR _).out.mono ?_
   rintro e w1 ⟨rfl, rfl⟩; go_wp2_with (first | (at_lookup; refine wpList_look_ok rfl 74 46 _ _ rfl addU (.slice none 0 0) addZ (HM _).out rfl id rfl HW.out (.slice none 0 0) false (by simp [HV.out]) (by simp [HV.out]) ?_) | (go_at_call 98; (with_reducible refine (HD _).out.mono ?_); rintro e w2 ⟨l, rfl, hs, hb2⟩; have hq2 := (Blk.new w 93 #[.int .i64 0, .int .u64 0, .int .i64 0, .slice none 0 0, .slice none 0 0, .slice none 0 0, .slice none 0 0]).below hb2 (by simp); have p0 : w2.cell? ⟨w.heap.size, 0, none⟩ = some (.int .i64 0) := hq2.cell 0; have t0 := hq2.frozen 0; have p1 : w2.cell? ⟨w.heap.size, 1, none⟩ = some (.int .u64 0) := hq2.cell 1; have t1 := hq2.frozen 1; have p2 : w2.cell? ⟨w.heap.size, 2, none⟩ = some (.int .i64 0) := hq2.cell 2; have t2 := hq2.frozen 2; have p3 : w2.cell? ⟨w.heap.size, 3, none⟩ = some (.slice none 0 0) := hq2.cell 3; have t3 := hq2.frozen 3; have p4 : w2.cell? ⟨w.heap.size, 4, none⟩ = some (.slice none 0 0) := hq2.cell 4; have t4 := hq2.frozen 4; have p5 : w2.cell? ⟨w.heap.size, 5, none⟩ = some (.slice none 0 0) := hq2.cell 5; have t5 := hq2.frozen 5; have p6 : w2.cell? ⟨w.heap.size, 6, none⟩ = some (.slice none 0 0) := hq2.cell 6; have t6 := hq2.frozen 6; have HQ2 := kept hq2; have HB2 := kept (bel_to hb2 (HB0 _).out); have HQL := kept hb2.size; clear hq2 hb2; obtain ⟨kind, txn, next, a1, n1, k1, a2, n2, k2, a3, n3, k3, a4, n4, k4⟩ := l))
   have hb7 := ((((((HQ2.out.set_ 0 (.int .i64 kind)).set_ 1 (.int .u64 txn)).set_ 2 (.int .i64 next)).set_ 3 (.slice a1 n1 k1)).set_ 4 (.slice a2 n2 k2)).set_ 5 (.slice a3 n3 k3)).set_ 6 (.slice a4 n4 k4); simp only [List.set_cons_zero, List.set_cons_succ] at hb7; have ho7 := only7 w2 w.heap.size (.int .i64 kind) (.int .u64 txn) (.int .i64 next) (.slice a1 n1 k1) (.slice a2 n2 k2) (.slice a3 n3 k3) (.slice a4 n4 k4); unfold set7 at ho7; generalize (((((((w2.setCell ⟨w.heap.size, 0, none⟩ (.int .i64 kind)).setCell ⟨w.heap.size, 1, none⟩ (.int .u64 txn)).setCell ⟨w.heap.size, 2, none⟩ (.int .i64 next)).setCell ⟨w.heap.size, 3, none⟩ (.slice a1 n1 k1)).setCell ⟨w.heap.size, 4, none⟩ (.slice a2 n2 k2)).setCell ⟨w.heap.size, 5, none⟩ (.slice a3 n3 k3)).setCell ⟨w.heap.size, 6, none⟩ (.slice a4 n4 k4)) = X at hb7 ho7 ⊢; have x0 : X.cell? ⟨w.heap.size, 0, none⟩ = some (.int .i64 kind) := hb7.cell 0; have x1 : X.cell? ⟨w.heap.size, 1, none⟩ = some (.int .u64 txn) := hb7.cell 1; have x2 : X.cell? ⟨w.heap.size, 2, none⟩ = some (.int .i64 next) := hb7.cell 2; have x3 : X.cell? ⟨w.heap.size, 3, none⟩ = some (.slice a1 n1 k1) := hb7.cell 3; have x4 : X.cell? ⟨w.heap.size, 4, none⟩ = some (.slice a2 n2 k2) := hb7.cell 4; have x5 : X.cell? ⟨w.heap.size, 5, none⟩ = some (.slice a3 n3 k3) := hb7.cell 5; have x6 : X.cell? ⟨w.heap.size, 6, none⟩ = some (.slice a4 n4 k4) := hb7.cell 6; exact bodyPost_ret (v := .tuple #[.agg #[.int .i64 kind, .int .u64 txn, .int .i64 next, .slice a1 n1 k1, .slice a2 n2 k2, .slice a3 n3 k3, .slice a4 n4 k4], .int .i64 er]) (by simp [results, Tryz.results42, go_sem, x0, x1, x2, x3, x4, x5, x6]) rfl ⟨⟨kind, txn, next, a1, n1, k1, a2, n2, k2, a3, n3, k3, a4, n4, k4⟩, rfl, kept (hs.out.go (Onl.one ho7 (by simp)) (by simp)), ho7.below HB2.out HB2.out.size (Nat.le_refl _)⟩
 | some bs =>
   obtain ⟨A2, c2, hV, hA⟩ : ∃ A2 c2, p.V id = some (.slice A2 256 c2) ∧ OwB w A2 256 c2 bs := by
    rcases h.adm.2 id with ⟨h0, _⟩ | ⟨bs', A', c', h1, h2, h3, _⟩
    · rw [hadd] at h0; cases h0
    · rw [hadd] at h1; cases h1; exact ⟨A', c', h2, h3⟩
   have HV := kept hV; have e : bytesAt P S id = bs := by unfold bytesAt; rw [hadd]
   rw [e]; have HD := fun o => kept (decode_any A2 256 c2 bs _ (hA.rd.below (HB0 o).out) hA.cap (hF.below (HB0 o).out))
   clear h hb hf hF hrange hV hA hadd e fin; generalize (decPg bs).2 = er at HD; generalize (decPg bs).1 = Q at HD; go_enter Tryz.func42, Tryz.ntmps42; go_wp2_with fail
   with_reducible refine (HR _).out.mono ?_
   rintro e w1 ⟨rfl, rfl⟩; go_wp2_with (first | (at_lookup; refine wpList_look_ok rfl 74 46 _ _ rfl addU (.slice none 0 0) addZ (HM _).out rfl id rfl HW.out (.slice A2 256 c2) true (by simp [HV.out]) (by simp [HV.out]) ?_) | (go_at_call 97; (with_reducible refine (HD _).out.mono ?_); rintro e w2 ⟨l, rfl, hs, hb2⟩; have hq2 := (Blk.new w 93 #[.int .i64 0, .int .u64 0, .int .i64 0, .slice none 0 0, .slice none 0 0, .slice none 0 0, .slice none 0 0]).below hb2 (by simp); have p0 : w2.cell? ⟨w.heap.size, 0, none⟩ = some (.int .i64 0) := hq2.cell 0; have t0 := hq2.frozen 0; have p1 : w2.cell? ⟨w.heap.size, 1, none⟩ = some (.int .u64 0) := hq2.cell 1; have t1 := hq2.frozen 1; have p2 : w2.cell? ⟨w.heap.size, 2, none⟩ = some (.int .i64 0) := hq2.cell 2; have t2 := hq2.frozen 2; have p3 : w2.cell? ⟨w.heap.size, 3, none⟩ = some (.slice none 0 0) := hq2.cell 3; have t3 := hq2.frozen 3; have p4 : w2.cell? ⟨w.heap.size, 4, none⟩ = some (.slice none 0 0) := hq2.cell 4; have t4 := hq2.frozen 4; have p5 : w2.cell? ⟨w.heap.size, 5, none⟩ = some (.slice none 0 0) := hq2.cell 5; have t5 := hq2.frozen 5; have p6 : w2.cell? ⟨w.heap.size, 6, none⟩ = some (.slice none 0 0) := hq2.cell 6; have t6 := hq2.frozen 6; have HQ2 := kept hq2; have HB2 := kept (bel_to hb2 (HB0 _).out); have HQL := kept hb2.size; clear hq2 hb2; obtain ⟨kind, txn, next, a1, n1, k1, a2, n2, k2, a3, n3, k3, a4, n4, k4⟩ := l))
   have hb7 := ((((((HQ2.out.set_ 0 (.int .i64 kind)).set_ 1 (.int .u64 txn)).set_ 2 (.int .i64 next)).set_ 3 (.slice a1 n1 k1)).set_ 4 (.slice a2 n2 k2)).set_ 5 (.slice a3 n3 k3)).set_ 6 (.slice a4 n4 k4); simp only [List.set_cons_zero, List.set_cons_succ] at hb7; have ho7 := only7 w2 w.heap.size (.int .i64 kind) (.int .u64 txn) (.int .i64 next) (.slice a1 n1 k1) (.slice a2 n2 k2) (.slice a3 n3 k3) (.slice a4 n4 k4); unfold set7 at ho7; generalize (((((((w2.setCell ⟨w.heap.size, 0, none⟩ (.int .i64 kind)).setCell ⟨w.heap.size, 1, none⟩ (.int .u64 txn)).setCell ⟨w.heap.size, 2, none⟩ (.int .i64 next)).setCell ⟨w.heap.size, 3, none⟩ (.slice a1 n1 k1)).setCell ⟨w.heap.size, 4, none⟩ (.slice a2 n2 k2)).setCell ⟨w.heap.size, 5, none⟩ (.slice a3 n3 k3)).setCell ⟨w.heap.size, 6, none⟩ (.slice a4 n4 k4)) = X at hb7 ho7 ⊢; have x0 : X.cell? ⟨w.heap.size, 0, none⟩ = some (.int .i64 kind) := hb7.cell 0; have x1 : X.cell? ⟨w.heap.size, 1, none⟩ = some (.int .u64 txn) := hb7.cell 1; have x2 : X.cell? ⟨w.heap.size, 2, none⟩ = some (.int .i64 next) := hb7.cell 2; have x3 : X.cell? ⟨w.heap.size, 3, none⟩ = some (.slice a1 n1 k1) := hb7.cell 3; have x4 : X.cell? ⟨w.heap.size, 4, none⟩ = some (.slice a2 n2 k2) := hb7.cell 4; have x5 : X.cell? ⟨w.heap.size, 5, none⟩ = some (.slice a3 n3 k3) := hb7.cell 5; have x6 : X.cell? ⟨w.heap.size, 6, none⟩ = some (.slice a4 n4 k4) := hb7.cell 6; exact bodyPost_ret (v := .tuple #[.agg #[.int .i64 kind, .int .u64 txn, .int .i64 next, .slice a1 n1 k1, .slice a2 n2 k2, .slice a3 n3 k3, .slice a4 n4 k4], .int .i64 er]) (by simp [results, Tryz.results42, go_sem, x0, x1, x2, x3, x4, x5, x6]) rfl ⟨⟨kind, txn, next, a1, n1, k1, a2, n2, k2, a3, n3, k3, a4, n4, k4⟩, rfl, kept (hs.out.go (Onl.one ho7 (by simp)) (by simp)), ho7.below HB2.out HB2.out.size (Nat.le_refl _)⟩
theorem newest_any (d : Dk) (S : St) (w : World) (h : Dsk w d S) (hf : S.fuse ≠ 0) (hF : Fours w) :
 Calls Tryz.prog 58 #[.pointer (some ⟨d.r, 0, none⟩)] w fun e w' => e = .returned (.tuple #[(chooseM (S.page 0) (S.page 1)).1.val, .int .i64 (chooseM (S.page 0) (S.page 1)).2]) ∧ Below w.heap.size w w' := by
 have h8 := h.1.1; have HL0 : Hid ((S.page 0).length = 256) := kept (h.page_len (p := 0) (by omega)); have HL1 : Hid ((S.page 1).length = 256) := kept (h.page_len (p := 1) (by omega)); have HR0 := fun o => kept (read_ok d S 0 _ (h.below ((Below.refl _ w).alloc (Nat.le_refl _) o)) hf (by omega) (by omega))
 have HR1 := kept (fun (W : World) (hb : Below w.heap.size w W) => read_ok d S 1 W (h.below hb) hf (by omega) (by omega)); have HCH := kept (fun (W : World) (A B : Option Addr) (hb : Below w.heap.size w W) (r0 : Rd W A 256 (S.page 0)) (r1 : Rd W B 256 (S.page 1)) => choose_m A B 256 256 256 256 (S.page 0) (S.page 1) W r0 (Nat.le_refl _) r1 (Nat.le_refl _) (hF.below hb)); clear h hf h8 hF; obtain ⟨C, hC⟩ : ∃ C, chooseM (S.page 0) (S.page 1) = C := ⟨_, rfl⟩
 rw [hC] at HCH ⊢; obtain ⟨⟨t, r, s, z⟩, er⟩ := C; simp only at HCH; clear hC; generalize S.page 0 = x0 at HL0 HR0 HCH; generalize S.page 1 = x1 at HL1 HR1 HCH; go_enter Tryz.func58, Tryz.ntmps58; go_wp2_with fail
 with_reducible refine (HR0 _).out.mono ?_
 rintro e w1 ⟨b0, rfl, hk0, hn0, hb0⟩; have HQ1 := kept ((Blk.new w 109 #[.int .u64 0, .int .i64 0, .int .i64 0, .int .i64 0]).below hb0 (by simp)); have HB1 := kept (bel_to hb0 ((Below.refl _ w).alloc (Nat.le_refl _) _)); have HK0 := kept hk0; clear hk0 hn0 hb0 HR0; go_wp2_with fail
 with_reducible refine (HR1.out w1 HB1.out).mono ?_
 rintro e w2 ⟨b1, rfl, hk1, hn1, hb1⟩; have HQ2 := kept (HQ1.out.below hb1 HQ1.out.lt); have HB2 := kept (HB1.out.trans (hb1.mono HB1.out.size)); have HC2 := kept (HCH.out w2 _ _ HB2.out ((HK0.out.below hb1 HK0.out.lt).rd HL0.out) (hk1.rd HL1.out)); clear hk1 hn1 hb1 HR1; go_wp2_with fail
 with_reducible refine HC2.out.mono ?_
 rintro e w3 ⟨rfl, hb3⟩; have hq3 := HQ2.out.below hb3 HQ2.out.lt; have HB3 := kept (HB2.out.trans (hb3.mono HB2.out.size)); obtain ⟨e0, e1, e2, e3⟩ := hq3.fou; have f0 := hq3.frozen 0; have f1 := hq3.frozen 1; have f2 := hq3.frozen 2; have f3 := hq3.frozen 3; have HQ3 := kept hq3; clear hb3 hq3; go_wp2; have hx := store4 HQ3.out HB3.out (Nat.le_refl _) (.int .u64 (t : Int)) (.int .i64 r) (.int .i64 s) (.int .i64 z); generalize (((w3.setCell ⟨w.heap.size, 0, none⟩ (.int .u64 (t : Int))).setCell ⟨w.heap.size, 1, none⟩ (.int .i64 r)).setCell ⟨w.heap.size, 2, none⟩ (.int .i64 s)).setCell ⟨w.heap.size, 3, none⟩ (.int .i64 z) = X at hx ⊢; obtain ⟨v0, v1, v2, v3, hbx⟩ := hx; exact bodyPost_ret (v := .tuple #[.agg #[.int .u64 (t : Int), .int .i64 r, .int .i64 s, .int .i64 z], .int .i64 er]) (by simp [results, Tryz.results58, go_sem, v0, v1, v2, v3]) rfl ⟨rfl, hbx⟩
theorem RdI.oneI (w : World) (x : Int) : RdI (w.alloc (.cells #[.int .i64 x] 3)) (some ⟨w.heap.size, 0, none⟩) 1 [x] :=
 ⟨rfl, fun _ => ⟨_, 0, rfl, fun j hj => by
  obtain rfl : j = 0 := by simpa using hj
  exact (Blk.new w 3 #[.int .i64 x]).cell 0⟩⟩
def rchain (S : St) : Nat → Int → List Int → List Int → Int × List Int × List Int
 | 0, _, _, _ => (4, [], [])
 | k + 1, a, C, I =>
   if a = 0 then (0, C, I)
   else if finB (S.pages.length : Int) a = false then (4, [], [])
   else if a ∈ C then (4, [], [])
   else if (decPg (S.page a)).2 ≠ 0 then ((decPg (S.page a)).2, [], [])
   else if (decPg (S.page a)).1.kind ≠ 4 then (4, [], [])
   else rchain S k (decPg (S.page a)).1.next (C ++ [a]) (I ++ (decPg (S.page a)).1.ids)
theorem decPg_ids (xs : List UInt8) : (decPg xs).1.ids.length ≤ 59 := by
 unfold decPg
 split
 · exact Nat.zero_le _
 · split
   · exact Nat.zero_le _
   · split
     · rename_i h
       have := (right_parts h.2.2).2.2.2; unfold usedN at this; simp only at this ⊢; omega
     · exact Nat.zero_le _
theorem RdPg.ri {w : World} {l : Lay} {P : Pg} (h : RdPg w l P) : RdI w l.a4 l.n4 P.ids := by
 refine ⟨h.n4, fun h0 => ?_⟩; obtain ⟨b, o, e⟩ := h.ids.2.1 h0; exact ⟨b, o, e, fun j hj => h.ids.2.2 b o e j hj⟩
structure Two (a w : World) (A : Option Addr) (n c : Nat) (C : List Int) (B : Option Addr) (m d : Nat) (I : List Int) : Prop where
 ca : OwI w A n c C
 ib : OwI w B m d I
 an : ∀ g, blkOf A = some g → a.heap.size ≤ g
 bn : ∀ g, blkOf B = some g → a.heap.size ≤ g
 ne : ∀ g, blkOf A = some g → blkOf B ≠ some g
 below : Below a.heap.size a w
theorem Two.on {a w w' : World} {A : Option Addr} {n c : Nat} {C : List Int} {B : Option Addr} {m d : Nat} {I : List Int} (h : Two a w A n c C B m d I) (hb : Below w.heap.size w w') : Two a w' A n c C B m d I :=
 ⟨h.ca.below hb, h.ib.below hb, h.an, h.bn, h.ne, h.below.trans (hb.mono h.below.size)⟩
theorem Two.growA {a w w' : World} {A A' : Option Addr} {n c n' c' : Nat} {C C' : List Int} {B : Option Addr} {m d : Nat} {I : List Int} (h : Two a w A n c C B m d I) (ho : OwI w' A' n' c' C') (t : Turned w w' (fun j => blkOf A = some j)) (hg : ∀ g, blkOf A' = some g → blkOf A = some g ∨ w.heap.size ≤ g) : Two a w' A' n' c' C' B m d I := by
 refine ⟨ho, h.ib.turned t (fun g hg ha => h.ne g ha hg), fun g e => ?_, h.bn, fun g e hb => ?_, t.only_new h.below h.below.size (fun i hi => h.an i hi)⟩
 · rcases hg g e with k | k
   · exact h.an g k
   · exact Nat.le_trans h.below.size k
 · rcases hg g e with k | k
   · exact h.ne g k hb
   · have := h.ib.lt hb; omega
theorem Two.growB {a w w' : World} {A : Option Addr} {n c : Nat} {C : List Int} {B B' : Option Addr} {m d m' d' : Nat} {I I' : List Int} (h : Two a w A n c C B m d I) (ho : OwI w' B' m' d' I') (t : Turned w w' (fun j => blkOf B = some j)) (hg : ∀ g, blkOf B' = some g → blkOf B = some g ∨ w.heap.size ≤ g) : Two a w' A n c C B' m' d' I' := by
 refine ⟨h.ca.turned t (fun g hg hb => h.ne g hg hb), ho, h.an, fun g e => ?_, fun g e hb => ?_, t.only_new h.below h.below.size (fun i hi => h.bn i hi)⟩
 · rcases hg g e with k | k
   · exact h.bn g k
   · exact Nat.le_trans h.below.size k
 · rcases hg g hb with k | k
   · exact h.ne g e k
   · have := h.ca.lt e; omega
theorem nodup_short {C : List Int} {z : Nat} (hn : C.Nodup) (hb : ∀ x ∈ C, 2 ≤ x ∧ x < (z : Int)) (hz : z ≤ 1024) : C.length ≤ 1022 := by
 have hp : (C.mergeSort (fun x y => decide (x ≤ y))).Perm C := List.mergeSort_perm _ _; rw [← hp.length_eq]; refine rising_le (sorted_rising hn) fun x hx => ?_
 have h2 := hb x (hp.mem_iff.1 hx); omega
theorem two_nil {a w : World} (hb : Below a.heap.size a w) : Two a w none 0 0 [] none 0 0 [] := ⟨OwI.nil_ _, OwI.nil_ _, fun g e => (by cases e), fun g e => (by cases e), fun g e => (by cases e), hb⟩
theorem Sta.belowS {B : Nat} {w w' : World} {R : World → Prop} (h : Sta B w R) (hB : 0 < B) (hb : Below w.heap.size w w') : Sta B w' R :=
 h.go (Onl.one (g := 0) ⟨hb.os, hb.tape, hb.output, hb.size, fun k hk _ => hb.block k hk⟩ hB) (Nat.le_refl _)
theorem Sta.turnedA {B : Nat} {w w' : World} {R : World → Prop} {A : Option Addr} (h : Sta B w R) (hB : 0 < B) (t : Turned w w' (fun j => blkOf A = some j)) (hA : ∀ g, blkOf A = some g → g < B) : Sta B w' R := by
 cases hA' : blkOf A with
 | none => exact h.go (Onl.one (g := 0) ⟨t.os, t.tape, t.output, t.size, fun k hk _ => t.block k hk (fun e => by rw [hA'] at e; cases e)⟩ hB) (Nat.le_refl _)
 | some g => exact h.go (Onl.one (g := g) ⟨t.os, t.tape, t.output, t.size, fun k hk hn => t.block k hk (fun e => hn (by rw [hA'] at e; exact e.symm))⟩ (hA g hA')) (Nat.le_refl _)
theorem Blk.turnI {w w' : World} {g : Nat} {cs : List Value} {A : Option Addr} (h : Blk w g 93 cs) (t : Turned w w' (fun j => blkOf A = some j)) (hA : ∀ g, blkOf A = some g → Cl w g 3) : Blk w' g 93 cs :=
 t.blk h (fun hj => absurd ((hA g hj).uniq h.cl) (by decide))
def RcA (w : World) (R : Int × List Int × List Int) (e : Ending) (w' : World) : Prop :=
 ∃ (A : Option Addr) (n c : Nat) (B : Option Addr) (m d : Nat), e = .returned (.tuple #[.slice A n c, .slice B m d, .int .i64 R.1]) ∧ Hid (Two w w' A n c R.2.1 B m d R.2.2)
structure RcK (S : St) (w : World) (R : Int × List Int × List Int) (a : Int) (A : Option Addr) (n c : Nat) (B : Option Addr) (m d : Nat) (wr : World) : Prop where
 ex : ∃ C I, Two w wr A n c C B m d I ∧ C.Nodup ∧ (∀ x ∈ C, 2 ≤ x ∧ x < (S.pages.length : Int)) ∧ I.length ≤ 59 * C.length ∧ rchain S (1100 - C.length) a C I = R
theorem readChain_any (d : Dk) (S : St) (a0 : Int) (w : World) (h : Dsk w d S) (hf : S.fuse ≠ 0) (hF : Fours w) :
 Calls Tryz.prog 60 #[.pointer (some ⟨d.r, 0, none⟩), .int .i64 a0] w (RcA w (rchain S 1100 a0 [] [])) := by
 have HD := kept (fun (W : World) (hb : Below w.heap.size w W) => h.below hb); have hz1024 := h.1.2.1; have H0 : Hid (RcK S w (rchain S 1100 a0 [] []) a0 none 0 0 none 0 0 w) := kept ⟨[], [], ⟨OwI.nil_ _, OwI.nil_ _, fun g e => (by cases e), fun g e => (by cases e), fun g e => (by cases e), Below.refl _ _⟩, List.nodup_nil, fun x hx => (by cases hx), Nat.le_refl _, rfl⟩; generalize rchain S 1100 a0 [] [] = R at H0 ⊢; have HSZ := kept (fun (W : World) (hb : Below w.heap.size w W) => size_any d S W (h.below hb)); have HRP := kept (fun (W : World) (a : Int) (hb : Below w.heap.size w W) (h0 : 0 ≤ a) (h1 : a < (S.pages.length : Int)) => readPage_any d S a W (h.below hb) hf h0 h1 (hF.below hb)); clear h hf hF; go_enter Tryz.func60, Tryz.ntmps60; go_wp2; go_loopw [1, 4, 5] (fun at_ ch ids wr => ∃ (a : Int) (A : Option Addr) (n c : Nat) (B : Option Addr) (m d' : Nat), at_ = .int .i64 a ∧ ch = .slice A n c ∧ ids = .slice B m d' ∧ Hid (RcK S w R a A n c B m d' wr)) (fun _ ch _ _ => 1100 - lenS ch)
 case atStart => exact ⟨a0, none, 0, 0, none, 0, 0, rfl, rfl, rfl, H0⟩
 case round =>
  obtain ⟨a, A, n, c, B, m, d', rfl, rfl, rfl, HL⟩ := hrel; clear H0; obtain ⟨C, I, htw, hnd, hcb, hil, hrc⟩ := HL.out.ex; have HTW := kept htw; have HND := kept hnd; have HCB := kept hcb; have hn : C.length = n := htw.ca.1; have HN := kept hn; have hm : I.length = m := htw.ib.1; have hn1 : n ≤ 1022 := by rw [← hn]; exact nodup_short hnd hcb hz1024
  have hmn : m ≤ 59 * n := by rw [← hm, ← hn]; exact hil
  rw [hn] at hrc; obtain ⟨q, hq⟩ : ∃ q, 1100 - n = q + 1 := ⟨1099 - n, by omega⟩
  rw [hq] at hrc; have HRC : Hid (rchain S (q + 1) a C I = R) := kept hrc; clear htw hnd hcb hil hrc hn hm HL; by_cases ha : a = 0
  · subst ha; have HE : Hid (R = (0, C, I)) := kept (by rw [← HRC.out, rchain, if_pos rfl]); go_wp2; go_returns; rw [HE.out]; exact ⟨A, n, c, B, m, d', rfl, HTW⟩
  · have HPOS : Hid (0 < wr.heap.size) := kept (by have h1 := (HD.out wr HTW.out.below).2.1.lt; omega); have hab : (a != 0) = true := by simpa using ha
    have HSZ1 := kept (HSZ.out wr HTW.out.below); have HIB := fun W => kept (pInBounds_any a (S.pages.length : Int) W)
    cases hfb : finB (S.pages.length : Int) a with
    | false =>
      have HE : Hid (R = (4, [], [])) := kept (by rw [← HRC.out, rchain, if_neg ha, if_pos hfb]); rw [hfb] at HIB; go_wp2_with (first | (go_at_call 59; (with_reducible refine (HSZ1.out).mono ?_); rintro e w1 ⟨rfl, rfl⟩) | (go_at_call 112; (with_reducible refine ((HIB _).out).mono ?_); rintro e w1 ⟨rfl, rfl⟩))
      go_returns; rw [HE.out]; exact ⟨none, 0, 0, none, 0, 0, rfl, kept (two_nil HTW.out.below)⟩
    | true =>
      rw [hfb] at HIB; have HCT := kept (contains_any A n c C a wr HTW.out.ca.reads (by omega)); have hrange : 2 ≤ a ∧ a < (S.pages.length : Int) := by simpa [finB] using hfb
      by_cases hac : a ∈ C
      · have HE : Hid (R = (4, [], [])) := kept (by rw [← HRC.out, rchain, if_neg ha, if_neg (by rw [hfb]; decide), if_pos hac]); rw [decide_eq_true hac] at HCT; clear hac; go_wp2_with (first | (go_at_call 59; (with_reducible refine (HSZ1.out).mono ?_); rintro e w1 ⟨rfl, rfl⟩) | (go_at_call 112; (with_reducible refine ((HIB _).out).mono ?_); rintro e w1 ⟨rfl, rfl⟩) | (go_at_call 113; (with_reducible refine (HCT.out).mono ?_); rintro e w1 ⟨rfl, rfl⟩))
        go_returns; rw [HE.out]; exact ⟨none, 0, 0, none, 0, 0, rfl, kept (two_nil HTW.out.below)⟩
      · rw [decide_eq_false hac] at HCT; have HR1 := kept (HRP.out wr a HTW.out.below (by omega) hrange.2); have HRC2 : Hid ((if (decPg (S.page a)).2 ≠ 0 then ((decPg (S.page a)).2, [], []) else if (decPg (S.page a)).1.kind ≠ 4 then (4, [], []) else rchain S q (decPg (S.page a)).1.next (C ++ [a]) (I ++ (decPg (S.page a)).1.ids)) = R) := kept (by
         have := HRC.out; rw [rchain, if_neg ha, if_neg (by rw [hfb]; decide), if_neg hac] at this; exact this)
        have HAC := kept hac; have HRG := kept hrange; have HIL := kept (decPg_ids (S.page a)); clear HRC hac hrange hfb; generalize decPg (S.page a) = D at HR1 HRC2 HIL; obtain ⟨Q, er⟩ := D; simp only at HR1 HRC2 HIL; by_cases he : er = 0
        · subst he; by_cases hk4 : Q.kind = 4
          · have HE : Hid (rchain S q Q.next (C ++ [a]) (I ++ Q.ids) = R) := kept (by
             have := HRC2.out; rw [if_neg (by simp), if_neg (by simpa using hk4)] at this; exact this)
            have HK4 := kept hk4; clear HRC2 hk4; go_wp2_with (first | (go_at_call 59; (with_reducible refine HSZ1.out.mono ?_); rintro e w1 ⟨rfl, rfl⟩) | (go_at_call 112; (with_reducible refine (HIB _).out.mono ?_); rintro e w1 ⟨rfl, rfl⟩) | (go_at_call 113; (with_reducible refine HCT.out.mono ?_); rintro e w1 ⟨rfl, rfl⟩) | (go_at_call 98; (with_reducible refine HR1.out.mono ?_); rintro e w2 ⟨l, rfl, hs, hb2⟩; obtain ⟨kind, txn, next, a1, n1, k1, a2, n2, k2, a3, n3, k3, a4, n4, k4⟩ := l; have HB2 := kept hb2; have HRD := kept hs.out; have hkd : kind = 4 := (hs.out.here.kind.symm.trans HK4.out); subst hkd; clear hs hb2))
            have HX3 : Hid (Blk (w2.alloc (.cells #[.int .i64 4, .int .u64 txn, .int .i64 next, .slice a1 n1 k1, .slice a2 n2 k2, .slice a3 n3 k3, .slice a4 n4 k4] 93)) w2.heap.size 93 [.int .i64 4, .int .u64 txn, .int .i64 next, .slice a1 n1 k1, .slice a2 n2 k2, .slice a3 n3 k3, .slice a4 n4 k4]) := kept (Blk.new w2 93 #[.int .i64 4, .int .u64 txn, .int .i64 next, .slice a1 n1 k1, .slice a2 n2 k2, .slice a3 n3 k3, .slice a4 n4 k4]); have HB3 : Hid (Below wr.heap.size wr (w2.alloc (.cells #[.int .i64 4, .int .u64 txn, .int .i64 next, .slice a1 n1 k1, .slice a2 n2 k2, .slice a3 n3 k3, .slice a4 n4 k4] 93))) := kept (HB2.out.alloc HB2.out.size _); have HS3 := kept (HRD.out.belowS HPOS.out ((Below.refl _ w2).alloc (Nat.le_refl _) (.cells #[.int .i64 4, .int .u64 txn, .int .i64 next, .slice a1 n1 k1, .slice a2 n2 k2, .slice a3 n3 k3, .slice a4 n4 k4] 93))); have hn4 : n4 ≤ 59 := by have h1 := HRD.out.here.n4; have h2 := HIL.out; have h3 : Q.ids.length = n4 := h1; omega
            have HNX : Hid (Q.next = next) := kept HRD.out.here.next; generalize (w2.alloc (.cells #[.int .i64 4, .int .u64 txn, .int .i64 next, .slice a1 n1 k1, .slice a2 n2 k2, .slice a3 n3 k3, .slice a4 n4 k4] 93)) = W3 at HX3 HB3 HS3 ⊢; have HT3 := kept (HTW.out.on HB3.out); have hm1 : n + 1 ≤ 1000000 := by omega
            have hm2 : m + n4 ≤ 1000000 := by omega
            have HXW : Hid (∀ W : World, Below W3.heap.size W3 W → W.cell? ⟨w2.heap.size, 6, none⟩ = some (.slice a4 n4 k4)) := kept (fun W hb => (HX3.out.below hb HX3.out.lt).cell 6); clear HRD HB2; refine wp_region_held_drew (S := (fun W' => W'.cell? ⟨w2.heap.size, 6, none⟩ = some (.slice a4 n4 k4))) (by kernel_rfl) ?_ (fun hHeld => ?_)
            · ((try dsimp only); (with_reducible first | exact HXW.out _ (Below.refl _ _).drew | exact HXW.out _ (below_ad _ _) | exact HX4.out | exact HX7.out.2))
            refine hT 0 (some 33) ?_; refine hT 1 (some 34) ?_; refine hT 4 (some 37) ?_; refine hT 5 (some 38) ?_; refine hT 6 (some 39) ?_; refine hR 2 (fun K hK => ?_); go_simp; refine hK.out _ _ ?_ (fun hHeld => ?_)
            · ((try dsimp only); (with_reducible first | exact HXW.out _ (Below.refl _ _).drew | exact HXW.out _ (below_ad _ _) | exact HX4.out | exact HX7.out.2))
            clear hK K; (try simp only [Act.put, hA, h0, h1]); refine hR 3 (fun K hK => ?_)
            (refine wp_append_i (.tmp 33) (.tmp 35) rfl rfl rfl ((HT3.out.on (below_ad _ _)).ca) ((RdI.oneI W3 a).below (Below.refl _ _).drew) hm1 ?_; intro A4 c4 w4 h4 t4 g4; have HT4 := kept ((HT3.out.on (below_ad W3 _)).growA h4 t4 g4); have HS4 := kept ((HS3.out.belowS HPOS.out (below_ad W3 _)).turnedA HPOS.out t4 (fun g hg => HTW.out.ca.lt hg)); have HB4 := kept ((HX3.out.below (below_ad W3 (.cells #[.int .i64 a] 3)) HX3.out.lt).turnI t4 (fun g hg => ((HT3.out.on (below_ad W3 _)).ca.cl hg))); have HX4 : Hid (w4.cell? ⟨w2.heap.size, 6, none⟩ = some (.slice a4 n4 k4)) := kept (HB4.out.cell 6); clear h4 t4 g4)
            refine hK.out _ _ ?_ (fun hHeld => ?_)
            · ((try dsimp only); (with_reducible first | exact HXW.out _ (Below.refl _ _).drew | exact HXW.out _ (below_ad _ _) | exact HX4.out | exact HX7.out.2))
            clear hK K; (try simp only [Act.put, hA, h0, h1]); refine hR 7 (fun K hK => ?_)
            (refine wp_append_i (.tmp 37) (.tmp 39) rfl rfl rfl HT4.out.ib HS4.out.here.ri hm2 ?_; intro B7 d7 w7 h7 t7 g7; have HT7 := kept (HT4.out.growB h7 t7 g7); have HB7 := kept (HB4.out.turnI t7 (fun g hg => HT4.out.ib.cl hg)); have HX7 : Hid (w7.cell? ⟨w2.heap.size, 2, none⟩ = some (.int .i64 next) ∧ w7.cell? ⟨w2.heap.size, 6, none⟩ = some (.slice a4 n4 k4)) := kept ⟨HB7.out.cell 2, HB7.out.cell 6⟩; clear h7 t7 g7)
            refine hK.out _ _ ?_ (fun hHeld => ?_)
            · ((try dsimp only); (with_reducible first | exact HXW.out _ (Below.refl _ _).drew | exact HXW.out _ (below_ad _ _) | exact HX4.out | exact HX7.out.2))
            clear hK K; (try simp only [Act.put, hA, h0, h1]); refine hT 8 (some 4) ?_; refine hT 9 (some 5) ?_; refine wpAnyH_done (by kernel_rfl) ?_ _; have hx7 := HX7.out.1; have HE7 : Hid (RcK S w R next A4 (n + 1) c4 B7 (m + n4) d7 w7) := kept ⟨C ++ [a], I ++ Q.ids, HT7.out, nodup_snoc.2 ⟨HND.out, HAC.out⟩, fun x hx => by
             rcases List.mem_append.1 hx with hx | hx
             · exact HCB.out x hx
             · obtain rfl := List.mem_singleton.1 hx; exact HRG.out, by
             have h1 := HTW.out.ib.1; have h2 := HN.out; have h3 := HIL.out; simp only [List.length_append, List.length_singleton]
             omega, by
             have h1 : 1100 - (C ++ [a]).length = q := by have := HN.out; simp only [List.length_append, List.length_singleton]; omega
             rw [h1, ← HNX.out]; exact HE.out⟩
            go_wp2; go_roundw
            case rel => exact ⟨next, A4, n + 1, c4, B7, m + n4, d7, rfl, rfl, rfl, HE7⟩
            case measure => simp [lenS]; omega
          · have HE : Hid (R = (4, [], [])) := kept (by
             have := HRC2.out; rw [if_neg (by simp), if_pos hk4] at this; exact this.symm)
            have HK4 := kept hk4; clear HRC2 hk4; go_wp2_with (first | (go_at_call 59; (with_reducible refine HSZ1.out.mono ?_); rintro e w1 ⟨rfl, rfl⟩) | (go_at_call 112; (with_reducible refine (HIB _).out.mono ?_); rintro e w1 ⟨rfl, rfl⟩) | (go_at_call 113; (with_reducible refine HCT.out.mono ?_); rintro e w1 ⟨rfl, rfl⟩) | (go_at_call 98; (with_reducible refine HR1.out.mono ?_); rintro e w2 ⟨l, rfl, hs, hb2⟩; obtain ⟨kind, txn, next, a1, n1, k1, a2, n2, k2, a3, n3, k3, a4, n4, k4⟩ := l; have HB2 := kept hb2; have hkd : (kind != 4) = true := (by have h1 : Q.kind = kind := hs.out.here.kind; have h2 := HK4.out; rw [h1] at h2; simpa using h2); clear hs hb2))
            go_returns; rw [HE.out]; exact ⟨none, 0, 0, none, 0, 0, rfl, kept (two_nil (HTW.out.below.trans ((HB2.out.alloc HB2.out.size _).mono HTW.out.below.size)))⟩
        · have HE : Hid (R = (er, [], [])) := kept (by
           have := HRC2.out; rw [if_pos he] at this; exact this.symm)
          have heb : (er != 0) = true := by simpa using he
          clear HRC2 he; go_wp2_with (first | (go_at_call 59; (with_reducible refine HSZ1.out.mono ?_); rintro e w1 ⟨rfl, rfl⟩) | (go_at_call 112; (with_reducible refine (HIB _).out.mono ?_); rintro e w1 ⟨rfl, rfl⟩) | (go_at_call 113; (with_reducible refine HCT.out.mono ?_); rintro e w1 ⟨rfl, rfl⟩) | (go_at_call 98; (with_reducible refine HR1.out.mono ?_); rintro e w2 ⟨l, rfl, hs, hb2⟩; obtain ⟨kind, txn, next, a1, n1, k1, a2, n2, k2, a3, n3, k3, a4, n4, k4⟩ := l; have HB2 := kept hb2; clear hs hb2))
          go_returns; rw [HE.out]; exact ⟨none, 0, 0, none, 0, 0, rfl, kept (two_nil (HTW.out.below.trans ((HB2.out.alloc HB2.out.size _).mono HTW.out.below.size)))⟩
def giveAll (s : FSt) (C : List Int) : FSt := C.foldl (fun s x => s.give x) s
theorem giveAll_take (s : FSt) (C : List Int) (k : Nat) (h : k < C.length) : giveAll s (C.take (k + 1)) = (giveAll s (C.take k)).give C[k] := by
 rw [List.take_succ_eq_append_getElem h, giveAll, List.foldl_append]; rfl
def ListOf (a w : World) (r : Nat) (s : FSt) (A : Option Addr) : Prop := ∃ f : Fl, f.r = r ∧ Lst w f s ∧ (∀ j, f.own j → a.heap.size ≤ j) ∧ ∀ g, blkOf A = some g → ¬ f.own g
structure Beside (a w : World) (r : Nat) (s : FSt) (A : Option Addr) (n c : Nat) (Z : List Int) : Prop where
 own : OwI w A n c Z
 new : ∀ g, blkOf A = some g → a.heap.size ≤ g
 lst : ListOf a w r s A
 below : Below a.heap.size a w
theorem Beside.step {a w : World} {r : Nat} {s : FSt} {A : Option Addr} {n c : Nat} {Z : List Int} (h : Beside a w r s A n c Z) : ∃ f : Fl, f.r = r ∧ Lst w f s ∧ ∀ w' s', LLeft w w' f s' → Beside a w' r s' A n c Z := by
 obtain ⟨f, e0, hl, hn, ha⟩ := h.lst; refine ⟨f, e0, hl, fun w' s' k => ?_⟩; obtain ⟨f', e, hl', t, ho⟩ := k; refine ⟨h.own.turned t ha, h.new, ⟨f', e.trans e0, hl', fun j hj => ?_, fun g hg hf => ?_⟩, t.only_new h.below h.below.size hn⟩
 · rcases ho j hj with h5 | h5
   · exact hn j h5
   · exact Nat.le_trans h.below.size h5
 · rcases ho g hf with h5 | h5
   · exact ha g hg h5
   · have := h.own.lt hg; omega
theorem Beside.take_ {a w : World} {r : Nat} {s : FSt} {A : Option Addr} {n c : Nat} {Z : List Int} (h : Beside a w r s A n c Z) : Calls Tryz.prog 102 #[.pointer (some ⟨r, 0, none⟩)] w fun e w' => e = .returned (.tuple #[.int .i64 s.taken.1, .int .i64 s.taken.2]) ∧ Hid (Beside a w' r s.take A n c Z) := by
 obtain ⟨f, rfl, hl, hk⟩ := h.step; exact (ftake_any f s w hl).mono fun e w' ⟨h1, h2⟩ => ⟨h1, kept (hk _ _ h2.out)⟩
theorem Beside.settle_ {a w : World} {r : Nat} {s : FSt} {A : Option Addr} {n c : Nat} {Z : List Int} (h : Beside a w r s A n c Z) : Calls Tryz.prog 103 #[.pointer (some ⟨r, 0, none⟩)] w fun e w' => e = .returned (.tuple #[]) ∧ Hid (Beside a w' r s.settle A n c Z) := by
 obtain ⟨f, rfl, hl, hk⟩ := h.step; exact (settle_any f s w hl).mono fun e w' ⟨h1, h2⟩ => ⟨h1, kept (hk _ _ h2.out)⟩
theorem Beside.give_ {a w : World} {r : Nat} {s : FSt} {A : Option Addr} {n c : Nat} {Z : List Int} (h : Beside a w r s A n c Z) (x : Int) : Calls Tryz.prog 104 #[.pointer (some ⟨r, 0, none⟩), .int .i64 x] w fun e w' => e = .returned (.int .i64 (s.may x)) ∧ Hid (Beside a w' r (s.give x) A n c Z) := by
 obtain ⟨f, rfl, hl, hk⟩ := h.step; exact (give_any f s x w hl).mono fun e w' ⟨h1, h2⟩ => ⟨h1, kept (hk _ _ h2.out)⟩
theorem Beside.grow {a w w' : World} {r : Nat} {s : FSt} {A A' : Option Addr} {n c n' c' : Nat} {Z Z' : List Int} (h : Beside a w r s A n c Z) (ho : OwI w' A' n' c' Z') (t : Turned w w' (fun j => blkOf A = some j)) (hg : ∀ g, blkOf A' = some g → blkOf A = some g ∨ w.heap.size ≤ g) : Beside a w' r s A' n' c' Z' := by
 obtain ⟨f, rfl, hl, hn, ha⟩ := h.lst; refine ⟨ho, fun g e => ?_, ⟨f, rfl, hl.turned t fun j hj e => ha j e hj, hn, fun g e hf => ?_⟩, t.only_new h.below h.below.size (fun i hi => h.new i hi)⟩
 · rcases hg g e with h5 | h5
   · exact h.new g h5
   · exact Nat.le_trans h.below.size h5
 · rcases hg g e with h5 | h5
   · exact ha g h5 hf
   · have := hl.lt hf; omega
theorem Beside.alloc {a w : World} {r : Nat} {s : FSt} {A : Option Addr} {n c : Nat} {Z : List Int} (h : Beside a w r s A n c Z) (o : Obj) : Beside a (w.alloc o) r s A n c Z := by
 obtain ⟨f, rfl, hl, hn, ha⟩ := h.lst; have hb := (Below.refl w.heap.size w).alloc (Nat.le_refl _) o; exact ⟨h.own.below hb, h.new, ⟨f, rfl, hl.below hb, hn, ha⟩, h.below.trans (hb.mono h.below.size)⟩
theorem RdI.one7 (w : World) (x : Int) : RdI (w.alloc (.cells #[.int .i64 x] 3)) (some ⟨w.heap.size, 0, none⟩) 1 [x] :=
 ⟨rfl, fun _ => ⟨_, 0, rfl, fun j hj => by
  obtain rfl : j = 0 := by simpa using hj
  exact (Blk.new w 3 #[.int .i64 x]).cell 0⟩⟩
def settleL (P : PSt) : FSt := giveAll (FSt.settle { P.L with S := P.L.S.drop (needN (P.L.S.length + P.L.H.length + P.chain.length)) }) P.chain
def settleC (P : PSt) : List Int := P.L.S.take (needN (P.L.S.length + P.L.H.length + P.chain.length))
theorem chain_short {w : World} {p : Pgl} {P : PSt} {S : St} (h : Pgr w p P S) : P.chain.length ≤ 1022 := by
 have hp : (P.chain.mergeSort (fun x y => decide (x ≤ y))).Perm P.chain := List.mergeSort_perm _ _; rw [← hp.length_eq]; refine rising_le (sorted_rising h.ok.cn) fun x hx => ?_
 have h2 := h.ok.cb x (hp.mem_iff.1 hx); have h3 := h.dsk.1.2.1; omega
theorem settle_ok {w : World} {p : Pgl} {P : PSt} {S : St} (h : Pgr w p P S) (K : Nat) (hK : needN (P.L.S.length + P.L.H.length + P.chain.length) = K) (hKS : K ≤ P.L.S.length) :
 Calls Tryz.prog 50 #[.pointer (some ⟨p.r, 0, none⟩)] w fun e w' => ∃ (A : Option Addr) (c r : Nat), e = .returned (.tuple #[.slice A K c, .pointer (some ⟨r, 0, none⟩), .int .i64 0]) ∧ Hid (Beside w w' r (settleL P) A K c (settleC P)) := by
 have H := kept h; have hch := chain_short h; have hsh := h.lst.1.short; have e8 : w.cell? ⟨p.r, 8, none⟩ = some (.pointer (some ⟨p.f.r, 0, none⟩)) := h.c 8; have HCP := kept (copy_any_f p.f P.L w h.lst); have HSC : Hid (settleC P = P.L.S.take K) := kept (by unfold settleC; rw [hK]); have HSL : Hid (settleL P = giveAll (FSt.settle { P.L with S := P.L.S.drop K }) P.chain) := kept (by unfold settleL; rw [hK]); rw [HSC.out, HSL.out]; clear HSC HSL; obtain ⟨nS, hnS⟩ : ∃ n, P.L.S.length = n := ⟨_, rfl⟩
 obtain ⟨nH, hnH⟩ : ∃ n, P.L.H.length = n := ⟨_, rfl⟩
 obtain ⟨nC, hnC⟩ : ∃ n, P.chain.length = n := ⟨_, rfl⟩
 rw [hnS, hnH, hnC] at hK; rw [hnS] at hKS hsh; rw [hnH] at hsh; rw [hnC] at hch; have HNS := kept hnS; have HNH := kept hnH; have HNC := kept hnC; obtain ⟨q, hq⟩ : ∃ q : Nat, nS + nH + nC = q := ⟨_, rfl⟩
 rw [hq] at hK; have HCL := fun W => kept (chainLength_any q W (by omega))
 rw [hK] at HCL; have ha1 : IntKind.i64.wrap ((nS : Int) + (nH : Int)) = (nS : Int) + (nH : Int) := by simp [IntKind.wrap_i64]; omega
 have ha2 : IntKind.i64.wrap ((nS : Int) + (nH : Int) + (nC : Int)) = (q : Int) := by simp [IntKind.wrap_i64]; omega
 clear hq; clear h hnS hnH hnC hK; go_enter Tryz.func50, Tryz.ntmps50; go_wp2_with fail
 with_reducible refine HCP.out.mono ?_
 rintro e w1 ⟨f1, rfl, h1⟩; have HP1 := kept (H.out.below h1.out.2.1); have e5 : w1.drew.cell? ⟨p.r, 5, none⟩ = some (.slice p.Ac nC p.cc) := by rw [← HNC.out]; exact HP1.out.c 5
 have HRM := kept (froom_any f1 P.L w1.drew (h1.out.1.below (Below.refl _ _).drew)); have HHD := kept (held_any f1 P.L w1.drew (h1.out.1.below (Below.refl _ _).drew)); rw [HNS.out] at HRM; rw [HNH.out] at HHD; go_wp2; refine wp_region_held_drew (S := (fun W' => W'.cell? ⟨p.r, 5, none⟩ = some (.slice p.Ac nC p.cc))) (by kernel_rfl) ?_ (fun hHeld => ?_)
 · ((try dsimp only); (with_reducible first | exact e5 | exact HE5.out))
 refine hT 0 (some 17) ?_; refine hT 2 (some 19) ?_; refine hT 6 (some 23) ?_; refine hT 7 (some 24) ?_; refine hT 8 (some 25) ?_; refine hT 9 (some 26) ?_; refine hT 10 (some 27) ?_; refine hT 13 (some 30) ?_; refine hR 1 (fun K hK => ?_); go_simp
 ((go_at_call 100; (with_reducible refine HRM.out.mono ?_); rintro e w2 ⟨rfl, rfl⟩))
 (try go_wp2_with fail); refine hK.out _ _ ?_ (fun hHeld => ?_)
 · ((try dsimp only); (with_reducible first | exact e5 | exact HE5.out))
 clear hK K; (try simp only [Act.put, hA, h0, h1]); refine hR 3 (fun K hK => ?_); go_simp
 ((go_at_call 101; (with_reducible refine HHD.out.mono ?_); rintro e w2 ⟨A2, c2, rfl, h2⟩); have HE5 : Hid (w2.cell? ⟨p.r, 5, none⟩ = some (.slice p.Ac nC p.cc)) := kept (cell_below h2.out.2.1 e5))
 (try go_wp2_with fail); refine hK.out _ _ ?_ (fun hHeld => ?_)
 · ((try dsimp only); (with_reducible first | exact e5 | exact HE5.out))
 clear hK K; (try simp only [Act.put, hA, h0, h1]); refine hT 4 (some 21) ?_; refine hT 5 (some 22) ?_; refine hT 11 (some 28) ?_; refine hR 12 (fun K hK => ?_); go_simp
 ((go_at_call 81; (with_reducible refine (HCL _).out.mono ?_); rintro e w3 ⟨rfl, rfl⟩))
 (try go_wp2_with fail); refine hK.out _ _ ?_ (fun hHeld => ?_)
 · ((try dsimp only); (with_reducible first | exact e5 | exact HE5.out))
 clear hK K; (try simp only [Act.put, hA, h0, h1]); refine wpAnyH_done (by kernel_rfl) ?_ _; have HB2 : Hid (Below w.heap.size w w2) := kept (h1.out.2.1.trans ((below_from_drew h2.out.2.1).mono h1.out.2.1.size)); have H0 : Hid (Beside w w2 f1.r { P.L with S := P.L.S.drop 0 } none 0 0 (P.L.S.take 0)) := kept ⟨OwI.nil_ _, fun g e => (by cases e), ⟨f1, rfl, (h1.out.1.below (below_from_drew h2.out.2.1)), h1.out.2.2, fun g e => (by cases e)⟩, HB2.out⟩; have HCH := kept (fun (W : World) (hb : Below w.heap.size w W) => (H.out.below hb).chn); have HC5 := kept (fun (W : World) (hb : Below w.heap.size w W) => ((H.out.below hb).c 5 : W.cell? ⟨p.r, 5, none⟩ = some (.slice p.Ac P.chain.length p.cc))); clear h1 h2 HP1 HRM HHD e5 e8 HCP HCL HB2; go_wp2; go_loopw [6, 30] (fun ch i wr => ∃ (k : Nat) (A : Option Addr) (c : Nat), k ≤ K ∧ i = .int .i64 (k : Int) ∧ ch = .slice A k c ∧ Hid (Beside w wr f1.r { P.L with S := P.L.S.drop k } A k c (P.L.S.take k))) (fun _ i _ => K - (intOf i).toNat)
 case atStart => exact ⟨0, none, 0, Nat.zero_le _, rfl, rfl, H0⟩
 case round =>
  obtain ⟨k, A, c, hk, rfl, rfl, HL⟩ := hrel; clear H0; by_cases hlt : k < K
  · have hkl : k < P.L.S.length := by rw [HNS.out]; omega
    obtain ⟨x, hx⟩ : ∃ x, P.L.S[k] = x := ⟨_, rfl⟩
    have hdr : P.L.S.drop k = x :: P.L.S.drop (k + 1) := by rw [← hx]; exact List.drop_eq_getElem_cons hkl
    have HTKK : Hid (P.L.S.take (k + 1) = P.L.S.take k ++ [x]) := kept (by rw [← hx]; exact List.take_succ_eq_append_getElem hkl); have HT := kept HL.out.take_; have e1 : FSt.taken { P.L with S := P.L.S.drop k } = (x, 0) := by unfold FSt.taken; simp only [hdr]
    have e2 : FSt.take { P.L with S := P.L.S.drop k } = { P.L with S := P.L.S.drop (k + 1) } := by unfold FSt.take; simp only [hdr, List.tail_cons]
    rw [e1, e2] at HT; clear e1 e2 hdr hx hkl; have hkb : k + 1 ≤ 1000000 := by omega
    go_wp2_with (first | (go_at_call 102; (with_reducible refine (HT.out).mono ?_); rintro e w3 ⟨rfl, h3⟩) | (at_builtin; refine wpList_append_i rfl _ _ rfl rfl rfl (h3.out.alloc _).own (RdI.one7 w3 x) hkb ?_; intro A4 c4 w4 h4 t4 g4; have HE : Hid (Beside w w4 f1.r { P.L with S := P.L.S.drop (k + 1) } A4 (k + 1) c4 (P.L.S.take (k + 1))) := kept (by rw [HTKK.out]; exact (h3.out.alloc _).grow h4 t4 g4); clear h4 t4 g4))
    go_roundw
    case rel => exact ⟨k + 1, A4, c4, by omega, by go_num, rfl, HE⟩
    case measure => simp [intOf]; omega
  · obtain rfl : k = K := by omega
    have HST := kept HL.out.settle_; have HPB := kept HL.out.below; go_wp2_with (first | (go_at_call 103; (with_reducible refine (HST.out).mono ?_); rintro e w3 ⟨rfl, h3⟩; have e5 : w3.cell? ⟨p.r, 5, none⟩ = some (.slice p.Ac nC p.cc) := (by rw [← HNC.out]; exact HC5.out w3 h3.out.below)))
    have HB0 : Hid (Beside w w3 f1.r (giveAll (FSt.settle { P.L with S := P.L.S.drop k }) (P.chain.take 0)) A k c (P.L.S.take k)) := kept h3.out; clear h3 e5; go_loopw [52] (fun i wr => ∃ (j : Nat), j ≤ nC ∧ i = .int .i64 (j : Int) ∧ Hid (Beside w wr f1.r (giveAll (FSt.settle { P.L with S := P.L.S.drop k }) (P.chain.take j)) A k c (P.L.S.take k))) (fun i _ => nC - (intOf i).toNat)
    case atStart => exact ⟨0, Nat.zero_le _, rfl, HB0⟩
    case round =>
     obtain ⟨j, hj, rfl, HG⟩ := hrel
     rename World => wx
     clear HB0; by_cases hlt2 : j < nC
     · have hjl : j < P.chain.length := by rw [HNC.out]; exact hlt2
       have HCI := (HCH.out wx HG.out.below).reads; rw [HNC.out] at HCI; obtain ⟨b, o, hA, hc⟩ := HCI.at_ hlt2; have HGT := kept (giveAll_take (FSt.settle { P.L with S := P.L.S.drop k }) P.chain j hjl); generalize P.chain[j] = y at hc HGT; rw [hA]; have HGV := kept (HG.out.give_ y); clear hA HCI hjl; go_wp2_with (first | (go_at_call 104; (with_reducible refine (HGV.out).mono ?_); rintro e w4 ⟨rfl, h4⟩))
       have HE : Hid (Beside w w4 f1.r (giveAll (FSt.settle { P.L with S := P.L.S.drop k }) (P.chain.take (j + 1))) A k c (P.L.S.take k)) := kept (by rw [HGT.out]; exact h4.out); clear h4 hc; go_roundw
       case rel => exact ⟨j + 1, by omega, by go_num, HE⟩
       case measure => simp [intOf]; omega
     · obtain rfl : j = nC := by omega
       have HE : Hid (Beside w wx f1.r (giveAll (FSt.settle { P.L with S := P.L.S.drop k }) P.chain) A k c (P.L.S.take k)) := kept (by
        have := HG.out
        rwa [List.take_of_length_le (by rw [HNC.out]; exact Nat.le_refl _)] at this)
       go_wp2; go_returns; exact ⟨A, c, f1.r, rfl, HE⟩
theorem SaySh.back {a w w' : World} {A : Option Addr} {n c : Nat} {l : List Sheet} (h : SaySh w w' A n c l) (hb : Below a.heap.size a w) : SaySh a w' A n c l := ⟨h.1, hb.trans (h.2.1.mono hb.size), fun g e => Nat.le_trans hb.size (h.2.2 g e)⟩
theorem adSh_length (add : Adds) : (adSh add).length = (keysL add).length := by simp [adSh]
theorem adSh_get (add : Adds) (k : Nat) (h : k < (keysL add).length) : (adSh add)[k]? = some ((keysL add)[k], (add (keysL add)[k]).getD []) := by simp [adSh, h]
theorem layAdded_any {w : World} {p : Pgl} {P : PSt} {S : St} (h : Pgr w p P S) :
 Calls Tryz.prog 54 #[.pointer (some ⟨p.r, 0, none⟩)] w fun e w' => ∃ (A : Option Addr) (n c : Nat), e = .returned (.slice A n c) ∧ n ≤ 1022 ∧ Hid (SaySh w w' A n c (adSh P.add)) := by
 have H := kept h; have e9 : w.cell? ⟨p.r, 9, none⟩ = some (.map (some p.m)) := h.c 9; have HK := kept (keysM_any (some p.m) w); have HS := kept (sortedK_any p.m p.V P.add w h.adm); have H0 := kept (SaySh.nil_ w); clear h; go_enter Tryz.func54, Tryz.ntmps54; go_wp2_with (first | (go_at_call 107; (with_reducible refine (HK.out).mono ?_); rintro e w1 ⟨rfl, rfl⟩) | (go_at_call 106; (with_reducible refine (HS.out).mono ?_); rintro e w2 ⟨A2, n, c2, rfl, h2⟩))
 have HRD := kept h2.out.1; have HN := kept h2.out.1.1; have hn := h2.out.2.1; have HB2 := kept h2.out.2.2; have HS0 : Hid (SaySh w2 w2 none 0 0 ((adSh P.add).take 0)) := kept (SaySh.nil_ w2); have HP := kept (fun (W : World) (hb : Below w.heap.size w W) => H.out.below hb); clear h2 HK HS H0 e9; go_loopw [3, 14] (fun out i wr => ∃ (k : Nat) (A : Option Addr) (c : Nat), k ≤ n ∧ i = .int .i64 (k : Int) ∧ out = .slice A k c ∧ Hid (SaySh w2 wr A k c ((adSh P.add).take k))) (fun _ i _ => n - (intOf i).toNat)
 case atStart => exact ⟨0, none, 0, Nat.zero_le _, rfl, rfl, HS0⟩
 case round =>
  obtain ⟨k, A, c, hk, rfl, rfl, HL⟩ := hrel; clear HS0; by_cases hlt : k < n
  · have HPW := kept (HP.out wr (HB2.out.trans (HL.out.2.1.mono HB2.out.size))); have hkl : k < (keysL P.add).length := by rw [HN.out]; exact hlt
    obtain ⟨b, o, hA2, hc⟩ := (HRD.out.below HL.out.2.1).at_ hlt; obtain ⟨x, hx⟩ : ∃ x, (keysL P.add)[k] = x := ⟨_, rfl⟩
    have hmem : (P.add x).isSome = true := by
     have h1 := (mem_keysL (fun x => H.out.adm.2.range) x).1 (by rw [← hx]; exact List.getElem_mem hkl); exact h1
    obtain ⟨bs, hbs⟩ := Option.isSome_iff_exists.1 hmem; have HTK : Hid ((adSh P.add).take (k + 1) = (adSh P.add).take k ++ [(x, bs)]) := kept (by
     have := adSh_get P.add k hkl; rw [hx, hbs] at this; rw [List.take_add_one, this]
     rfl)
    rw [hx] at hc; obtain ⟨B, cB, hV, hB, hx2⟩ : ∃ B cB, p.V x = some (.slice B 256 cB) ∧ OwB wr B 256 cB bs ∧ 2 ≤ x ∧ x < 1024 := by
     rcases HPW.out.adm.2 x with ⟨h0, _⟩ | ⟨bs', A', c', h1, h2, h3, h4⟩
     · rw [hbs] at h0; cases h0
     · rw [hbs] at h1; cases h1; exact ⟨A', c', h2, h3, h4⟩
    have e9 : wr.cell? ⟨p.r, 9, none⟩ = some (.map (some p.m)) := HPW.out.c 9; have hlk : (Instr.lookup 74 (.map (some p.m)) (.int .i64 x) false).run Tryz.prog wr = .ok (.slice B 256 cB) wr := by
     rw [HPW.out.adm.1.look1 addU (addZ wr) (show Wf x from ⟨by omega, by omega⟩), hV]; rfl
    have HO := kept (RdSh.one wr x B cB bs hB); have HBA := kept ((Below.refl _ wr).alloc (Nat.le_refl _) (.cells #[.int .i64 x, .slice B 256 cB] 116)); rw [hA2]; have hkm : k + 1 ≤ 1000000 := by omega
    clear hA2 hx hmem hbs hV hB hx2 hkl; go_wp2_with (first | (at_builtin; refine wpList_append_sh rfl _ _ rfl rfl rfl (HL.out.1.below HBA.out) HO.out hkm ?_; intro A4 c4 w4 h4 t4 g4; have HE : Hid (SaySh w2 w4 A4 (k + 1) c4 ((adSh P.add).take (k + 1))) := kept (by rw [HTK.out]; exact HL.out.step HBA.out h4 t4 g4); clear h4 t4 g4))
    go_roundw
    case rel => exact ⟨k + 1, A4, c4, by omega, by go_num, rfl, HE⟩
    case measure => simp [intOf]; omega
  · obtain rfl : k = n := by omega
    have HE : Hid (SaySh w wr A k c (adSh P.add)) := kept (by
     have := HL.out; rw [List.take_of_length_le (by rw [adSh_length, HN.out]; exact Nat.le_refl _)] at this; exact this.back HB2.out)
    go_wp2; go_ret; exact ⟨A, k, c, rfl, hn, HE⟩
def storeS (S : St) (l : List Sheet) (top : Sheet) : St × Int := if (putS S l).2 = 0 then putS (putS S l).1 [top] else putS S l
theorem Left.t {w w' : World} {d : Dk} {S : St} (h : Left w d S w') : Turned w w' d.own := h.2
theorem putS_done : ∀ (l : List Sheet) (S : St), (putS S l).1.done ≤ S.done + l.length + 1
 | [], S => by
   show S.trySync.done ≤ S.done + 0 + 1; unfold St.trySync
   split
   · omega
   · exact Nat.le_refl _
 | x :: r, S => by
   unfold putS
   split
   · have h1 := putS_done r (S.tryWrite x.1 x.2); have h2 := try_done S x.1 x.2; simp only [List.length_cons]; omega
   · simp only [List.length_cons]; omega
theorem store_any {w : World} {p : Pgl} {P : PSt} {S : St} (h : Pgr w p P S) (A : Option Addr) (n c : Nat) (l : List Sheet) (i : Int) (B : Option Addr) (cB : Nat) (xs : List UInt8) (hs : RdSh w A n l) (hB : OwB w B 256 cB xs) (hn : n ≤ 5000) (hd : S.done ≤ 800000) :
 Calls Tryz.prog 53 #[.pointer (some ⟨p.r, 0, none⟩), .slice A n c, .agg #[.int .i64 i, .slice B 256 cB]] w fun e w' => e = .returned (.int .i64 (storeS S l (i, xs)).2) ∧ Hid (Left w p.d (storeS S l (i, xs)).1 w') := by
 have H := kept h; have HB0 := kept ((Below.refl _ w).alloc (Nat.le_refl _) (.cells #[.int .i64 i, .slice B 256 cB] 116)); have HP0 := h.below HB0.out; have e0 : (w.alloc (.cells #[.int .i64 i, .slice B 256 cB] 116)).cell? ⟨p.r, 0, none⟩ = some (.pointer (some ⟨p.d.r, 0, none⟩)) := HP0.c 0; have HPUT := kept (put_any p.d S A n c l _ HP0.dsk (hs.below HB0.out) hn (by omega)); have HOB := kept (hB.below HB0.out); have HK0 := kept (Blk.new w 116 #[.int .i64 i, .slice B 256 cB]); have HD0 := kept HP0.dsk; have HX0 := kept HP0.blk; have hds := putS_done l S; have hl : l.length = n := hs.1; have HSE : Hid (storeS S l (i, xs) = if (putS S l).2 = 0 then putS (putS S l).1 [(i, xs)] else putS S l) := rfl; rw [HSE.out]; clear HSE; obtain ⟨R, hR⟩ : ∃ R, putS S l = R := ⟨_, rfl⟩
 rw [hR] at HPUT hds ⊢; obtain ⟨S1, er⟩ := R; simp only at HPUT hds ⊢; clear h hs hB hR HP0; by_cases he : er = 0
 · subst he; rw [if_pos rfl]; have HP2 := fun (W : World) (A2 : Option Addr) (h1 : Dsk W p.d S1) (h2 : RdSh W A2 1 [(i, xs)]) => kept (put_any p.d S1 A2 1 1 [(i, xs)] W h1 h2 (by omega) (by omega))
   obtain ⟨R2, hR2⟩ : ∃ R, putS S1 [(i, xs)] = R := ⟨_, rfl⟩
   rw [hR2] at HP2 ⊢; obtain ⟨S2, er2⟩ := R2; simp only at HP2 ⊢; clear hR2; go_enter Tryz.func53, Tryz.ntmps53; go_wp2_with fail
   with_reducible refine HPUT.out.mono ?_
   rintro e w1 ⟨rfl, h1⟩; have hk1 := h1.out.2.blk HK0.out (fun hj => HD0.out.own_cl HK0.out.cl (by decide) (by decide) hj); have hx1 := h1.out.2.blk HX0.out (fun hj => HD0.out.own_cl HX0.out.cl (by decide) (by decide) hj); have HO1 := kept (HOB.out.turned h1.out.2 (fun g hg hj => HD0.out.own_cl (HOB.out.cl hg) (by decide) (by decide) hj)); have a0 : w1.drew.cell? ⟨p.r, 0, none⟩ = some (.pointer (some ⟨p.d.r, 0, none⟩)) := hx1.cell 0; have b0 : w1.drew.cell? ⟨w.heap.size, 0, none⟩ = some (.int .i64 i) := hk1.cell 0; have b1 : w1.drew.cell? ⟨w.heap.size, 1, none⟩ = some (.slice B 256 cB) := hk1.cell 1; have hlp : p.r < w1.drew.heap.size := hx1.lt; have hlk : w.heap.size < w1.drew.heap.size := hk1.lt; have HK1 := kept (fun (o : Obj) => (show Blk (w1.alloc o).drew w.heap.size 116 [.int .i64 i, .slice B 256 cB] from hk1.alloc o)); have HX1 := kept (fun (o : Obj) => (show Blk (w1.alloc o).drew p.r 111 (pgCells p P) from hx1.alloc o)); have HR1 : Hid (RdSh (w1.alloc (.cells #[.int .i64 i, .slice B 256 cB] 116)).drew (some ⟨w1.heap.size, 0, none⟩) 1 [(i, xs)]) := kept ((RdSh.one w1 i B cB xs HO1.out).below (Below.refl _ _).drew); have HDK : Hid (∀ o : Obj, Dsk (w1.alloc o).drew p.d S1) := kept (fun o => h1.out.1.below (below_ad w1 o)); have HZ : Hid (∀ (o : Obj) (W : World), Turned (w1.alloc o).drew W p.d.own → W.cell? ⟨p.r, 0, none⟩ = some (.pointer (some ⟨p.d.r, 0, none⟩)) ∧ W.cell? ⟨w.heap.size, 0, none⟩ = some (.int .i64 i) ∧ W.cell? ⟨w.heap.size, 1, none⟩ = some (.slice B 256 cB)) := kept (fun o W t => by
    have hk2 := t.blk (HK1.out o) (fun hj => (HDK.out o).own_cl (HK1.out o).cl (by decide) (by decide) hj); have hx2 := t.blk (HX1.out o) (fun hj => (HDK.out o).own_cl (HX1.out o).cl (by decide) (by decide) hj); exact ⟨hx2.cell 0, hk2.cell 0, hk2.cell 1⟩)
   clear hk1 hx1; go_wp2; refine wp_region_held_drew (S := (fun W' => W'.cell? ⟨p.r, 0, none⟩ = some (.pointer (some ⟨p.d.r, 0, none⟩)) ∧ W'.cell? ⟨w.heap.size, 0, none⟩ = some (.int .i64 i) ∧ W'.cell? ⟨w.heap.size, 1, none⟩ = some (.slice B 256 cB))) (by kernel_rfl) ?_ (fun hHeld => ?_)
   · ((try dsimp only); (with_reducible first | exact ⟨a0, b0, b1⟩ | exact HZ.out _ _ (Turned.refl _ _) | exact HZ.out _ _ (Left.t h2.out)))
   refine hT 0 (some 17) ?_; refine hT 1 (some 18) ?_; refine hT 2 (some 19) ?_; refine hT 3 (some 20) ?_; refine hT 4 (some 21) ?_; refine hR 5 (fun K hK => ?_); go_simp; refine hK.out _ _ ?_ (fun hHeld => ?_)
   · ((try dsimp only); (with_reducible first | exact ⟨a0, b0, b1⟩ | exact HZ.out _ _ (Turned.refl _ _) | exact HZ.out _ _ (Left.t h2.out)))
   clear hK K; (try simp only [Act.put, hA, h0, h1]); refine hR 6 (fun K hK => ?_); go_simp
   ((go_at_call 82; (with_reducible refine (HP2 _ _ (HDK.out _) HR1.out).out.mono ?_); rintro e w2 ⟨rfl, h2⟩))
   (try go_wp2_with fail); refine hK.out _ _ ?_ (fun hHeld => ?_)
   · ((try dsimp only); (with_reducible first | exact ⟨a0, b0, b1⟩ | exact HZ.out _ _ (Turned.refl _ _) | exact HZ.out _ _ (Left.t h2.out)))
   clear hK K; (try simp only [Act.put, hA, h0, h1]); refine hT 7 (some 6) ?_; refine wpAnyH_done (by kernel_rfl) ?_ _; go_wp2; go_ret; exact ⟨rfl, kept ⟨h2.out.1, ((Turned.of_below HB0.out _).trans h1.out.2).trans ((Turned.of_below (below_ad w1 _) _).trans h2.out.2)⟩⟩
 · rw [if_neg he]; have hb : (er != 0) = true := by simpa using he
   clear he hds; go_enter Tryz.func53, Tryz.ntmps53; go_wp2_with (first | (go_at_call 82; (with_reducible refine (HPUT.out).mono ?_); rintro e w1 ⟨rfl, h1⟩))
   go_ret; exact ⟨rfl, kept ⟨h1.out.1, (Turned.of_below HB0.out _).trans h1.out.2⟩⟩
theorem begin_any {w : World} (r fr : Nat) (v0 v1 v2 v3 v4 v5 v6 v7 v8 v9 : Value) (h : Blk w r 111 [v0, v1, v2, v3, v4, v5, v6, v7, v8, v9]) (m : Mt) (A : Option Addr) (n c : Nat) :
 Calls Tryz.prog 57 #[.pointer (some ⟨r, 0, none⟩), m.val, .slice A n c, .pointer (some ⟨fr, 0, none⟩)] w fun e w' => e = .returned (.tuple #[]) ∧
  Hid (∃ mb, w.heap.size ≤ mb ∧ Blk w' r 111 [v0, .int .u64 (m.txn : Int), .int .i64 m.root, .int .i64 m.spare, .int .i64 m.size, .slice A n c, v6, .int .i64 m.root, .pointer (some ⟨fr, 0, none⟩), .map (some mb)] ∧ Mv w' mb 1022 (fun _ => none) ∧ Turned w w' (fun j => j = r)) := by
 have hlt := h.lt; have hmm := @run_makeMap Tryz.prog; obtain ⟨t, rt, sp, z⟩ := m; have hne : r ≠ w.heap.size := by omega
 have hne2 : r ≠ w.heap.size + 1 := by omega
 have H := kept h; have c1 : w.cell? ⟨r, 1, none⟩ = some v1 := h.cell 1; have z1 := h.frozen 1; have c2 : w.cell? ⟨r, 2, none⟩ = some v2 := h.cell 2; have z2 := h.frozen 2; have c3 : w.cell? ⟨r, 3, none⟩ = some v3 := h.cell 3; have z3 := h.frozen 3; have c4 : w.cell? ⟨r, 4, none⟩ = some v4 := h.cell 4; have z4 := h.frozen 4; have c5 : w.cell? ⟨r, 5, none⟩ = some v5 := h.cell 5; have z5 := h.frozen 5; have c7 : w.cell? ⟨r, 7, none⟩ = some v7 := h.cell 7; have z7 := h.frozen 7; have c8 : w.cell? ⟨r, 8, none⟩ = some v8 := h.cell 8; have z8 := h.frozen 8; have c9 : w.cell? ⟨r, 9, none⟩ = some v9 := h.cell 9; have z9 := h.frozen 9; clear h; go_enter Tryz.func57, Tryz.ntmps57; go_wp2; have hb := (((((((H.out.set_ 1 (.int .u64 (t : Int))).set_ 2 (.int .i64 rt)).set_ 3 (.int .i64 sp)).set_ 4 (.int .i64 z)).set_ 5 (.slice A n c)).set_ 7 (.int .i64 rt)).set_ 8 (.pointer (some ⟨fr, 0, none⟩))).set_ 9 (.map (some (w.heap.size + 1))); simp only [List.set_cons_zero, List.set_cons_succ] at hb; have ht : Turned w ((((((((w.setCell ⟨r, 1, none⟩ (.int .u64 (t : Int))).setCell ⟨r, 2, none⟩ (.int .i64 rt)).setCell ⟨r, 3, none⟩ (.int .i64 sp)).setCell ⟨r, 4, none⟩ (.int .i64 z)).setCell ⟨r, 5, none⟩ (.slice A n c)).setCell ⟨r, 7, none⟩ (.int .i64 rt)).setCell ⟨r, 8, none⟩ (.pointer (some ⟨fr, 0, none⟩))).setCell ⟨r, 9, none⟩ (.map (some (w.heap.size + 1)))) (fun j => j = r) := ((((((((Turned.refl w (fun j => j = r)).setCell (fun _ => rfl) (.int .u64 (t : Int))).setCell (fun _ => rfl) (.int .i64 rt)).setCell (fun _ => rfl) (.int .i64 sp)).setCell (fun _ => rfl) (.int .i64 z)).setCell (fun _ => rfl) (.slice A n c)).setCell (fun _ => rfl) (.int .i64 rt)).setCell (fun _ => rfl) (.pointer (some ⟨fr, 0, none⟩))).setCell (fun _ => rfl) (.map (some (w.heap.size + 1))); have hs : ((((((((w.setCell ⟨r, 1, none⟩ (.int .u64 (t : Int))).setCell ⟨r, 2, none⟩ (.int .i64 rt)).setCell ⟨r, 3, none⟩ (.int .i64 sp)).setCell ⟨r, 4, none⟩ (.int .i64 z)).setCell ⟨r, 5, none⟩ (.slice A n c)).setCell ⟨r, 7, none⟩ (.int .i64 rt)).setCell ⟨r, 8, none⟩ (.pointer (some ⟨fr, 0, none⟩))).setCell ⟨r, 9, none⟩ (.map (some (w.heap.size + 1)))).heap.size = w.heap.size := by simp [World.setCell]
 generalize ((((((((w.setCell ⟨r, 1, none⟩ (.int .u64 (t : Int))).setCell ⟨r, 2, none⟩ (.int .i64 rt)).setCell ⟨r, 3, none⟩ (.int .i64 sp)).setCell ⟨r, 4, none⟩ (.int .i64 z)).setCell ⟨r, 5, none⟩ (.slice A n c)).setCell ⟨r, 7, none⟩ (.int .i64 rt)).setCell ⟨r, 8, none⟩ (.pointer (some ⟨fr, 0, none⟩))).setCell ⟨r, 9, none⟩ (.map (some (w.heap.size + 1)))) = X at hb ht hs ⊢
 go_end0
 refine ⟨rfl, kept ⟨w.heap.size + 1, by omega, (hb.alloc _).alloc _, ?_, (ht.alloc _).alloc _⟩⟩; have hm := (Mv.made (X.alloc (.cells #[.int .u64 (t : Int), .int .i64 rt, .int .i64 sp, .int .i64 z] 109))).mono (k' := 1022) (by omega); rw [World.size_alloc, hs] at hm; exact hm
theorem give_in {s : FSt} {x : Int} (hx : 2 ≤ x ∧ x < s.z) (hH : s.H = []) : s.give x = { s with S := addI x s.S } := by
 unfold FSt.give FSt.may; rw [if_pos hx, hH]; by_cases h : x ∈ s.S
 · simp only [h, true_or, if_true]; rw [if_neg (by decide)]; unfold addI; rw [if_pos h]; cases s; simp at hH; simp [hH]
 · simp [h]
theorem giveAll_is (s : FSt) (hH : s.H = []) : ∀ C : List Int, (∀ x ∈ C, 2 ≤ x ∧ x < s.z) → giveAll s C = { s with S := addAll s.S C }
 | [], _ => by cases s; rfl
 | x :: r, h => by
   have h1 := give_in (h x (List.mem_cons_self ..)) hH; show giveAll (s.give x) r = _; rw [h1, giveAll_is { s with S := addI x s.S } hH r (fun y hy => h y (List.mem_cons_of_mem _ hy))]; rfl
theorem settleL_is {P : PSt} (hc : ∀ x ∈ P.chain, 2 ≤ x ∧ x < P.L.z) : settleL P = ⟨P.L.z, addAll (addAll (P.L.S.drop (needN (P.L.S.length + P.L.H.length + P.chain.length))) P.L.H) P.chain, []⟩ := by
 unfold settleL; exact (giveAll_is (FSt.settle { P.L with S := P.L.S.drop (needN (P.L.S.length + P.L.H.length + P.chain.length)) }) rfl P.chain hc).trans rfl
theorem mem_settleL {P : PSt} (hc : ∀ x ∈ P.chain, 2 ≤ x ∧ x < P.L.z) (x : Int) : x ∈ (settleL P).S ↔ x ∈ P.L.S.drop (needN (P.L.S.length + P.L.H.length + P.chain.length)) ∨ x ∈ P.L.H ∨ x ∈ P.chain := by
 rw [settleL_is hc]; show x ∈ addAll _ _ ↔ _; rw [mem_addAll, mem_addAll, or_assoc]
def nextM (P : PSt) : Mt := ⟨P.M.txn + 1, P.root, headN (settleC P), P.M.size⟩
def nextP (P : PSt) : PSt := ⟨nextM P, settleC P, P.root, settleL P, fun _ => none⟩
theorem nextP_ok {P : PSt} {z : Nat} (h : P.ok z) (hl : P.L.ok) (ht : P.M.txn + 1 < 18446744073709551616) : (nextP P).ok z := by
 have hc : ∀ x ∈ P.chain, 2 ≤ x ∧ x < P.L.z := fun x hx => by rw [h.lz]; exact h.cb x hx
 have hri : Rising P.L.S := hl.2.2.1; have hnd : P.L.S.Nodup := hri.imp fun h => by omega
 have htk : ∀ x ∈ settleC P, x ∈ P.L.S := fun x hx => List.mem_of_mem_take hx
 have hS : ∀ x ∈ P.L.S, 2 ≤ x ∧ x < (z : Int) := fun x hx => by have := hl.2.2.2.2.1 x hx; rw [h.lz] at this; exact this
 refine ⟨?_, h.mz, ht, hnd.sublist (List.take_sublist _ _), fun x hx => hS x (htk x hx), fun x hx => ⟨fun hm => ?_, fun hm => ?_⟩, fun x hx hm => ?_, fun x bs e => by cases e⟩
 · show (settleL P).z = _; rw [settleL_is hc]; exact h.lz
 · rcases (mem_settleL hc x).1 hm with h1 | h1 | h1
   · have h2 : x ∈ P.L.S.take (needN (P.L.S.length + P.L.H.length + P.chain.length)) := hx; have h3 := List.take_append_drop (needN (P.L.S.length + P.L.H.length + P.chain.length)) P.L.S; rw [← h3, List.nodup_append] at hnd; exact hnd.2.2 x h2 x h1 rfl
   · exact h.sh x (htk x hx) h1
   · exact (h.cs x h1).1 (htk x hx)
 · have : x ∈ (settleL P).H := hm; rw [settleL_is hc] at this; cases this
 · have : x ∈ (settleL P).H := hm; rw [settleL_is hc] at this; cases this
def openE (S : St) : Int :=
 if (chooseM (S.page 0) (S.page 1)).2 ≠ 0 then (chooseM (S.page 0) (S.page 1)).2
 else if (chooseM (S.page 0) (S.page 1)).1.size ≠ (S.pages.length : Int) then 4
 else if (rchain S 1100 (chooseM (S.page 0) (S.page 1)).1.spare [] []).1 ≠ 0 then (rchain S 1100 (chooseM (S.page 0) (S.page 1)).1.spare [] []).1
 else if newErr (chooseM (S.page 0) (S.page 1)).1.size ((rchain S 1100 (chooseM (S.page 0) (S.page 1)).1.spare [] []).2.1 ++ (rchain S 1100 (chooseM (S.page 0) (S.page 1)).1.spare [] []).2.2) ≠ 0 then 4 else 0
def openS (S : St) : PSt :=
 ⟨(chooseM (S.page 0) (S.page 1)).1, (rchain S 1100 (chooseM (S.page 0) (S.page 1)).1.spare [] []).2.1, (chooseM (S.page 0) (S.page 1)).1.root,
   ⟨(chooseM (S.page 0) (S.page 1)).1.size, addAll [] (rchain S 1100 (chooseM (S.page 0) (S.page 1)).1.spare [] []).2.2, []⟩, fun _ => none⟩
theorem choose_txn (xs ys : List UInt8) : (chooseM xs ys).1.txn < 18446744073709551616 := by
 have h : ∀ (zs : List UInt8) (k : Int), (standM zs k).1.txn < 18446744073709551616 := fun zs k => by
  unfold standM
  split
  · exact decM_txn zs
  · show (0 : Nat) < _; omega
 unfold chooseM
 split
 · exact h ys 1
 · split
   · exact h xs 0
   · show (0 : Nat) < _; omega
theorem openE_zero {S : St} (h : openE S = 0) : (chooseM (S.page 0) (S.page 1)).2 = 0 ∧ (chooseM (S.page 0) (S.page 1)).1.size = (S.pages.length : Int) ∧ (rchain S 1100 (chooseM (S.page 0) (S.page 1)).1.spare [] []).1 = 0 ∧
 newErr (S.pages.length : Int) ((rchain S 1100 (chooseM (S.page 0) (S.page 1)).1.spare [] []).2.1 ++ (rchain S 1100 (chooseM (S.page 0) (S.page 1)).1.spare [] []).2.2) = 0 := by
 unfold openE at h
 split at h
 · contradiction
 · rename_i h1
   split at h
   · omega
   · rename_i h2
     split at h
     · contradiction
     · rename_i h3
       split at h
       · omega
       · rename_i h4
         have h2 := Classical.not_not.1 h2; rw [h2] at h4; exact ⟨Classical.not_not.1 h1, h2, Classical.not_not.1 h3, Classical.not_not.1 h4⟩
theorem openS_ok {S : St} (h : openE S = 0) : (openS S).ok S.pages.length := by
 obtain ⟨h1, h2, h3, h4⟩ := openE_zero h; obtain ⟨hz, hb, hn⟩ := newErr_zero h4; rw [List.nodup_append] at hn; refine ⟨h2, h2, choose_txn _ _, hn.1, fun x hx => hb x (List.mem_append_left _ hx), fun x hx => ⟨fun hm => ?_, fun hm => (by cases hm)⟩, fun x _ hm => (by cases hm), fun x bs e => (by cases e)⟩; have hm : x ∈ addAll [] (rchain S 1100 (chooseM (S.page 0) (S.page 1)).1.spare [] []).2.2 := hm; rcases mem_addAll.1 hm with hm | hm
 · cases hm
 · exact hn.2.2 x hx x hm rfl
theorem concat2 (W : World) (g : Nat) (A B : Option Addr) (n c m d : Nat) (C I : List Int) (h0 : W.cell? ⟨g, 0, none⟩ = some (.slice A n c)) (h1 : W.cell? ⟨g, 1, none⟩ = some (.slice B m d)) (r0 : RdI W A n C) (r1 : RdI W B m I) (hl : C.length + I.length ≤ 100000) :
 Calls Tryz.prog 62 #[.slice (some ⟨g, 0, none⟩) 2 2] W fun e w' => ∃ A' c', e = .returned (.slice A' (n + m) c') ∧ Hid (Says W w' (C ++ I) A' c') := by
 have e : catI (fun k => if k = 0 then C else I) 2 = C ++ I := by simp [catI]
 have hc : C.length = n := r0.1; have hi : I.length = m := r1.1; have h := concat_any_i g 2 (fun k => if k = 0 then A else B) (fun k => if k = 0 then c else d) (fun k => if k = 0 then C else I) W (fun k hk => by
  rcases (show k = 0 ∨ k = 1 by omega) with rfl | rfl
  · show W.cell? ⟨g, 0, none⟩ = some (.slice A C.length c) ∧ RdI W A C.length C; rw [hc]; exact ⟨h0, r0⟩
  · show W.cell? ⟨g, 1, none⟩ = some (.slice B I.length d) ∧ RdI W B I.length I; rw [hi]; exact ⟨h1, r1⟩) (by omega) (by rw [e, List.length_append]; omega)
 rw [e] at h; refine h.mono ?_; rintro e' w' ⟨A', c', rfl, hs⟩; rw [List.length_append, hc, hi]; exact ⟨A', c', rfl, hs⟩
theorem open_ok (d : Dk) (S : St) (w : World) (h : Dsk w d S) (hf : S.fuse ≠ 0) (hF : Fours w) (hE : openE S = 0) :
 Calls Tryz.prog 16 #[.pointer (some ⟨d.r, 0, none⟩)] w fun e w' => ∃ p : Pgl, e = .returned (.tuple #[.pointer (some ⟨p.r, 0, none⟩), .int .i64 0]) ∧ Hid (p.d = d ∧ Pgr w' p (openS S) S ∧ Below w.heap.size w w' ∧ ∀ j, p.own j → w.heap.size ≤ j) := by
 have H := kept h; obtain ⟨h1, h2, h3, h4⟩ := openE_zero hE; have HOK := kept (openS_ok hE); have HNW := kept (newest_any d S w h hf hF); have HOS : Hid (openS S = ⟨(chooseM (S.page 0) (S.page 1)).1, (rchain S 1100 (chooseM (S.page 0) (S.page 1)).1.spare [] []).2.1, (chooseM (S.page 0) (S.page 1)).1.root, ⟨(chooseM (S.page 0) (S.page 1)).1.size, addAll [] (rchain S 1100 (chooseM (S.page 0) (S.page 1)).1.spare [] []).2.2, []⟩, fun _ => none⟩) := rfl; generalize openS S = O at HOK HOS ⊢; generalize chooseM (S.page 0) (S.page 1) = D at h1 h2 h3 h4 HNW HOS; obtain ⟨⟨t, rt, sp, sz⟩, er⟩ := D; simp only at h1 h2 h3 h4 HNW HOS; subst h1; have HRC := kept (fun (W : World) (hb : Below w.heap.size w W) => readChain_any d S sp W (h.below hb) hf (hF.below hb)); generalize rchain S 1100 sp [] [] = R at h3 h4 HRC HOS; obtain ⟨er, C, I⟩ := R; simp only at h3 h4 HRC HOS; subst h3; obtain ⟨z, hz⟩ : ∃ z, S.pages.length = z := ⟨_, rfl⟩
 have HSZ := kept (fun (W : World) (hb : Below w.heap.size w W) => size_any d S W (h.below hb)); have HZ := kept hz; rw [hz] at h2 h4 HSZ; subst h2; have hnz := newErr_zero h4; have HNZ := kept hnz; have hz1024 : z ≤ 1024 := by have := h.1.2.1; omega
 have hlen : C.length + I.length ≤ 1022 := by
  have := nodup_short (z := z) hnz.2.2 hnz.2.1 hz1024
  rwa [List.length_append] at this
 have HN2 : Hid (newErr (z : Int) I = 0) := kept (by
  unfold newErr; rw [if_neg (by omega), if_pos (List.all_eq_true.2 (fun x hx => by have := hnz.2.1 x (List.mem_append_right _ hx); simp [finB]; omega)), if_pos ((List.nodup_append.1 hnz.2.2).2.1)])
 have HN4 := kept h4; clear h hf hF hE h4 hz hnz; go_enter Tryz.func16, Tryz.ntmps16; go_wp2_with fail
 with_reducible refine HNW.out.mono ?_
 rintro e w1 ⟨rfl, hb1⟩; have HB1 := kept hb1; clear hb1 HNW; go_wp2; have HM2 : Hid (Blk (w1.alloc (.cells #[.int .u64 (t : Int), .int .i64 rt, .int .i64 sp, .int .i64 (z : Int)] 109)) w1.heap.size 109 [.int .u64 (t : Int), .int .i64 rt, .int .i64 sp, .int .i64 (z : Int)]) := kept (Blk.new w1 109 #[.int .u64 (t : Int), .int .i64 rt, .int .i64 sp, .int .i64 (z : Int)]); have HB2 : Hid (Below w.heap.size w (w1.alloc (.cells #[.int .u64 (t : Int), .int .i64 rt, .int .i64 sp, .int .i64 (z : Int)] 109))) := kept (HB1.out.alloc HB1.out.size _); generalize (w1.alloc (.cells #[.int .u64 (t : Int), .int .i64 rt, .int .i64 sp, .int .i64 (z : Int)] 109)) = W2 at HM2 HB2 ⊢; have d3 : W2.drew.cell? ⟨w1.heap.size, 3, none⟩ = some (.int .i64 (z : Int)) := HM2.out.cell 3; have d2 : W2.drew.cell? ⟨w1.heap.size, 2, none⟩ = some (.int .i64 sp) := HM2.out.cell 2; have HSZ2 := kept (HSZ.out W2.drew HB2.out.drew); have HRC2 := kept (HRC.out W2.drew HB2.out.drew); clear HRC HSZ; refine wp_region_held_drew (S := (fun W' => W'.cell? ⟨w1.heap.size, 3, none⟩ = some (.int .i64 (z : Int)))) (by kernel_rfl) ?_ (fun hHeld => ?_)
 · ((try dsimp only); (with_reducible exact d3))
 refine hT 0 (some 21) ?_; refine hT 1 (some 22) ?_; refine hT 2 (some 23) ?_; refine hR 3 (fun K hK => ?_); go_simp
 ((go_at_call 59; (with_reducible refine HSZ2.out.mono ?_); rintro e w3 ⟨rfl, rfl⟩))
 (try go_wp2_with fail); refine hK.out _ _ ?_ (fun hHeld => ?_)
 · ((try dsimp only); (with_reducible exact d3))
 clear hK K; (try simp only [Act.put, hA, h0, h1]); refine hT 4 (some 25) ?_; refine wpAnyH_done (by kernel_rfl) ?_ _; go_wp2_with (first | (go_at_call 60; (with_reducible refine HRC2.out.mono ?_); rintro e w3 ⟨A, n, c, B, m, c', rfl, h3⟩))
 have HT := kept h3.out; clear h3 HRC2 HSZ2; have hn : n + m ≤ 1022 := by have h1 := HT.out.ca.1; have h2 := HT.out.ib.1; omega
 have HB3 : Hid (Below w.heap.size w w3) := kept (HB2.out.trans ((below_from_drew HT.out.below).mono HB2.out.size)); have HM3 := kept (HM2.out.below (below_from_drew HT.out.below) HM2.out.lt); have d3' : w3.drew.cell? ⟨w1.heap.size, 3, none⟩ = some (.int .i64 (z : Int)) := HM3.out.cell 3; have HMW : Hid (∀ W : World, Below w3.heap.size w3 W → W.cell? ⟨w1.heap.size, 3, none⟩ = some (.int .i64 (z : Int))) := kept (fun W hb => (HM3.out.below hb HM3.out.lt).cell 3); have HCC : Hid (Calls Tryz.prog 62 #[.slice (some ⟨w3.heap.size, 0, none⟩) 2 2] (w3.alloc (.cells #[.slice A n c, .slice B m c'] 60)).drew fun e w' => ∃ A' c'', e = .returned (.slice A' (n + m) c'') ∧ Hid (Says (w3.alloc (.cells #[.slice A n c, .slice B m c'] 60)).drew w' (C ++ I) A' c'')) := kept (by
  have hb := below_ad w3 (.cells #[.slice A n c, .slice B m c'] 60); have hk : Blk (w3.alloc (.cells #[.slice A n c, .slice B m c'] 60)).drew w3.heap.size 60 [.slice A n c, .slice B m c'] := (show Blk _ _ _ _ from Blk.new w3 60 #[.slice A n c, .slice B m c'])
  exact concat2 _ w3.heap.size A B n c m c' C I (hk.cell 0) (hk.cell 1) (HT.out.ca.below hb).reads (HT.out.ib.below hb).reads (by omega))
 refine wp_region_held_drew (S := (fun W' => W'.cell? ⟨w1.heap.size, 3, none⟩ = some (.int .i64 (z : Int)))) (by kernel_rfl) ?_ (fun hHeld => ?_)
 · ((try dsimp only); (with_reducible first | exact d3' | exact HMW.out _ (below_ad _ _) | exact HMW.out _ HB4.out | exact HMW.out _ HB5.out))
 refine hT 0 (some 38) ?_; refine hT 1 (some 39) ?_; refine hT 2 (some 40) ?_; refine hT 3 (some 41) ?_; refine hR 4 (fun K hK => ?_); go_simp; refine hK.out _ _ ?_ (fun hHeld => ?_)
 · ((try dsimp only); (with_reducible first | exact d3' | exact HMW.out _ (below_ad _ _) | exact HMW.out _ HB4.out | exact HMW.out _ HB5.out))
 clear hK K; (try simp only [Act.put, hA, h0, h1]); refine hR 5 (fun K hK => ?_); go_simp
 ((go_at_call 62; (with_reducible refine HCC.out.mono ?_); rintro e w4 ⟨A4, c4, rfl, h4⟩); have HB4 : Hid (Below w3.heap.size w3 w4) := kept ((below_ad w3 _).trans (h4.out.2.1.mono (below_ad w3 _).size)); have hl4 : (C ++ I).length = n + m := (by rw [List.length_append, HT.out.ca.1, HT.out.ib.1]); have HNG : Hid (Calls Tryz.prog 61 #[.int .i64 (z : Int), .slice A4 (n + m) c4] w4 fun e w' => ∃ f : Fl, e = .returned (.tuple #[.pointer (some ⟨f.r, 0, none⟩), .int .i64 0]) ∧ Hid (Lst w' f ⟨(z : Int), addAll [] (C ++ I), []⟩ ∧ Below w4.heap.size w4 w' ∧ ∀ j, f.own j → w4.heap.size ≤ j)) := kept (fnew_good (z : Int) A4 (n + m) c4 (C ++ I) w4 (by rw [← hl4]; exact h4.out.1.reads) (by omega) HN4.out))
 (try go_wp2_with fail); refine hK.out _ _ ?_ (fun hHeld => ?_)
 · ((try dsimp only); (with_reducible first | exact d3' | exact HMW.out _ (below_ad _ _) | exact HMW.out _ HB4.out | exact HMW.out _ HB5.out))
 clear hK K; (try simp only [Act.put, hA, h0, h1]); refine hR 6 (fun K hK => ?_); go_simp
 ((go_at_call 61; (with_reducible refine HNG.out.mono ?_); rintro e w5 ⟨f5, rfl, h5⟩); have HB5 : Hid (Below w3.heap.size w3 w5) := kept (HB4.out.trans (h5.out.2.1.mono HB4.out.size)))
 (try go_wp2_with fail); refine hK.out _ _ ?_ (fun hHeld => ?_)
 · ((try dsimp only); (with_reducible first | exact d3' | exact HMW.out _ (below_ad _ _) | exact HMW.out _ HB4.out | exact HMW.out _ HB5.out))
 clear hK K; (try simp only [Act.put, hA, h0, h1]); refine hT 7 (some 37) ?_; refine hT 8 (some 45) ?_; refine hT 9 (some 46) ?_; refine hT 10 (some 8) ?_; refine hT 11 (some 9) ?_; refine wpAnyH_done (by kernel_rfl) ?_ _; have HT5 := kept (HT.out.on HB5.out); have HM5 := kept (HM3.out.below HB5.out HM3.out.lt); have d35 : w5.cell? ⟨w1.heap.size, 3, none⟩ = some (.int .i64 (z : Int)) := HM5.out.cell 3; have HN5 := kept (fnew_good (z : Int) B m c' I w5 HT5.out.ib.reads (by omega) HN2.out); go_wp2_with (first | (go_at_call 61; (with_reducible refine HN5.out.mono ?_); rintro e w6 ⟨f6, rfl, h6⟩; have hm6 := HM5.out.below h6.out.2.1 HM5.out.lt; have y0 : w6.cell? ⟨w1.heap.size, 0, none⟩ = some (.int .u64 (t : Int)) := hm6.cell 0; have y1 : w6.cell? ⟨w1.heap.size, 1, none⟩ = some (.int .i64 rt) := hm6.cell 1; have y2 : w6.cell? ⟨w1.heap.size, 2, none⟩ = some (.int .i64 sp) := hm6.cell 2; have y3 : w6.cell? ⟨w1.heap.size, 3, none⟩ = some (.int .i64 (z : Int)) := hm6.cell 3; have hlt6 := hm6.lt; clear hm6))
 have HK6 := kept (Blk.new w6 111 #[.pointer (some ⟨d.r, 0, none⟩), .int .u64 0, .int .i64 0, .int .i64 0, .int .i64 0, .slice none 0 0, .bool false, .int .i64 0, .pointer none, .map none]); have HBG := kept (begin_any w6.heap.size f6.r _ _ _ _ _ _ _ _ _ _ HK6.out ⟨t, rt, sp, (z : Int)⟩ A n c); go_wp2_with (first | (go_at_call 57; (with_reducible refine HBG.out.mono ?_); rintro e w7 ⟨rfl, h7⟩))
 go_ret2; obtain ⟨mb, hmb, hbk, hmv, ht7⟩ := h7.out; have hb6 : Below w3.heap.size w3 w6 := HB5.out.trans (h6.out.2.1.mono HB5.out.size); have hbw6 : Below w.heap.size w w6 := HB3.out.trans (hb6.mono HB3.out.size); have hbA := hbw6.alloc hbw6.size (.cells #[.pointer (some ⟨d.r, 0, none⟩), .int .u64 0, .int .i64 0, .int .i64 0, .int .i64 0, .slice none 0 0, .bool false, .int .i64 0, .pointer none, .map none] 111); have hTA := (HT.out.on hb6).on ((Below.refl w6.heap.size w6).alloc (Nat.le_refl _) (.cells #[.pointer (some ⟨d.r, 0, none⟩), .int .u64 0, .int .i64 0, .int .i64 0, .int .i64 0, .slice none 0 0, .bool false, .int .i64 0, .pointer none, .map none] 111)); have hLA := h6.out.1.below ((Below.refl w6.heap.size w6).alloc (Nat.le_refl _) (.cells #[.pointer (some ⟨d.r, 0, none⟩), .int .u64 0, .int .i64 0, .int .i64 0, .int .i64 0, .slice none 0 0, .bool false, .int .i64 0, .pointer none, .map none] 111)); have hDA := H.out.below hbA; have hKA := HK6.out; have hCn := HT.out.ca.1; have hTl := HT.out.ca; have hw36 : w3.heap.size ≤ w5.heap.size := HB5.out.size; have hcA : ∀ g, blkOf A = some g → g < w3.heap.size := fun g hg => HT.out.ca.lt hg
 have hcN : ∀ g, blkOf A = some g → w.heap.size ≤ g := fun g hg => Nat.le_trans HB2.out.size (HT.out.an g hg)
 have hf6 := h6.out.2.2; generalize (w6.alloc (.cells #[.pointer (some ⟨d.r, 0, none⟩), .int .u64 0, .int .i64 0, .int .i64 0, .int .i64 0, .slice none 0 0, .bool false, .int .i64 0, .pointer none, .map none] 111)) = W6 at hbA hTA hLA hDA hKA hmb ht7; refine ⟨⟨w6.heap.size, d, A, c, f6, mb, fun _ => none⟩, rfl, kept ⟨rfl, ⟨HOK.out, ?_, hDA.turned ht7 (fun i hi e => hDA.own_cl hKA.cl (by decide) (by decide) (e ▸ hi)), ?_, ?_, ?_, fun g hg hfo => ?_, fun e => ?_⟩, ht7.only_new hbA hbA.size (fun i hi => by rw [hi]; exact hbw6.size), fun j hj => ?_⟩⟩
 · rw [HOS.out]; show Blk w7 w6.heap.size _ [.pointer (some ⟨d.r, 0, none⟩), .int .u64 (t : Int), .int .i64 rt, .int .i64 sp, .int .i64 (z : Int), .slice A C.length c, .bool false, .int .i64 rt, .pointer (some ⟨f6.r, 0, none⟩), .map (some mb)]; rw [hCn]; exact hbk
 · rw [HOS.out]; show OwI w7 A C.length c C; rw [hCn]; exact hTA.ca.turned ht7 (fun g hg e => absurd ((hTA.ca.cl hg).uniq (e ▸ hKA.cl)) (by decide))
 · rw [HOS.out]; refine hLA.turned ht7 (fun j hj e => ?_); rcases hLA.own_cl hj with hc | hc <;> exact absurd (hc.uniq (e ▸ hKA.cl)) (by decide)
 · rw [HOS.out]; exact ⟨hmv, AdV.empty _⟩
 · have h1 := hcA g hg; have h2 := hf6 g hfo; omega
 · have h1 := hDA.lt d.m (.inr (.inr rfl)); have h2 : mb = d.m := e; omega
 · rcases hj with hj | hj | hj | hj
   · rw [hj]; exact hbw6.size
   · exact hcN j hj
   · have h1 := hf6 j hj; have h2 := HB3.out.size; omega
   · have h1 := hbA.size; have h2 : j = mb := hj; omega
end Go.Proofs.YtcapcobkildmcaaGreatDoor
end
