/- Qh Qi Qj Qk Qs Qm Qn Qo Qp Qt Qq Qr -/
import Derived.Test.YtblbhhijddcbeaaGreatDoorBQg
import Derived.Test.YtblbhhijddcbeaaGreatDoorBQf
import Derived.Test.YtblbhhijddcbeaaGreatDoorBQd
import Derived.Test.YtblbhhijddcbeaaGreatDoorBFm
import Derived.BigQuiet
import Derived.Test.YtblbhhijddcbeaaGreatDoorBRp
import Derived.Test.YtblbhhijddcbeaaGreatDoorBQb
import Derived.Test.YtblbhhijddcbeaaGreatDoorBMf
import Derived.Test.YtblbhhijddcbeaaGreatDoorBHnd
section
namespace Go.Proofs.YtblbhhijddcbeaaGreatDoor
open Go.ChangeShapes Go.WideShapes Go.ChangeAt Go.RowKit
set_option linter.unusedVariables false
set_option linter.unusedSimpArgs false
set_option maxRecDepth 100000
set_option maxHeartbeats 16000000
structure PSt where
 M : Mt
 chain : List Int
 root : Int
 L : FSt
 add : Adds
structure Pgl where
 r : Nat
 d : Dk
 Ac : Option Addr
 cc : Nat
 f : Fl
 m : Nat
 V : Int → Option Value
def Pgl.own (p : Pgl) (j : Nat) : Prop := j = p.r ∨ blkOf p.Ac = some j ∨ p.f.own j ∨ j = p.m
def Pgl.all (p : Pgl) (j : Nat) : Prop := p.own j ∨ p.d.own j
structure PSt.ok (P : PSt) (z : Nat) : Prop where
 lz : P.L.z = (z : Int)
 mz : P.M.size = (z : Int)
 tx : P.M.txn < 18446744073709551616
 cn : P.chain.Nodup
 cb : ∀ x ∈ P.chain, 2 ≤ x ∧ x < (z : Int)
 cs : ∀ x ∈ P.chain, x ∉ P.L.S ∧ x ∉ P.L.H
 sh : ∀ x ∈ P.L.S, x ∉ P.L.H
 ab : ∀ x bs, P.add x = some bs → 2 ≤ x ∧ x < (z : Int) ∧ x ∉ P.chain ∧ x ∉ P.L.S ∧ x ∉ P.L.H ∧ bs.length = 256
abbrev pgCells (p : Pgl) (P : PSt) : List Value := [.pointer (some ⟨p.d.r, 0, none⟩), .int .u64 (P.M.txn : Int), .int .i64 P.M.root, .int .i64 P.M.spare, .int .i64 P.M.size, .slice p.Ac P.chain.length p.cc, .bool false, .int .i64 P.root, .pointer (some ⟨p.f.r, 0, none⟩), .map (some p.m)]
structure Pgr (w : World) (p : Pgl) (P : PSt) (S : St) : Prop where
 ok : P.ok S.pages.length
 blk : Blk w p.r 90 (pgCells p P)
 dsk : Dsk w p.d S
 chn : OwI w p.Ac P.chain.length p.cc P.chain
 lst : Lst w p.f P.L
 adm : AdM w p.m p.V P.add
 cf : ∀ g, blkOf p.Ac = some g → ¬ p.f.own g
 md : p.m ≠ p.d.m
def PLeft (w w' : World) (p : Pgl) (P : PSt) (S : St) : Prop := ∃ p' : Pgl, p'.r = p.r ∧ p'.d = p.d ∧ Pgr w' p' P S ∧ Turned w w' p.all ∧ ∀ j, p'.own j → p.own j ∨ w.heap.size ≤ j
theorem OwI.cl {w : World} {A : Option Addr} {n c : Nat} {Z : List Int} (h : OwI w A n c Z) {g : Nat} (hg : blkOf A = some g) : Cl w g 3 := by
 rcases h.form with ⟨rfl, _⟩ | ⟨g', cur, rfl, hh, _⟩
 · cases hg
 · cases hg; exact ⟨_, _, hh⟩
theorem Lst.own_cl {w : World} {f : Fl} {s : FSt} (h : Lst w f s) {j : Nat} (hj : f.own j) : Cl w j 181 ∨ Cl w j 3 := by
 rcases hj with rfl | hj | hj
 · exact .inl h.2.1.cl
 · exact .inr (h.2.2.1.cl hj)
 · exact .inr (h.2.2.2.1.cl hj)
theorem Mv.not_cl {w : World} {m k : Nat} {f : Int → Option Value} (h : Mv w m k f) {t : TypeId} (hc : Cl w m t) : False := by
 obtain ⟨es, cl, h⟩ := h.kind; obtain ⟨cs, q, hc⟩ := hc; rw [h] at hc; cases hc
section
variable {w w' : World} {p : Pgl} {P : PSt} {S : St}
theorem Pgr.not_own (h : Pgr w p P S) {b : Nat} {t : TypeId} (hb : Cl w b t) (h1 : t ≠ 90) (h2 : t ≠ 3) (h3 : t ≠ 181) : ¬ p.own b := by
 rintro (rfl | hj | hj | rfl)
 · exact h1 (hb.uniq h.blk.cl)
 · exact h2 (hb.uniq (h.chn.cl hj))
 · rcases h.lst.own_cl hj with hc | hc
   · exact h3 (hb.uniq hc)
   · exact h2 (hb.uniq hc)
 · exact h.adm.1.not_cl hb
theorem Pgr.not_all (h : Pgr w p P S) {b : Nat} {t : TypeId} (hb : Cl w b t) (h1 : t ≠ 90) (h2 : t ≠ 3) (h3 : t ≠ 181) (h4 : t ≠ 115) (h5 : t ≠ 117) : ¬ p.all b := by
 rintro (hj | hj)
 · exact h.not_own hb h1 h2 h3 hj
 · exact h.dsk.own_cl hb h4 h5 hj
theorem Pgr.lt (h : Pgr w p P S) {j : Nat} (hj : p.own j) : j < w.heap.size := by
 rcases hj with rfl | hj | hj | rfl
 · exact h.blk.lt
 · exact h.chn.lt hj
 · exact h.lst.lt hj
 · exact h.adm.1.lt
theorem Pgr.lt_all (h : Pgr w p P S) {j : Nat} (hj : p.all j) : j < w.heap.size := by
 rcases hj with hj | hj
 · exact h.lt hj
 · exact h.dsk.lt j hj
theorem Pgr.d_own (h : Pgr w p P S) {j : Nat} (hj : p.d.own j) : ¬ p.own j := by
 rintro (rfl | hk | hk | rfl)
 · exact h.dsk.own_cl h.blk.cl (by decide) (by decide) hj
 · exact h.dsk.own_cl (h.chn.cl hk) (by decide) (by decide) hj
 · rcases h.lst.own_cl hk with hc | hc <;> exact h.dsk.own_cl hc (by decide) (by decide) hj
 · rcases hj with e | e | e
   · exact h.adm.1.not_cl (e ▸ h.dsk.2.1.cl)
   · obtain ⟨cur, hg, _⟩ := h.dsk.2.2.1; exact h.adm.1.not_cl (e ▸ (⟨_, _, hg⟩ : Cl w p.d.g _))
   · exact h.md e
theorem Pgr.f_r (h : Pgr w p P S) : ¬ p.f.own p.r := fun hj => by
 rcases h.lst.own_cl hj with hc | hc
 · exact absurd (hc.uniq h.blk.cl) (by decide)
 · exact absurd (hc.uniq h.blk.cl) (by decide)
theorem Pgr.f_m (h : Pgr w p P S) : ¬ p.f.own p.m := fun hj => by
 rcases h.lst.own_cl hj with hc | hc <;> exact h.adm.1.not_cl hc
theorem Pgr.same (h : Pgr w p P S) {T : Nat → Prop} (t : Turned w w' T) (hn : ∀ j, p.all j → ¬ T j) (hu : ∀ b, Cl w b 5 → ¬ T b) : Pgr w' p P S where
 ok := h.ok
 blk := (t.block _ h.blk.lt (hn _ (.inl (.inl rfl)))).trans h.blk
 dsk := h.dsk.turned t fun i hi => hn i (.inr hi)
 chn := h.chn.turned t fun g hg => hn g (.inl (.inr (.inl hg)))
 lst := h.lst.turned t fun g hg => hn g (.inl (.inr (.inr (.inl hg))))
 adm := ⟨h.adm.1.keep (t.block _ h.adm.1.lt (hn _ (.inl (.inr (.inr (.inr rfl)))))), h.adm.2.turned t hu⟩
 cf := h.cf
 md := h.md
theorem Pgr.below (h : Pgr w p P S) (hb : Below w.heap.size w w') : Pgr w' p P S := h.same (Turned.of_below hb (fun _ => False)) (fun _ _ h => h) (fun _ _ h => h)
theorem Pgr.drewN (h : Pgr w p P S) (q : Nat) : Pgr (w.drewN q) p P S := ⟨h.ok, h.blk, h.dsk, h.chn, h.lst, h.adm, h.cf, h.md⟩
theorem Pgr.c (h : Pgr w p P S) (i : Nat) : w.cell? ⟨p.r, i, none⟩ = (pgCells p P)[i]? := h.blk.cell i
theorem Pgr.left_self (h : Pgr w p P S) : PLeft w w p P S := ⟨p, rfl, rfl, h, Turned.refl _ _, fun _ hj => .inl hj⟩
end
section
variable {w : World} {p : Pgl} {P : PSt} {S : St}
theorem palive_any (h : Pgr w p P S) : Calls Tryz.prog 37 #[.pointer (some ⟨p.r, 0, none⟩)] w fun e w' => e = .returned (.int .i64 0) ∧ w = w' := by
 have c6 : w.cell? ⟨p.r, 6, none⟩ = some (.bool false) := h.c 6; clear h; go_enter Tryz.func37, Tryz.ntmps37; go_wp2; go_ret; exact ⟨rfl, rfl⟩
theorem reaches_any (h : Pgr w p P S) (id er : Int) (he : (if finB P.M.size id then 0 else 2) = er) : Calls Tryz.prog 192 #[.pointer (some ⟨p.r, 0, none⟩), .int .i64 id] w fun e w' => e = .returned (.int .i64 er) ∧ w = w' := by
 have HA := kept (palive_any h); have c4 : w.cell? ⟨p.r, 4, none⟩ = some (.int .i64 P.M.size) := h.c 4; have HB := kept (pInBounds_any id P.M.size w); clear h; cases hb : finB P.M.size id with
 | true =>
   rw [hb] at he HB; simp only [if_true] at he; subst he; go_enter Tryz.func192, Tryz.ntmps192; go_wp2_with (first | (go_at_call 37; (with_reducible refine (HA.out).mono ?_); rintro e w1 ⟨rfl, rfl⟩) | (go_at_call 83; (with_reducible refine (HB.out).mono ?_); rintro e w1 ⟨rfl, rfl⟩))
   go_ret; exact ⟨rfl, rfl⟩
 | false =>
   rw [hb] at he HB; simp only [Bool.false_eq_true, if_false] at he; subst he; go_enter Tryz.func192, Tryz.ntmps192; go_wp2_with (first | (go_at_call 37; (with_reducible refine (HA.out).mono ?_); rintro e w1 ⟨rfl, rfl⟩) | (go_at_call 83; (with_reducible refine (HB.out).mono ?_); rintro e w1 ⟨rfl, rfl⟩))
   go_ret; exact ⟨rfl, rfl⟩
theorem pspare_any (h : Pgr w p P S) : Calls Tryz.prog 27 #[.pointer (some ⟨p.r, 0, none⟩)] w fun e w' => ∃ A c, e = .returned (.slice A P.L.S.length c) ∧ Hid (Says w w' P.L.S A c) := by
 have HS := kept (spare_any p.f P.L w h.lst); have c8 : w.cell? ⟨p.r, 8, none⟩ = some (.pointer (some ⟨p.f.r, 0, none⟩)) := h.c 8; clear h; go_enter Tryz.func27, Tryz.ntmps27; go_wp2_with (first | (go_at_call 44; (with_reducible refine (HS.out).mono ?_); rintro e w1 ⟨A1, c1, rfl, h1⟩))
 go_ret; exact ⟨A1, c1, rfl, h1⟩
end
theorem below_from_drew {w w' : World} (h : Below w.drew.heap.size w.drew w') : Below w.heap.size w w' := ⟨h.os, h.tape, h.output, h.size, h.block⟩
theorem below_dn {B : Nat} {a w : World} (h : Below B a w) (q : Nat) : Below B a (w.drewN q) := ⟨h.os, h.tape, h.output, h.size, h.block⟩
section
variable {w w' : World} {p : Pgl} {P : PSt} {S : St}
theorem Pgr.list_step (h : Pgr w p P S) {L' : FSt} (k : LLeft w w' p.f L') (hok : PSt.ok { P with L := L' } S.pages.length) : PLeft w w' p { P with L := L' } S := by
 obtain ⟨f', e, hl, t, ho⟩ := k; refine ⟨{ p with f := f' }, rfl, rfl, ⟨hok, ?_, h.dsk.turned t fun i hi hf => h.d_own hi (.inr (.inr (.inl hf))), h.chn.turned t h.cf, hl, ⟨h.adm.1.keep (t.block _ h.adm.1.lt h.f_m), h.adm.2.turned t fun g hg hf => ?_⟩, fun g hg hf => ?_, h.md⟩, t.mono fun j _ hj => .inl (.inr (.inr (.inl hj))), fun j hj => ?_⟩
 · have hb := (t.block _ h.blk.lt h.f_r).trans h.blk; show Blk w' p.r _ [.pointer (some ⟨p.d.r, 0, none⟩), .int .u64 (P.M.txn : Int), .int .i64 P.M.root, .int .i64 P.M.spare, .int .i64 P.M.size, .slice p.Ac P.chain.length p.cc, .bool false, .int .i64 P.root, .pointer (some ⟨f'.r, 0, none⟩), .map (some p.m)]; rw [e]; exact hb
 · rcases h.lst.own_cl hf with hc | hc <;> exact absurd (hg.uniq hc) (by decide)
 · rcases ho g hf with h5 | h5
   · exact h.cf g hg h5
   · have := h.chn.lt hg; omega
 · rcases hj with hj | hj | hj | hj
   · exact .inl (.inl hj)
   · exact .inl (.inr (.inl hj))
   · rcases ho j hj with h5 | h5
     · exact .inl (.inr (.inr (.inl h5)))
     · exact .inr h5
   · exact .inl (.inr (.inr (.inr hj)))
theorem Pgr.map_step (h : Pgr w p P S) {V' : Int → Option Value} {add' : Adds} (hm : Mv w' p.m 1022 V') (hg : w.grownBy w' (some p.m)) (hv : AdV w V' add') (hok : PSt.ok { P with add := add' } S.pages.length) : PLeft w w' p { P with add := add' } S := by
 have t : Turned w w' (fun j => j = p.m) := Turned.of_grown hg (fun j e => (Option.some.inj e).symm); have nm : ∀ {b : Nat} {ty : TypeId}, Cl w b ty → b ≠ p.m := fun hc e => h.adm.1.not_cl (e ▸ hc)
 refine ⟨{ p with V := V' }, rfl, rfl, ⟨hok, (t.block _ h.blk.lt (nm h.blk.cl)).trans h.blk, h.dsk.turned t fun i hi e => h.d_own hi (.inr (.inr (.inr e))), h.chn.turned t fun g hg => nm (h.chn.cl hg), h.lst.turned t fun j hj => ?_, ⟨hm, hv.turned t fun g hg => nm hg⟩, h.cf, h.md⟩, t.mono fun j _ hj => .inl (.inr (.inr (.inr hj))), fun j hj => .inl hj⟩; rcases h.lst.own_cl hj with hc | hc <;> exact nm hc
theorem ok_take (h : PSt.ok P S.pages.length) (hl : P.L.ok) : PSt.ok { P with L := P.L.take } S.pages.length := by
 have hs : ∀ x, x ∈ P.L.S.tail → x ∈ P.L.S := fun x hx => List.mem_of_mem_tail hx
 exact ⟨h.lz, h.mz, h.tx, h.cn, h.cb, fun x hx => ⟨fun hm => (h.cs x hx).1 (hs x hm), (h.cs x hx).2⟩, fun x hx => h.sh x (hs x hx), fun x bs e => by
  obtain ⟨a, b, c, d, f, g⟩ := h.ab x bs e; exact ⟨a, b, c, fun hm => d (hs x hm), f, g⟩⟩
def txnP (X : Pg) (t : Nat) : Pg := { X with txn := (t : Int) }
theorem rd_txn {l : Lay} {X : Pg} (h : RdPg w l X) (t : Nat) (ht : t < 18446744073709551616) : RdPg w { l with txn := (t : Int) } (txnP X t) :=
 ⟨h.kind, rfl, h.next, h.items, h.kids, h.data, h.ids, by show (0 : Int) ≤ (t : Int); omega, by show (t : Int) < _; omega, h.b1, h.b2, h.b3, h.b4⟩
theorem right_used {X : Pg} (h : rightB X = true) : usedN X ≤ 237 := (right_parts h).2.2.2
def addP (P : PSt) (x : Int) (bs : List UInt8) : PSt := { P with L := P.L.take, add := fun y => if y = x then some bs else P.add y }
end
theorem PLeft.via {w w4 w5 : World} {p p4 : Pgl} {P5 : PSt} {S5 : St} (e1 : p4.r = p.r) (e2 : p4.d = p.d) (t4 : Turned w w4 p.all) (o4 : ∀ j, p4.own j → p.own j ∨ w.heap.size ≤ j) (k : PLeft w4 w5 p4 P5 S5) : PLeft w w5 p P5 S5 := by
 obtain ⟨p5, g1, g2, g3, g4, g5⟩ := k; refine ⟨p5, g1.trans e1, g2.trans e2, g3, ?_, fun j hj => ?_⟩
 · refine ⟨g4.os.trans t4.os, g4.tape.trans t4.tape, g4.output.trans t4.output, Nat.le_trans t4.size g4.size, fun j hj hn => ?_⟩; refine (g4.block j (Nat.lt_of_lt_of_le hj t4.size) fun hk => ?_).trans (t4.block j hj hn); rcases hk with hk | hk
   · rcases o4 j hk with h5 | h5
     · exact hn (.inl h5)
     · omega
   · exact hn (.inr (e2 ▸ hk))
 · rcases g5 j hj with h5 | h5
   · exact o4 j h5
   · exact .inr (Nat.le_trans t4.size h5)
def dropP (P : PSt) (id : Int) : PSt × Int :=
 if finB P.M.size id = false then (P, 2) else if id ∈ P.chain then (P, 8)
 else if (P.add id).isSome then ({ P with L := P.L.give id, add := fun y => if y = id then none else P.add y }, P.L.may id)
 else ({ P with L := P.L.hold id }, P.L.may id)
section
variable {w w' : World} {p : Pgl} {P : PSt} {S : St}
theorem ok_hold (h : PSt.ok P S.pages.length) {id : Int} (hc : id ∉ P.chain) (ha : P.add id = none) : PSt.ok { P with L := P.L.hold id } S.pages.length := by
 unfold FSt.hold
 split
 · rename_i hm
   obtain ⟨hb, h1, h2⟩ := may_zero hm; refine ⟨h.lz, h.mz, h.tx, h.cn, h.cb, fun x hx => ⟨(h.cs x hx).1, fun hm => ?_⟩, fun x hx hm => ?_, fun x bs e => ?_⟩
   · rcases mem_addI.1 hm with rfl | hm
     · exact hc hx
     · exact (h.cs x hx).2 hm
   · rcases mem_addI.1 hm with rfl | hm
     · exact h1 hx
     · exact h.sh x hx hm
   · obtain ⟨a, b, c, d, f, g⟩ := h.ab x bs e; refine ⟨a, b, c, d, fun hm => ?_, g⟩; rcases mem_addI.1 hm with rfl | hm
     · have e : P.add x = some bs := e; rw [ha] at e; cases e
     · exact f hm
 · exact h
theorem ok_give (h : PSt.ok P S.pages.length) {id : Int} {bs : List UInt8} (ha : P.add id = some bs) : PSt.ok { P with L := P.L.give id, add := fun y => if y = id then none else P.add y } S.pages.length := by
 obtain ⟨a, b, c, d, f, g⟩ := h.ab id bs ha; unfold FSt.give
 split
 · rename_i hm
   refine ⟨h.lz, h.mz, h.tx, h.cn, h.cb, fun x hx => ⟨fun hm => ?_, (h.cs x hx).2⟩, fun x hx hm => ?_, fun x bs e => ?_⟩
   · rcases mem_addI.1 hm with rfl | hm
     · exact c hx
     · exact (h.cs x hx).1 hm
   · rcases mem_addI.1 hx with rfl | hx
     · exact f hm
     · exact h.sh x hx hm
   · by_cases ex : x = id
     · subst ex; simp at e
     · simp only [if_neg ex] at e; obtain ⟨a', b', c', d', f', g'⟩ := h.ab x bs e; refine ⟨a', b', c', fun hm => ?_, f', g'⟩; rcases mem_addI.1 hm with h9 | hm
       · exact ex h9
       · exact d' hm
 · refine ⟨h.lz, h.mz, h.tx, h.cn, h.cb, h.cs, h.sh, fun x bs e => ?_⟩; by_cases ex : x = id
   · subst ex; simp at e
   · simp only [if_neg ex] at e; exact h.ab x bs e
theorem drop_any (h : Pgr w p P S) (id : Int) : Calls Tryz.prog 142 #[.pointer (some ⟨p.r, 0, none⟩), .int .i64 id] w fun e w' => e = .returned (.int .i64 (dropP P id).2) ∧ Hid (PLeft w w' p (dropP P id).1 S) := by
 have H := kept h; by_cases hb : finB P.M.size id = false
 · have HR := kept (reaches_any h id 2 (by rw [hb]; rfl)); have HE : Hid (dropP P id = (P, 2)) := kept (by unfold dropP; rw [if_pos hb]); rw [HE.out]; clear h hb HE; go_enter Tryz.func142, Tryz.ntmps142; go_wp2_with (first | (go_at_call 192; (with_reducible refine (HR.out).mono ?_); rintro e w1 ⟨rfl, rfl⟩))
   go_ret; exact ⟨rfl, kept H.out.left_self⟩
 have hb1 : finB P.M.size id = true := by simpa using hb
 have HR := kept (reaches_any h id 0 (by rw [hb1]; rfl)); have hrange : 2 ≤ id ∧ id < 1024 := by
  have h1 : 2 ≤ id ∧ id < P.M.size := by simpa [finB] using hb1
  have h2 := h.ok.mz; have h3 := h.dsk.1.2.1; omega
 have hwf : Wf id := ⟨by omega, by omega⟩
 have c5 : w.cell? ⟨p.r, 5, none⟩ = some (.slice p.Ac P.chain.length p.cc) := h.c 5; have hcl : P.chain.length ≤ 1000000 := by
  have h1 := h.chn.reads.1; have h9 : P.chain.length ≤ 1022 := by
   have hp : (P.chain.mergeSort (fun x y => decide (x ≤ y))).Perm P.chain := List.mergeSort_perm _ _; rw [← hp.length_eq]; refine rising_le (sorted_rising h.ok.cn) fun x hx => ?_
   have h2 := h.ok.cb x (hp.mem_iff.1 hx); have h3 := h.dsk.1.2.1; omega
  omega
 have HC := kept (contains_any p.Ac P.chain.length p.cc P.chain id w h.chn.reads hcl); have HD : Hid (dropP P id = if id ∈ P.chain then (P, 8) else if (P.add id).isSome then ({ P with L := P.L.give id, add := fun y => if y = id then none else P.add y }, P.L.may id) else ({ P with L := P.L.hold id }, P.L.may id)) := kept (by unfold dropP; rw [if_neg hb]); by_cases hc : id ∈ P.chain
 · have HE : Hid (dropP P id = (P, 8)) := kept (by rw [HD.out, if_pos hc]); rw [HE.out]; rw [decide_eq_true hc] at HC; clear h hb hb1 HE HD hc hrange hwf hcl; go_enter Tryz.func142, Tryz.ntmps142; go_wp2_with (first | (go_at_call 192; (with_reducible refine (HR.out).mono ?_); rintro e w1 ⟨rfl, rfl⟩) | (go_at_call 84; (with_reducible refine (HC.out).mono ?_); rintro e w1 ⟨rfl, rfl⟩))
   go_ret; exact ⟨rfl, kept H.out.left_self⟩
 rw [decide_eq_false hc] at HC; have c8 : w.cell? ⟨p.r, 8, none⟩ = some (.pointer (some ⟨p.f.r, 0, none⟩)) := h.c 8; have c9 : w.cell? ⟨p.r, 9, none⟩ = some (.map (some p.m)) := h.c 9; have HW := kept hwf; cases hadd : P.add id with
 | none =>
   have hV : p.V id = none := by
    have := h.adm.2.some_ (x := id); rw [hadd] at this; simpa using this
   have HV := kept hV; have HE : Hid (dropP P id = ({ P with L := P.L.hold id }, P.L.may id)) := kept (by rw [HD.out, if_neg hc, hadd]; rfl); rw [HE.out]; have HH := kept (hold_any p.f P.L id w h.lst); have HOK := kept (ok_hold h.ok hc hadd); clear h hb hb1 HE HD hc hrange hwf hcl hV; generalize P.L.may id = mc at HH; go_enter Tryz.func142, Tryz.ntmps142; go_wp2_with (first | (go_at_call 192; (with_reducible refine (HR.out).mono ?_); rintro e w1 ⟨rfl, rfl⟩) | (go_at_call 84; (with_reducible refine (HC.out).mono ?_); rintro e w1 ⟨rfl, rfl⟩) | (at_lookup; refine wpList_look_ok rfl 74 46 _ _ rfl addU (.slice none 0 0) addZ H.out.adm.1 rfl id rfl HW.out (.slice none 0 0) false (by simp [HV.out]) (by simp [HV.out]) ?_) | (go_at_call 193; (with_reducible refine (HH.out).mono ?_); rintro e w1 ⟨rfl, h1⟩))
   go_ret; exact ⟨rfl, kept (H.out.list_step h1.out HOK.out)⟩
 | some bs =>
   obtain ⟨A2, c2, hV⟩ : ∃ A2 c2, p.V id = some (.slice A2 256 c2) := by
    rcases h.adm.2 id with ⟨h0, _⟩ | ⟨bs', A', c', h1, h2, _⟩
    · rw [hadd] at h0; cases h0
    · exact ⟨A', c', h2⟩
   have HV := kept hV; have HE : Hid (dropP P id = ({ P with L := P.L.give id, add := fun y => if y = id then none else P.add y }, P.L.may id)) := kept (by rw [HD.out, if_neg hc, hadd]; rfl); rw [HE.out]; have HOK := kept (ok_give h.ok hadd); have HM1 := kept (fun (W : World) (hm : Mv W p.m 1022 (fun y => if y = id then none else p.V y)) (hg : w.grownBy W (some p.m)) => h.map_step hm hg (h.adm.2.del id) (add' := fun y => if y = id then none else P.add y) ⟨h.ok.lz, h.ok.mz, h.ok.tx, h.ok.cn, h.ok.cb, h.ok.cs, h.ok.sh, fun x bs e => by
    by_cases ex : x = id
    · subst ex; simp at e
    · simp only [if_neg ex] at e; exact h.ok.ab x bs e⟩)
   have HMM := kept h.adm.1; clear h hb hb1 HE HD hc hrange hwf hcl hV; go_enter Tryz.func142, Tryz.ntmps142; go_wp2_with fail
   with_reducible refine HR.out.mono ?_
   rintro e w1 ⟨rfl, rfl⟩; go_wp2_with fail
   with_reducible refine HC.out.mono ?_
   rintro e w1 ⟨rfl, rfl⟩; go_wp2_with (first | (at_lookup; refine wpList_look_ok rfl 74 46 _ _ rfl addU (.slice none 0 0) addZ HMM.out rfl id rfl HW.out (.slice A2 256 c2) true (by simp [HV.out]) (by simp [HV.out]) ?_) | (at_delete; refine wpList_del_mv rfl 74 46 _ _ rfl addU HMM.out rfl id rfl HW.out ?_; intro w4 hm4 hg4; have hst := HM1.out w4 hm4 hg4; obtain ⟨p4, e1, e2, hp4, t4, o4⟩ := hst; have HP4 := kept hp4; have HE1 := kept e1; have HE2 := kept e2; have HT4 := kept t4; have HO4 := kept o4; have d8 : w4.cell? ⟨p.r, 8, none⟩ = some (.pointer (some ⟨p4.f.r, 0, none⟩)) := (by rw [← e1]; exact hp4.c 8); have HG := kept (give_any p4.f P.L id w4 hp4.lst); clear hp4 e1 e2 t4 o4 hm4 hg4) | (go_at_call 75; (with_reducible refine (HG.out).mono ?_); rintro e w5 ⟨rfl, h5⟩))
   go_ret; exact ⟨rfl, kept (PLeft.via HE1.out HE2.out HT4.out HO4.out (HP4.out.list_step h5.out HOK.out))⟩
end
theorem readPage_any (d : Dk) (S : St) (id : Int) (w : World) (h : Dsk w d S) (hf : S.fuse ≠ 0) (h0 : 0 ≤ id) (h1 : id < (S.pages.length : Int)) (hF : Fours w) :
 Calls Tryz.prog 85 #[.pointer (some ⟨d.r, 0, none⟩), .int .i64 id] w (DecA w (decPg (S.page id)).1 (decPg (S.page id)).2) := by
 obtain ⟨k, rfl⟩ := Int.eq_ofNat_of_zero_le h0; have HLN := kept (h.page_len (p := k) (by omega)); have HR := fun o => kept (read_ok d S (k : Int) _ (h.below ((Below.refl _ w).alloc (Nat.le_refl _) o)) hf h0 h1)
 have HD := kept (fun W A (hb : Below w.heap.size w W) (hr : Rd W A 256 (S.page (k : Int))) => decode_any A 256 256 (S.page (k : Int)) W hr (Nat.le_refl _) (hF.below hb)); clear h hf h0 h1 hF; generalize S.page (k : Int) = xs at HLN HR HD; generalize (decPg xs).2 = er at HD; generalize (decPg xs).1 = Q at HD; go_enter Tryz.func85, Tryz.ntmps85; go_wp2_with fail
 with_reducible refine (HR _).out.mono ?_
 rintro e w1 ⟨b, rfl, hk1, hn1, hb1⟩; have HQ1 := kept ((Blk.new w 137 #[.int .i64 0, .int .u64 0, .int .i64 0, .slice none 0 0, .slice none 0 0, .slice none 0 0, .slice none 0 0]).below hb1 (by simp)); have HB1 := kept (bel_to hb1 ((Below.refl _ w).alloc (Nat.le_refl _) _)); have HDD := kept (HD.out w1 (some ⟨b, 0, none⟩) HB1.out (hk1.rd HLN.out)); clear hk1 hn1 hb1 HD HR; go_wp2_with fail
 with_reducible refine HDD.out.mono ?_
 rintro e w2 ⟨l, rfl, hs, hb2⟩; have hq2 := HQ1.out.below hb2 HQ1.out.lt; have p0 : w2.cell? ⟨w.heap.size, 0, none⟩ = some (.int .i64 0) := hq2.cell 0; have t0 := hq2.frozen 0; have p1 : w2.cell? ⟨w.heap.size, 1, none⟩ = some (.int .u64 0) := hq2.cell 1; have t1 := hq2.frozen 1; have p2 : w2.cell? ⟨w.heap.size, 2, none⟩ = some (.int .i64 0) := hq2.cell 2; have t2 := hq2.frozen 2; have p3 : w2.cell? ⟨w.heap.size, 3, none⟩ = some (.slice none 0 0) := hq2.cell 3; have t3 := hq2.frozen 3; have p4 : w2.cell? ⟨w.heap.size, 4, none⟩ = some (.slice none 0 0) := hq2.cell 4; have t4 := hq2.frozen 4; have p5 : w2.cell? ⟨w.heap.size, 5, none⟩ = some (.slice none 0 0) := hq2.cell 5; have t5 := hq2.frozen 5; have p6 : w2.cell? ⟨w.heap.size, 6, none⟩ = some (.slice none 0 0) := hq2.cell 6; have t6 := hq2.frozen 6; have HQ2 := kept hq2; have HB2 := kept (HB1.out.trans (hb2.mono HB1.out.size)); have HQL := kept HQ1.out.lt; clear hq2 hb2 HQ1; obtain ⟨kind, txn, next, a1, n1, k1, a2, n2, k2, a3, n3, k3, a4, n4, k4⟩ := l; go_wp2; have hb7 := ((((((HQ2.out.set_ 0 (.int .i64 kind)).set_ 1 (.int .u64 txn)).set_ 2 (.int .i64 next)).set_ 3 (.slice a1 n1 k1)).set_ 4 (.slice a2 n2 k2)).set_ 5 (.slice a3 n3 k3)).set_ 6 (.slice a4 n4 k4); simp only [List.set_cons_zero, List.set_cons_succ] at hb7; have ho7 := only7 w2 w.heap.size (.int .i64 kind) (.int .u64 txn) (.int .i64 next) (.slice a1 n1 k1) (.slice a2 n2 k2) (.slice a3 n3 k3) (.slice a4 n4 k4); unfold set7 at ho7; generalize (((((((w2.setCell ⟨w.heap.size, 0, none⟩ (.int .i64 kind)).setCell ⟨w.heap.size, 1, none⟩ (.int .u64 txn)).setCell ⟨w.heap.size, 2, none⟩ (.int .i64 next)).setCell ⟨w.heap.size, 3, none⟩ (.slice a1 n1 k1)).setCell ⟨w.heap.size, 4, none⟩ (.slice a2 n2 k2)).setCell ⟨w.heap.size, 5, none⟩ (.slice a3 n3 k3)).setCell ⟨w.heap.size, 6, none⟩ (.slice a4 n4 k4)) = X at hb7 ho7 ⊢; have x0 : X.cell? ⟨w.heap.size, 0, none⟩ = some (.int .i64 kind) := hb7.cell 0; have x1 : X.cell? ⟨w.heap.size, 1, none⟩ = some (.int .u64 txn) := hb7.cell 1
 have x2 : X.cell? ⟨w.heap.size, 2, none⟩ = some (.int .i64 next) := hb7.cell 2; have x3 : X.cell? ⟨w.heap.size, 3, none⟩ = some (.slice a1 n1 k1) := hb7.cell 3; have x4 : X.cell? ⟨w.heap.size, 4, none⟩ = some (.slice a2 n2 k2) := hb7.cell 4; have x5 : X.cell? ⟨w.heap.size, 5, none⟩ = some (.slice a3 n3 k3) := hb7.cell 5; have x6 : X.cell? ⟨w.heap.size, 6, none⟩ = some (.slice a4 n4 k4) := hb7.cell 6; exact bodyPost_ret (v := .tuple #[.agg #[.int .i64 kind, .int .u64 txn, .int .i64 next, .slice a1 n1 k1, .slice a2 n2 k2, .slice a3 n3 k3, .slice a4 n4 k4], .int .i64 er]) (by simp [results, Tryz.results85, go_sem, x0, x1, x2, x3, x4, x5, x6]) rfl ⟨⟨kind, txn, next, a1, n1, k1, a2, n2, k2, a3, n3, k3, a4, n4, k4⟩, rfl, kept (OwPg.sta_go hs.out (Onl.one ho7 HQL.out) (Nat.le_of_lt HQL.out)), ho7.below HB2.out HB2.out.size (Nat.le_refl _)⟩
def bytesAt (P : PSt) (S : St) (id : Int) : List UInt8 := match P.add id with | some bs => bs | none => S.page id
theorem pread_any {w : World} {p : Pgl} {P : PSt} {S : St} (h : Pgr w p P S) (id : Int) (hb : finB P.M.size id = true) (hf : S.fuse ≠ 0) (hF : Fours w) :
 Calls Tryz.prog 141 #[.pointer (some ⟨p.r, 0, none⟩), .int .i64 id] w (DecA w (decPg (bytesAt P S id)).1 (decPg (bytesAt P S id)).2) := by
 have HB0 := fun o => kept ((Below.refl _ w).alloc (Nat.le_refl _) o)
 have HR := fun o => kept (reaches_any (h.below (HB0 o).out) id 0 (by rw [hb]; rfl))
 have hrange : 2 ≤ id ∧ id < (S.pages.length : Int) ∧ id < 1024 := by
  have h1 : 2 ≤ id ∧ id < P.M.size := by simpa [finB] using hb
  have h2 := h.ok.mz; have h3 := h.dsk.1.2.1; omega
 have HW : Hid (Wf id) := kept ⟨by omega, by omega⟩; have c9 := fun o => ((h.below (HB0 o).out).c 9 : (w.alloc o).cell? ⟨p.r, 9, none⟩ = some (.map (some p.m)))
 have c0 := fun o => ((h.below (HB0 o).out).c 0 : (w.alloc o).cell? ⟨p.r, 0, none⟩ = some (.pointer (some ⟨p.d.r, 0, none⟩)))
 have HM := fun o => kept (h.below (HB0 o).out).adm.1
 have hlt := h.blk.lt; have fin : ∀ (Q : Pg) (er : Int) (k : DecA w Q er = DecA w (decPg (bytesAt P S id)).1 (decPg (bytesAt P S id)).2), True := fun _ _ _ => trivial
 cases hadd : P.add id with
 | none =>
   have hV : p.V id = none := by
    have := h.adm.2.some_ (x := id); rw [hadd] at this; simpa using this
   have HV := kept hV; have e : bytesAt P S id = S.page id := by unfold bytesAt; rw [hadd]
   rw [e]; have HD := fun o => kept (readPage_any p.d S id _ (h.below (HB0 o).out).dsk hf (by omega) hrange.2.1 (hF.below (HB0 o).out))
   clear h hb hf hF hrange hV hadd e fin; generalize (decPg (S.page id)).2 = er at HD; generalize (decPg (S.page id)).1 = Q at HD; go_enter Tryz.func141, Tryz.ntmps141; go_wp2_with fail
   with_reducible refine (HR _).out.mono ?_
   rintro e w1 ⟨rfl, rfl⟩; go_wp2_with (first | (at_lookup; refine wpList_look_ok rfl 74 46 _ _ rfl addU (.slice none 0 0) addZ (HM _).out rfl id rfl HW.out (.slice none 0 0) false (by simp [HV.out]) (by simp [HV.out]) ?_) | (go_at_call 85; (with_reducible refine (HD _).out.mono ?_); rintro e w2 ⟨l, rfl, hs, hb2⟩; have hq2 := (Blk.new w 137 #[.int .i64 0, .int .u64 0, .int .i64 0, .slice none 0 0, .slice none 0 0, .slice none 0 0, .slice none 0 0]).below hb2 (by simp); have p0 : w2.cell? ⟨w.heap.size, 0, none⟩ = some (.int .i64 0) := hq2.cell 0; have t0 := hq2.frozen 0; have p1 : w2.cell? ⟨w.heap.size, 1, none⟩ = some (.int .u64 0) := hq2.cell 1; have t1 := hq2.frozen 1; have p2 : w2.cell? ⟨w.heap.size, 2, none⟩ = some (.int .i64 0) := hq2.cell 2; have t2 := hq2.frozen 2; have p3 : w2.cell? ⟨w.heap.size, 3, none⟩ = some (.slice none 0 0) := hq2.cell 3; have t3 := hq2.frozen 3; have p4 : w2.cell? ⟨w.heap.size, 4, none⟩ = some (.slice none 0 0) := hq2.cell 4; have t4 := hq2.frozen 4; have p5 : w2.cell? ⟨w.heap.size, 5, none⟩ = some (.slice none 0 0) := hq2.cell 5; have t5 := hq2.frozen 5; have p6 : w2.cell? ⟨w.heap.size, 6, none⟩ = some (.slice none 0 0) := hq2.cell 6; have t6 := hq2.frozen 6; have HQ2 := kept hq2; have HB2 := kept (bel_to hb2 (HB0 _).out); have HQL := kept hb2.size; clear hq2 hb2; obtain ⟨kind, txn, next, a1, n1, k1, a2, n2, k2, a3, n3, k3, a4, n4, k4⟩ := l))
   have hb7 := ((((((HQ2.out.set_ 0 (.int .i64 kind)).set_ 1 (.int .u64 txn)).set_ 2 (.int .i64 next)).set_ 3 (.slice a1 n1 k1)).set_ 4 (.slice a2 n2 k2)).set_ 5 (.slice a3 n3 k3)).set_ 6 (.slice a4 n4 k4); simp only [List.set_cons_zero, List.set_cons_succ] at hb7; have ho7 := only7 w2 w.heap.size (.int .i64 kind) (.int .u64 txn) (.int .i64 next) (.slice a1 n1 k1) (.slice a2 n2 k2) (.slice a3 n3 k3) (.slice a4 n4 k4); unfold set7 at ho7; generalize (((((((w2.setCell ⟨w.heap.size, 0, none⟩ (.int .i64 kind)).setCell ⟨w.heap.size, 1, none⟩ (.int .u64 txn)).setCell ⟨w.heap.size, 2, none⟩ (.int .i64 next)).setCell ⟨w.heap.size, 3, none⟩ (.slice a1 n1 k1)).setCell ⟨w.heap.size, 4, none⟩ (.slice a2 n2 k2)).setCell ⟨w.heap.size, 5, none⟩ (.slice a3 n3 k3)).setCell ⟨w.heap.size, 6, none⟩ (.slice a4 n4 k4)) = X at hb7 ho7 ⊢; have x0 : X.cell? ⟨w.heap.size, 0, none⟩ = some (.int .i64 kind) := hb7.cell 0; have x1 : X.cell? ⟨w.heap.size, 1, none⟩ = some (.int .u64 txn) := hb7.cell 1; have x2 : X.cell? ⟨w.heap.size, 2, none⟩ = some (.int .i64 next) := hb7.cell 2; have x3 : X.cell? ⟨w.heap.size, 3, none⟩ = some (.slice a1 n1 k1) := hb7.cell 3; have x4 : X.cell? ⟨w.heap.size, 4, none⟩ = some (.slice a2 n2 k2) := hb7.cell 4; have x5 : X.cell? ⟨w.heap.size, 5, none⟩ = some (.slice a3 n3 k3) := hb7.cell 5; have x6 : X.cell? ⟨w.heap.size, 6, none⟩ = some (.slice a4 n4 k4) := hb7.cell 6; exact bodyPost_ret (v := .tuple #[.agg #[.int .i64 kind, .int .u64 txn, .int .i64 next, .slice a1 n1 k1, .slice a2 n2 k2, .slice a3 n3 k3, .slice a4 n4 k4], .int .i64 er]) (by simp [results, Tryz.results141, go_sem, x0, x1, x2, x3, x4, x5, x6]) rfl ⟨⟨kind, txn, next, a1, n1, k1, a2, n2, k2, a3, n3, k3, a4, n4, k4⟩, rfl, kept (OwPg.sta_go hs.out (Onl.one ho7 (by simp)) (by simp)), ho7.below HB2.out HB2.out.size (Nat.le_refl _)⟩
 | some bs =>
   obtain ⟨A2, c2, hV, hA⟩ : ∃ A2 c2, p.V id = some (.slice A2 256 c2) ∧ OwB w A2 256 c2 bs := by
    rcases h.adm.2 id with ⟨h0, _⟩ | ⟨bs', A', c', h1, h2, h3, _⟩
    · rw [hadd] at h0; cases h0
    · rw [hadd] at h1; cases h1; exact ⟨A', c', h2, h3⟩
   have HV := kept hV; have e : bytesAt P S id = bs := by unfold bytesAt; rw [hadd]
   rw [e]; have HD := fun o => kept (decode_any A2 256 c2 bs _ (hA.rd.below (HB0 o).out) hA.cap (hF.below (HB0 o).out))
   clear h hb hf hF hrange hV hA hadd e fin; generalize (decPg bs).2 = er at HD; generalize (decPg bs).1 = Q at HD; go_enter Tryz.func141, Tryz.ntmps141; go_wp2_with fail
   with_reducible refine (HR _).out.mono ?_
   rintro e w1 ⟨rfl, rfl⟩; go_wp2_with (first | (at_lookup; refine wpList_look_ok rfl 74 46 _ _ rfl addU (.slice none 0 0) addZ (HM _).out rfl id rfl HW.out (.slice A2 256 c2) true (by simp [HV.out]) (by simp [HV.out]) ?_) | (go_at_call 135; (with_reducible refine (HD _).out.mono ?_); rintro e w2 ⟨l, rfl, hs, hb2⟩; have hq2 := (Blk.new w 137 #[.int .i64 0, .int .u64 0, .int .i64 0, .slice none 0 0, .slice none 0 0, .slice none 0 0, .slice none 0 0]).below hb2 (by simp); have p0 : w2.cell? ⟨w.heap.size, 0, none⟩ = some (.int .i64 0) := hq2.cell 0; have t0 := hq2.frozen 0; have p1 : w2.cell? ⟨w.heap.size, 1, none⟩ = some (.int .u64 0) := hq2.cell 1; have t1 := hq2.frozen 1; have p2 : w2.cell? ⟨w.heap.size, 2, none⟩ = some (.int .i64 0) := hq2.cell 2; have t2 := hq2.frozen 2; have p3 : w2.cell? ⟨w.heap.size, 3, none⟩ = some (.slice none 0 0) := hq2.cell 3; have t3 := hq2.frozen 3; have p4 : w2.cell? ⟨w.heap.size, 4, none⟩ = some (.slice none 0 0) := hq2.cell 4; have t4 := hq2.frozen 4; have p5 : w2.cell? ⟨w.heap.size, 5, none⟩ = some (.slice none 0 0) := hq2.cell 5; have t5 := hq2.frozen 5; have p6 : w2.cell? ⟨w.heap.size, 6, none⟩ = some (.slice none 0 0) := hq2.cell 6; have t6 := hq2.frozen 6; have HQ2 := kept hq2; have HB2 := kept (bel_to hb2 (HB0 _).out); have HQL := kept hb2.size; clear hq2 hb2; obtain ⟨kind, txn, next, a1, n1, k1, a2, n2, k2, a3, n3, k3, a4, n4, k4⟩ := l))
   have hb7 := ((((((HQ2.out.set_ 0 (.int .i64 kind)).set_ 1 (.int .u64 txn)).set_ 2 (.int .i64 next)).set_ 3 (.slice a1 n1 k1)).set_ 4 (.slice a2 n2 k2)).set_ 5 (.slice a3 n3 k3)).set_ 6 (.slice a4 n4 k4); simp only [List.set_cons_zero, List.set_cons_succ] at hb7; have ho7 := only7 w2 w.heap.size (.int .i64 kind) (.int .u64 txn) (.int .i64 next) (.slice a1 n1 k1) (.slice a2 n2 k2) (.slice a3 n3 k3) (.slice a4 n4 k4); unfold set7 at ho7; generalize (((((((w2.setCell ⟨w.heap.size, 0, none⟩ (.int .i64 kind)).setCell ⟨w.heap.size, 1, none⟩ (.int .u64 txn)).setCell ⟨w.heap.size, 2, none⟩ (.int .i64 next)).setCell ⟨w.heap.size, 3, none⟩ (.slice a1 n1 k1)).setCell ⟨w.heap.size, 4, none⟩ (.slice a2 n2 k2)).setCell ⟨w.heap.size, 5, none⟩ (.slice a3 n3 k3)).setCell ⟨w.heap.size, 6, none⟩ (.slice a4 n4 k4)) = X at hb7 ho7 ⊢; have x0 : X.cell? ⟨w.heap.size, 0, none⟩ = some (.int .i64 kind) := hb7.cell 0; have x1 : X.cell? ⟨w.heap.size, 1, none⟩ = some (.int .u64 txn) := hb7.cell 1; have x2 : X.cell? ⟨w.heap.size, 2, none⟩ = some (.int .i64 next) := hb7.cell 2; have x3 : X.cell? ⟨w.heap.size, 3, none⟩ = some (.slice a1 n1 k1) := hb7.cell 3; have x4 : X.cell? ⟨w.heap.size, 4, none⟩ = some (.slice a2 n2 k2) := hb7.cell 4; have x5 : X.cell? ⟨w.heap.size, 5, none⟩ = some (.slice a3 n3 k3) := hb7.cell 5; have x6 : X.cell? ⟨w.heap.size, 6, none⟩ = some (.slice a4 n4 k4) := hb7.cell 6; exact bodyPost_ret (v := .tuple #[.agg #[.int .i64 kind, .int .u64 txn, .int .i64 next, .slice a1 n1 k1, .slice a2 n2 k2, .slice a3 n3 k3, .slice a4 n4 k4], .int .i64 er]) (by simp [results, Tryz.results141, go_sem, x0, x1, x2, x3, x4, x5, x6]) rfl ⟨⟨kind, txn, next, a1, n1, k1, a2, n2, k2, a3, n3, k3, a4, n4, k4⟩, rfl, kept (OwPg.sta_go hs.out (Onl.one ho7 (by simp)) (by simp)), ho7.below HB2.out HB2.out.size (Nat.le_refl _)⟩
theorem newest_any (d : Dk) (S : St) (w : World) (h : Dsk w d S) (hf : S.fuse ≠ 0) (hF : Fours w) :
 Calls Tryz.prog 46 #[.pointer (some ⟨d.r, 0, none⟩)] w fun e w' => e = .returned (.tuple #[(chooseM (S.page 0) (S.page 1)).1.val, .int .i64 (chooseM (S.page 0) (S.page 1)).2]) ∧ Below w.heap.size w w' := by
 have h8 := h.1.1; have HL0 : Hid ((S.page 0).length = 256) := kept (h.page_len (p := 0) (by omega)); have HL1 : Hid ((S.page 1).length = 256) := kept (h.page_len (p := 1) (by omega)); have HR0 := fun o => kept (read_ok d S 0 _ (h.below ((Below.refl _ w).alloc (Nat.le_refl _) o)) hf (by omega) (by omega))
 have HR1 := kept (fun (W : World) (hb : Below w.heap.size w W) => read_ok d S 1 W (h.below hb) hf (by omega) (by omega)); have HCH := kept (fun (W : World) (A B : Option Addr) (hb : Below w.heap.size w W) (r0 : Rd W A 256 (S.page 0)) (r1 : Rd W B 256 (S.page 1)) => choose_m A B 256 256 256 256 (S.page 0) (S.page 1) W r0 (Nat.le_refl _) r1 (Nat.le_refl _) (hF.below hb)); clear h hf h8 hF; obtain ⟨C, hC⟩ : ∃ C, chooseM (S.page 0) (S.page 1) = C := ⟨_, rfl⟩
 rw [hC] at HCH ⊢; obtain ⟨⟨t, r, s, z⟩, er⟩ := C; simp only at HCH; clear hC; generalize S.page 0 = x0 at HL0 HR0 HCH; generalize S.page 1 = x1 at HL1 HR1 HCH; go_enter Tryz.func46, Tryz.ntmps46; go_wp2_with fail
 with_reducible refine (HR0 _).out.mono ?_
 rintro e w1 ⟨b0, rfl, hk0, hn0, hb0⟩; have HQ1 := kept ((Blk.new w 88 #[.int .u64 0, .int .i64 0, .int .i64 0, .int .i64 0]).below hb0 (by simp)); have HB1 := kept (bel_to hb0 ((Below.refl _ w).alloc (Nat.le_refl _) _)); have HK0 := kept hk0; clear hk0 hn0 hb0 HR0; go_wp2_with fail
 with_reducible refine (HR1.out w1 HB1.out).mono ?_
 rintro e w2 ⟨b1, rfl, hk1, hn1, hb1⟩; have HQ2 := kept (HQ1.out.below hb1 HQ1.out.lt); have HB2 := kept (HB1.out.trans (hb1.mono HB1.out.size)); have HC2 := kept (HCH.out w2 _ _ HB2.out ((HK0.out.below hb1 HK0.out.lt).rd HL0.out) (hk1.rd HL1.out)); clear hk1 hn1 hb1 HR1; go_wp2_with fail
 with_reducible refine HC2.out.mono ?_
 rintro e w3 ⟨rfl, hb3⟩; have hq3 := HQ2.out.below hb3 HQ2.out.lt; have HB3 := kept (HB2.out.trans (hb3.mono HB2.out.size)); obtain ⟨e0, e1, e2, e3⟩ := hq3.fou; have f0 := hq3.frozen 0; have f1 := hq3.frozen 1; have f2 := hq3.frozen 2; have f3 := hq3.frozen 3; have HQ3 := kept hq3; clear hb3 hq3; go_wp2; have hx := store4 HQ3.out HB3.out (Nat.le_refl _) (.int .u64 (t : Int)) (.int .i64 r) (.int .i64 s) (.int .i64 z); generalize (((w3.setCell ⟨w.heap.size, 0, none⟩ (.int .u64 (t : Int))).setCell ⟨w.heap.size, 1, none⟩ (.int .i64 r)).setCell ⟨w.heap.size, 2, none⟩ (.int .i64 s)).setCell ⟨w.heap.size, 3, none⟩ (.int .i64 z) = X at hx ⊢; obtain ⟨v0, v1, v2, v3, hbx⟩ := hx; exact bodyPost_ret (v := .tuple #[.agg #[.int .u64 (t : Int), .int .i64 r, .int .i64 s, .int .i64 z], .int .i64 er]) (by simp [results, Tryz.results46, go_sem, v0, v1, v2, v3]) rfl ⟨rfl, hbx⟩
theorem RdI.oneI (w : World) (x : Int) : RdI (w.alloc (.cells #[.int .i64 x] 3)) (some ⟨w.heap.size, 0, none⟩) 1 [x] :=
 ⟨rfl, fun _ => ⟨_, 0, rfl, fun j hj => by
  obtain rfl : j = 0 := by simpa using hj
  exact (Blk.new w 3 #[.int .i64 x]).cell 0⟩⟩
def rchain (S : St) : Nat → Int → List Int → List Int → Int × List Int × List Int
 | 0, _, _, _ => (4, [], [])
 | k + 1, a, C, I =>
   if a = 0 then (0, C, I)
   else if finB (S.pages.length : Int) a = false then (4, [], [])
   else if a ∈ C then (4, [], [])
   else if (decPg (S.page a)).2 ≠ 0 then ((decPg (S.page a)).2, [], [])
   else if (decPg (S.page a)).1.kind ≠ 4 then (4, [], [])
   else rchain S k (decPg (S.page a)).1.next (C ++ [a]) (I ++ (decPg (S.page a)).1.ids)
theorem decPg_ids (xs : List UInt8) : (decPg xs).1.ids.length ≤ 59 := by
 unfold decPg
 split
 · exact Nat.zero_le _
 · split
   · exact Nat.zero_le _
   · split
     · rename_i h
       have := (right_parts h.2.2).2.2.2; unfold usedN at this; simp only at this ⊢; omega
     · exact Nat.zero_le _
theorem RdPg.ri {w : World} {l : Lay} {P : Pg} (h : RdPg w l P) : RdI w l.a4 l.n4 P.ids := by
 refine ⟨h.n4, fun h0 => ?_⟩; obtain ⟨b, o, e⟩ := h.ids.2.1 h0; exact ⟨b, o, e, fun j hj => h.ids.2.2 b o e j hj⟩
structure Two (a w : World) (A : Option Addr) (n c : Nat) (C : List Int) (B : Option Addr) (m d : Nat) (I : List Int) : Prop where
 ca : OwI w A n c C
 ib : OwI w B m d I
 an : ∀ g, blkOf A = some g → a.heap.size ≤ g
 bn : ∀ g, blkOf B = some g → a.heap.size ≤ g
 ne : ∀ g, blkOf A = some g → blkOf B ≠ some g
 below : Below a.heap.size a w
theorem Two.on {a w w' : World} {A : Option Addr} {n c : Nat} {C : List Int} {B : Option Addr} {m d : Nat} {I : List Int} (h : Two a w A n c C B m d I) (hb : Below w.heap.size w w') : Two a w' A n c C B m d I :=
 ⟨h.ca.below hb, h.ib.below hb, h.an, h.bn, h.ne, h.below.trans (hb.mono h.below.size)⟩
theorem Two.growA {a w w' : World} {A A' : Option Addr} {n c n' c' : Nat} {C C' : List Int} {B : Option Addr} {m d : Nat} {I : List Int} (h : Two a w A n c C B m d I) (ho : OwI w' A' n' c' C') (t : Turned w w' (fun j => blkOf A = some j)) (hg : ∀ g, blkOf A' = some g → blkOf A = some g ∨ w.heap.size ≤ g) : Two a w' A' n' c' C' B m d I := by
 refine ⟨ho, h.ib.turned t (fun g hg ha => h.ne g ha hg), fun g e => ?_, h.bn, fun g e hb => ?_, t.only_new h.below h.below.size (fun i hi => h.an i hi)⟩
 · rcases hg g e with k | k
   · exact h.an g k
   · exact Nat.le_trans h.below.size k
 · rcases hg g e with k | k
   · exact h.ne g k hb
   · have := h.ib.lt hb; omega
theorem Two.growB {a w w' : World} {A : Option Addr} {n c : Nat} {C : List Int} {B B' : Option Addr} {m d m' d' : Nat} {I I' : List Int} (h : Two a w A n c C B m d I) (ho : OwI w' B' m' d' I') (t : Turned w w' (fun j => blkOf B = some j)) (hg : ∀ g, blkOf B' = some g → blkOf B = some g ∨ w.heap.size ≤ g) : Two a w' A n c C B' m' d' I' := by
 refine ⟨h.ca.turned t (fun g hg hb => h.ne g hg hb), ho, h.an, fun g e => ?_, fun g e hb => ?_, t.only_new h.below h.below.size (fun i hi => h.bn i hi)⟩
 · rcases hg g e with k | k
   · exact h.bn g k
   · exact Nat.le_trans h.below.size k
 · rcases hg g hb with k | k
   · exact h.ne g e k
   · have := h.ca.lt e; omega
theorem nodup_short {C : List Int} {z : Nat} (hn : C.Nodup) (hb : ∀ x ∈ C, 2 ≤ x ∧ x < (z : Int)) (hz : z ≤ 1024) : C.length ≤ 1022 := by
 have hp : (C.mergeSort (fun x y => decide (x ≤ y))).Perm C := List.mergeSort_perm _ _; rw [← hp.length_eq]; refine rising_le (sorted_rising hn) fun x hx => ?_
 have h2 := hb x (hp.mem_iff.1 hx); omega
theorem two_nil {a w : World} (hb : Below a.heap.size a w) : Two a w none 0 0 [] none 0 0 [] := ⟨OwI.nil_ _, OwI.nil_ _, fun g e => (by cases e), fun g e => (by cases e), fun g e => (by cases e), hb⟩
theorem Sta.belowS {B : Nat} {w w' : World} {R : World → Prop} (h : Sta B w R) (hB : 0 < B) (hb : Below w.heap.size w w') : Sta B w' R :=
 h.go (Onl.one (g := 0) ⟨hb.os, hb.tape, hb.output, hb.size, fun k hk _ => hb.block k hk⟩ hB) (Nat.le_refl _)
theorem Sta.turnedA {B : Nat} {w w' : World} {R : World → Prop} {A : Option Addr} (h : Sta B w R) (hB : 0 < B) (t : Turned w w' (fun j => blkOf A = some j)) (hA : ∀ g, blkOf A = some g → g < B) : Sta B w' R := by
 cases hA' : blkOf A with
 | none => exact h.go (Onl.one (g := 0) ⟨t.os, t.tape, t.output, t.size, fun k hk _ => t.block k hk (fun e => by rw [hA'] at e; cases e)⟩ hB) (Nat.le_refl _)
 | some g => exact h.go (Onl.one (g := g) ⟨t.os, t.tape, t.output, t.size, fun k hk hn => t.block k hk (fun e => hn (by rw [hA'] at e; exact e.symm))⟩ (hA g hA')) (Nat.le_refl _)
theorem Blk.turnI {w w' : World} {g : Nat} {cs : List Value} {A : Option Addr} (h : Blk w g 137 cs) (t : Turned w w' (fun j => blkOf A = some j)) (hA : ∀ g, blkOf A = some g → Cl w g 3) : Blk w' g 137 cs :=
 t.blk h (fun hj => absurd ((hA g hj).uniq h.cl) (by decide))
def RcA (w : World) (R : Int × List Int × List Int) (e : Ending) (w' : World) : Prop :=
 ∃ (A : Option Addr) (n c : Nat) (B : Option Addr) (m d : Nat), e = .returned (.tuple #[.slice A n c, .slice B m d, .int .i64 R.1]) ∧ Hid (Two w w' A n c R.2.1 B m d R.2.2)
structure RcK (S : St) (w : World) (R : Int × List Int × List Int) (a : Int) (A : Option Addr) (n c : Nat) (B : Option Addr) (m d : Nat) (wr : World) : Prop where
 ex : ∃ C I, Two w wr A n c C B m d I ∧ C.Nodup ∧ (∀ x ∈ C, 2 ≤ x ∧ x < (S.pages.length : Int)) ∧ I.length ≤ 59 * C.length ∧ rchain S (1100 - C.length) a C I = R
theorem readChain_any (d : Dk) (S : St) (a0 : Int) (w : World) (h : Dsk w d S) (hf : S.fuse ≠ 0) (hF : Fours w) :
 Calls Tryz.prog 48 #[.pointer (some ⟨d.r, 0, none⟩), .int .i64 a0] w (RcA w (rchain S 1100 a0 [] [])) := by
 have HD := kept (fun (W : World) (hb : Below w.heap.size w W) => h.below hb); have hz1024 := h.1.2.1; have H0 : Hid (RcK S w (rchain S 1100 a0 [] []) a0 none 0 0 none 0 0 w) := kept ⟨[], [], ⟨OwI.nil_ _, OwI.nil_ _, fun g e => (by cases e), fun g e => (by cases e), fun g e => (by cases e), Below.refl _ _⟩, List.nodup_nil, fun x hx => (by cases hx), Nat.le_refl _, rfl⟩; generalize rchain S 1100 a0 [] [] = R at H0 ⊢; have HSZ := kept (fun (W : World) (hb : Below w.heap.size w W) => size_any d S W (h.below hb)); have HRP := kept (fun (W : World) (a : Int) (hb : Below w.heap.size w W) (h0 : 0 ≤ a) (h1 : a < (S.pages.length : Int)) => readPage_any d S a W (h.below hb) hf h0 h1 (hF.below hb)); clear h hf hF; go_enter Tryz.func48, Tryz.ntmps48; go_wp2; go_loopw [1, 4, 5] (fun at_ ch ids wr => ∃ (a : Int) (A : Option Addr) (n c : Nat) (B : Option Addr) (m d' : Nat), at_ = .int .i64 a ∧ ch = .slice A n c ∧ ids = .slice B m d' ∧ Hid (RcK S w R a A n c B m d' wr)) (fun _ ch _ _ => 1100 - lenS ch)
 case atStart => exact ⟨a0, none, 0, 0, none, 0, 0, rfl, rfl, rfl, H0⟩
 case round =>
  obtain ⟨a, A, n, c, B, m, d', rfl, rfl, rfl, HL⟩ := hrel; clear H0; obtain ⟨C, I, htw, hnd, hcb, hil, hrc⟩ := HL.out.ex; have HTW := kept htw; have HND := kept hnd; have HCB := kept hcb; have hn : C.length = n := htw.ca.1; have HN := kept hn; have hm : I.length = m := htw.ib.1; have hn1 : n ≤ 1022 := by rw [← hn]; exact nodup_short hnd hcb hz1024
  have hmn : m ≤ 59 * n := by rw [← hm, ← hn]; exact hil
  rw [hn] at hrc; obtain ⟨q, hq⟩ : ∃ q, 1100 - n = q + 1 := ⟨1099 - n, by omega⟩
  rw [hq] at hrc; have HRC : Hid (rchain S (q + 1) a C I = R) := kept hrc; clear htw hnd hcb hil hrc hn hm HL; by_cases ha : a = 0
  · subst ha; have HE : Hid (R = (0, C, I)) := kept (by rw [← HRC.out, rchain, if_pos rfl]); go_wp2; go_returns; rw [HE.out]; exact ⟨A, n, c, B, m, d', rfl, HTW⟩
  · have HPOS : Hid (0 < wr.heap.size) := kept (by have h1 := (HD.out wr HTW.out.below).2.1.lt; omega); have hab : (a != 0) = true := by simpa using ha
    have HSZ1 := kept (HSZ.out wr HTW.out.below); have HIB := fun W => kept (pInBounds_any a (S.pages.length : Int) W)
    cases hfb : finB (S.pages.length : Int) a with
    | false =>
      have HE : Hid (R = (4, [], [])) := kept (by rw [← HRC.out, rchain, if_neg ha, if_pos hfb]); rw [hfb] at HIB; go_wp2_with (first | (go_at_call 47; (with_reducible refine (HSZ1.out).mono ?_); rintro e w1 ⟨rfl, rfl⟩) | (go_at_call 83; (with_reducible refine ((HIB _).out).mono ?_); rintro e w1 ⟨rfl, rfl⟩))
      go_returns; rw [HE.out]; exact ⟨none, 0, 0, none, 0, 0, rfl, kept (two_nil HTW.out.below)⟩
    | true =>
      rw [hfb] at HIB; have HCT := kept (contains_any A n c C a wr HTW.out.ca.reads (by omega)); have hrange : 2 ≤ a ∧ a < (S.pages.length : Int) := by simpa [finB] using hfb
      by_cases hac : a ∈ C
      · have HE : Hid (R = (4, [], [])) := kept (by rw [← HRC.out, rchain, if_neg ha, if_neg (by rw [hfb]; decide), if_pos hac]); rw [decide_eq_true hac] at HCT; clear hac; go_wp2_with (first | (go_at_call 47; (with_reducible refine (HSZ1.out).mono ?_); rintro e w1 ⟨rfl, rfl⟩) | (go_at_call 83; (with_reducible refine ((HIB _).out).mono ?_); rintro e w1 ⟨rfl, rfl⟩) | (go_at_call 84; (with_reducible refine (HCT.out).mono ?_); rintro e w1 ⟨rfl, rfl⟩))
        go_returns; rw [HE.out]; exact ⟨none, 0, 0, none, 0, 0, rfl, kept (two_nil HTW.out.below)⟩
      · rw [decide_eq_false hac] at HCT; have HR1 := kept (HRP.out wr a HTW.out.below (by omega) hrange.2); have HRC2 : Hid ((if (decPg (S.page a)).2 ≠ 0 then ((decPg (S.page a)).2, [], []) else if (decPg (S.page a)).1.kind ≠ 4 then (4, [], []) else rchain S q (decPg (S.page a)).1.next (C ++ [a]) (I ++ (decPg (S.page a)).1.ids)) = R) := kept (by
         have := HRC.out; rw [rchain, if_neg ha, if_neg (by rw [hfb]; decide), if_neg hac] at this; exact this)
        have HAC := kept hac; have HRG := kept hrange; have HIL := kept (decPg_ids (S.page a)); clear HRC hac hrange hfb; generalize decPg (S.page a) = D at HR1 HRC2 HIL; obtain ⟨Q, er⟩ := D; simp only at HR1 HRC2 HIL; by_cases he : er = 0
        · subst he; by_cases hk4 : Q.kind = 4
          · have HE : Hid (rchain S q Q.next (C ++ [a]) (I ++ Q.ids) = R) := kept (by
             have := HRC2.out; rw [if_neg (by simp), if_neg (by simpa using hk4)] at this; exact this)
            have HK4 := kept hk4; clear HRC2 hk4; go_wp2_with (first | (go_at_call 47; (with_reducible refine HSZ1.out.mono ?_); rintro e w1 ⟨rfl, rfl⟩) | (go_at_call 83; (with_reducible refine (HIB _).out.mono ?_); rintro e w1 ⟨rfl, rfl⟩) | (go_at_call 84; (with_reducible refine HCT.out.mono ?_); rintro e w1 ⟨rfl, rfl⟩) | (go_at_call 85; (with_reducible refine HR1.out.mono ?_); rintro e w2 ⟨l, rfl, hs, hb2⟩; obtain ⟨kind, txn, next, a1, n1, k1, a2, n2, k2, a3, n3, k3, a4, n4, k4⟩ := l; have HB2 := kept hb2; have HRD := kept hs.out; have hkd : kind = 4 := (hs.out.here.kind.symm.trans HK4.out); subst hkd; clear hs hb2))
            have HX3 : Hid (Blk (w2.alloc (.cells #[.int .i64 4, .int .u64 txn, .int .i64 next, .slice a1 n1 k1, .slice a2 n2 k2, .slice a3 n3 k3, .slice a4 n4 k4] 137)) w2.heap.size 137 [.int .i64 4, .int .u64 txn, .int .i64 next, .slice a1 n1 k1, .slice a2 n2 k2, .slice a3 n3 k3, .slice a4 n4 k4]) := kept (Blk.new w2 137 #[.int .i64 4, .int .u64 txn, .int .i64 next, .slice a1 n1 k1, .slice a2 n2 k2, .slice a3 n3 k3, .slice a4 n4 k4]); have HB3 : Hid (Below wr.heap.size wr (w2.alloc (.cells #[.int .i64 4, .int .u64 txn, .int .i64 next, .slice a1 n1 k1, .slice a2 n2 k2, .slice a3 n3 k3, .slice a4 n4 k4] 137))) := kept (HB2.out.alloc HB2.out.size _); have HS3 := kept (HRD.out.belowS HPOS.out ((Below.refl _ w2).alloc (Nat.le_refl _) (.cells #[.int .i64 4, .int .u64 txn, .int .i64 next, .slice a1 n1 k1, .slice a2 n2 k2, .slice a3 n3 k3, .slice a4 n4 k4] 137))); have hn4 : n4 ≤ 59 := by have h1 := HRD.out.here.n4; have h2 := HIL.out; have h3 : Q.ids.length = n4 := h1; omega
            have HNX : Hid (Q.next = next) := kept HRD.out.here.next; generalize (w2.alloc (.cells #[.int .i64 4, .int .u64 txn, .int .i64 next, .slice a1 n1 k1, .slice a2 n2 k2, .slice a3 n3 k3, .slice a4 n4 k4] 137)) = W3 at HX3 HB3 HS3 ⊢; have HT3 := kept (HTW.out.on HB3.out); have hm1 : n + 1 ≤ 1000000 := by omega
            have hm2 : m + n4 ≤ 1000000 := by omega
            have HXW : Hid (∀ W : World, Below W3.heap.size W3 W → W.cell? ⟨w2.heap.size, 6, none⟩ = some (.slice a4 n4 k4)) := kept (fun W hb => (HX3.out.below hb HX3.out.lt).cell 6); clear HRD HB2; refine wp_region_held_drew (S := (fun W' => W'.cell? ⟨w2.heap.size, 6, none⟩ = some (.slice a4 n4 k4))) (by kernel_rfl) ?_ (fun hHeld => ?_)
            · ((try dsimp only); (with_reducible first | exact HXW.out _ (Below.refl _ _).drew | exact HXW.out _ (below_ad _ _) | exact HX4.out | exact HX7.out.2))
            refine hT 0 (some 33) ?_; refine hT 1 (some 34) ?_; refine hT 4 (some 37) ?_; refine hT 5 (some 38) ?_; refine hT 6 (some 39) ?_; refine hR 2 (fun K hK => ?_); go_simp; refine hK.out _ _ ?_ (fun hHeld => ?_)
            · ((try dsimp only); (with_reducible first | exact HXW.out _ (Below.refl _ _).drew | exact HXW.out _ (below_ad _ _) | exact HX4.out | exact HX7.out.2))
            clear hK K; (try simp only [Act.put, hA, h0, h1]); refine hR 3 (fun K hK => ?_)
            (refine wp_append_i (.tmp 33) (.tmp 35) rfl rfl rfl ((HT3.out.on (below_ad _ _)).ca) ((RdI.oneI W3 a).below (Below.refl _ _).drew) hm1 ?_; intro A4 c4 w4 h4 t4 g4; have HT4 := kept ((HT3.out.on (below_ad W3 _)).growA h4 t4 g4); have HS4 := kept ((HS3.out.belowS HPOS.out (below_ad W3 _)).turnedA HPOS.out t4 (fun g hg => HTW.out.ca.lt hg)); have HB4 := kept ((HX3.out.below (below_ad W3 (.cells #[.int .i64 a] 3)) HX3.out.lt).turnI t4 (fun g hg => ((HT3.out.on (below_ad W3 _)).ca.cl hg))); have HX4 : Hid (w4.cell? ⟨w2.heap.size, 6, none⟩ = some (.slice a4 n4 k4)) := kept (HB4.out.cell 6); clear h4 t4 g4)
            refine hK.out _ _ ?_ (fun hHeld => ?_)
            · ((try dsimp only); (with_reducible first | exact HXW.out _ (Below.refl _ _).drew | exact HXW.out _ (below_ad _ _) | exact HX4.out | exact HX7.out.2))
            clear hK K; (try simp only [Act.put, hA, h0, h1]); refine hR 7 (fun K hK => ?_)
            (refine wp_append_i (.tmp 37) (.tmp 39) rfl rfl rfl HT4.out.ib HS4.out.here.ri hm2 ?_; intro B7 d7 w7 h7 t7 g7; have HT7 := kept (HT4.out.growB h7 t7 g7); have HB7 := kept (HB4.out.turnI t7 (fun g hg => HT4.out.ib.cl hg)); have HX7 : Hid (w7.cell? ⟨w2.heap.size, 2, none⟩ = some (.int .i64 next) ∧ w7.cell? ⟨w2.heap.size, 6, none⟩ = some (.slice a4 n4 k4)) := kept ⟨HB7.out.cell 2, HB7.out.cell 6⟩; clear h7 t7 g7)
            refine hK.out _ _ ?_ (fun hHeld => ?_)
            · ((try dsimp only); (with_reducible first | exact HXW.out _ (Below.refl _ _).drew | exact HXW.out _ (below_ad _ _) | exact HX4.out | exact HX7.out.2))
            clear hK K; (try simp only [Act.put, hA, h0, h1]); refine hT 8 (some 4) ?_; refine hT 9 (some 5) ?_; refine wpAnyH_done (by kernel_rfl) ?_ _; have hx7 := HX7.out.1; have HE7 : Hid (RcK S w R next A4 (n + 1) c4 B7 (m + n4) d7 w7) := kept ⟨C ++ [a], I ++ Q.ids, HT7.out, nodup_snoc.2 ⟨HND.out, HAC.out⟩, fun x hx => by
             rcases List.mem_append.1 hx with hx | hx
             · exact HCB.out x hx
             · obtain rfl := List.mem_singleton.1 hx; exact HRG.out, by
             have h1 := HTW.out.ib.1; have h2 := HN.out; have h3 := HIL.out; simp only [List.length_append, List.length_singleton]
             omega, by
             have h1 : 1100 - (C ++ [a]).length = q := by have := HN.out; simp only [List.length_append, List.length_singleton]; omega
             rw [h1, ← HNX.out]; exact HE.out⟩
            go_wp2; go_roundw
            case rel => exact ⟨next, A4, n + 1, c4, B7, m + n4, d7, rfl, rfl, rfl, HE7⟩
            case measure => simp [lenS]; omega
          · have HE : Hid (R = (4, [], [])) := kept (by
             have := HRC2.out; rw [if_neg (by simp), if_pos hk4] at this; exact this.symm)
            have HK4 := kept hk4; clear HRC2 hk4; go_wp2_with (first | (go_at_call 47; (with_reducible refine HSZ1.out.mono ?_); rintro e w1 ⟨rfl, rfl⟩) | (go_at_call 83; (with_reducible refine (HIB _).out.mono ?_); rintro e w1 ⟨rfl, rfl⟩) | (go_at_call 84; (with_reducible refine HCT.out.mono ?_); rintro e w1 ⟨rfl, rfl⟩) | (go_at_call 85; (with_reducible refine HR1.out.mono ?_); rintro e w2 ⟨l, rfl, hs, hb2⟩; obtain ⟨kind, txn, next, a1, n1, k1, a2, n2, k2, a3, n3, k3, a4, n4, k4⟩ := l; have HB2 := kept hb2; have hkd : (kind != 4) = true := (by have h1 : Q.kind = kind := hs.out.here.kind; have h2 := HK4.out; rw [h1] at h2; simpa using h2); clear hs hb2))
            go_returns; rw [HE.out]; exact ⟨none, 0, 0, none, 0, 0, rfl, kept (two_nil (HTW.out.below.trans ((HB2.out.alloc HB2.out.size _).mono HTW.out.below.size)))⟩
        · have HE : Hid (R = (er, [], [])) := kept (by
           have := HRC2.out; rw [if_pos he] at this; exact this.symm)
          have heb : (er != 0) = true := by simpa using he
          clear HRC2 he; go_wp2_with (first | (go_at_call 47; (with_reducible refine HSZ1.out.mono ?_); rintro e w1 ⟨rfl, rfl⟩) | (go_at_call 83; (with_reducible refine (HIB _).out.mono ?_); rintro e w1 ⟨rfl, rfl⟩) | (go_at_call 84; (with_reducible refine HCT.out.mono ?_); rintro e w1 ⟨rfl, rfl⟩) | (go_at_call 85; (with_reducible refine HR1.out.mono ?_); rintro e w2 ⟨l, rfl, hs, hb2⟩; obtain ⟨kind, txn, next, a1, n1, k1, a2, n2, k2, a3, n3, k3, a4, n4, k4⟩ := l; have HB2 := kept hb2; clear hs hb2))
          go_returns; rw [HE.out]; exact ⟨none, 0, 0, none, 0, 0, rfl, kept (two_nil (HTW.out.below.trans ((HB2.out.alloc HB2.out.size _).mono HTW.out.below.size)))⟩
theorem RdI.one7 (w : World) (x : Int) : RdI (w.alloc (.cells #[.int .i64 x] 3)) (some ⟨w.heap.size, 0, none⟩) 1 [x] :=
 ⟨rfl, fun _ => ⟨_, 0, rfl, fun j hj => by
  obtain rfl : j = 0 := by simpa using hj
  exact (Blk.new w 3 #[.int .i64 x]).cell 0⟩⟩
theorem putS_done : ∀ (l : List Sheet) (S : St), (putS S l).1.done ≤ S.done + l.length + 1
 | [], S => by
   show S.trySync.done ≤ S.done + 0 + 1; unfold St.trySync
   split
   · omega
   · exact Nat.le_refl _
 | x :: r, S => by
   unfold putS
   split
   · have h1 := putS_done r (S.tryWrite x.1 x.2); have h2 := try_done S x.1 x.2; simp only [List.length_cons]; omega
   · simp only [List.length_cons]; omega
theorem begin_any {w : World} (r fr : Nat) (v0 v1 v2 v3 v4 v5 v6 v7 v8 v9 : Value) (h : Blk w r 90 [v0, v1, v2, v3, v4, v5, v6, v7, v8, v9]) (m : Mt) (A : Option Addr) (n c : Nat) :
 Calls Tryz.prog 45 #[.pointer (some ⟨r, 0, none⟩), m.val, .slice A n c, .pointer (some ⟨fr, 0, none⟩)] w fun e w' => e = .returned (.tuple #[]) ∧
  Hid (∃ mb, w.heap.size ≤ mb ∧ Blk w' r 90 [v0, .int .u64 (m.txn : Int), .int .i64 m.root, .int .i64 m.spare, .int .i64 m.size, .slice A n c, v6, .int .i64 m.root, .pointer (some ⟨fr, 0, none⟩), .map (some mb)] ∧ Mv w' mb 1022 (fun _ => none) ∧ Turned w w' (fun j => j = r)) := by
 have hlt := h.lt; have hmm := @run_makeMap Tryz.prog; obtain ⟨t, rt, sp, z⟩ := m; have hne : r ≠ w.heap.size := by omega
 have hne2 : r ≠ w.heap.size + 1 := by omega
 have H := kept h; have c1 : w.cell? ⟨r, 1, none⟩ = some v1 := h.cell 1; have z1 := h.frozen 1; have c2 : w.cell? ⟨r, 2, none⟩ = some v2 := h.cell 2; have z2 := h.frozen 2; have c3 : w.cell? ⟨r, 3, none⟩ = some v3 := h.cell 3; have z3 := h.frozen 3; have c4 : w.cell? ⟨r, 4, none⟩ = some v4 := h.cell 4; have z4 := h.frozen 4; have c5 : w.cell? ⟨r, 5, none⟩ = some v5 := h.cell 5; have z5 := h.frozen 5; have c7 : w.cell? ⟨r, 7, none⟩ = some v7 := h.cell 7; have z7 := h.frozen 7; have c8 : w.cell? ⟨r, 8, none⟩ = some v8 := h.cell 8; have z8 := h.frozen 8; have c9 : w.cell? ⟨r, 9, none⟩ = some v9 := h.cell 9; have z9 := h.frozen 9; clear h; go_enter Tryz.func45, Tryz.ntmps45; go_wp2; have hb := (((((((H.out.set_ 1 (.int .u64 (t : Int))).set_ 2 (.int .i64 rt)).set_ 3 (.int .i64 sp)).set_ 4 (.int .i64 z)).set_ 5 (.slice A n c)).set_ 7 (.int .i64 rt)).set_ 8 (.pointer (some ⟨fr, 0, none⟩))).set_ 9 (.map (some (w.heap.size + 1))); simp only [List.set_cons_zero, List.set_cons_succ] at hb; have ht : Turned w ((((((((w.setCell ⟨r, 1, none⟩ (.int .u64 (t : Int))).setCell ⟨r, 2, none⟩ (.int .i64 rt)).setCell ⟨r, 3, none⟩ (.int .i64 sp)).setCell ⟨r, 4, none⟩ (.int .i64 z)).setCell ⟨r, 5, none⟩ (.slice A n c)).setCell ⟨r, 7, none⟩ (.int .i64 rt)).setCell ⟨r, 8, none⟩ (.pointer (some ⟨fr, 0, none⟩))).setCell ⟨r, 9, none⟩ (.map (some (w.heap.size + 1)))) (fun j => j = r) := ((((((((Turned.refl w (fun j => j = r)).setCell (fun _ => rfl) (.int .u64 (t : Int))).setCell (fun _ => rfl) (.int .i64 rt)).setCell (fun _ => rfl) (.int .i64 sp)).setCell (fun _ => rfl) (.int .i64 z)).setCell (fun _ => rfl) (.slice A n c)).setCell (fun _ => rfl) (.int .i64 rt)).setCell (fun _ => rfl) (.pointer (some ⟨fr, 0, none⟩))).setCell (fun _ => rfl) (.map (some (w.heap.size + 1))); have hs : ((((((((w.setCell ⟨r, 1, none⟩ (.int .u64 (t : Int))).setCell ⟨r, 2, none⟩ (.int .i64 rt)).setCell ⟨r, 3, none⟩ (.int .i64 sp)).setCell ⟨r, 4, none⟩ (.int .i64 z)).setCell ⟨r, 5, none⟩ (.slice A n c)).setCell ⟨r, 7, none⟩ (.int .i64 rt)).setCell ⟨r, 8, none⟩ (.pointer (some ⟨fr, 0, none⟩))).setCell ⟨r, 9, none⟩ (.map (some (w.heap.size + 1)))).heap.size = w.heap.size := by simp [World.setCell]
 generalize ((((((((w.setCell ⟨r, 1, none⟩ (.int .u64 (t : Int))).setCell ⟨r, 2, none⟩ (.int .i64 rt)).setCell ⟨r, 3, none⟩ (.int .i64 sp)).setCell ⟨r, 4, none⟩ (.int .i64 z)).setCell ⟨r, 5, none⟩ (.slice A n c)).setCell ⟨r, 7, none⟩ (.int .i64 rt)).setCell ⟨r, 8, none⟩ (.pointer (some ⟨fr, 0, none⟩))).setCell ⟨r, 9, none⟩ (.map (some (w.heap.size + 1)))) = X at hb ht hs ⊢
 go_end0
 refine ⟨rfl, kept ⟨w.heap.size + 1, by omega, (hb.alloc _).alloc _, ?_, (ht.alloc _).alloc _⟩⟩; have hm := (Mv.made (X.alloc (.cells #[.int .u64 (t : Int), .int .i64 rt, .int .i64 sp, .int .i64 z] 88))).mono (k' := 1022) (by omega); rw [World.size_alloc, hs] at hm; exact hm
def openE (S : St) : Int :=
 if (chooseM (S.page 0) (S.page 1)).2 ≠ 0 then (chooseM (S.page 0) (S.page 1)).2
 else if (chooseM (S.page 0) (S.page 1)).1.size ≠ (S.pages.length : Int) then 4
 else if (rchain S 1100 (chooseM (S.page 0) (S.page 1)).1.spare [] []).1 ≠ 0 then (rchain S 1100 (chooseM (S.page 0) (S.page 1)).1.spare [] []).1
 else if newErr (chooseM (S.page 0) (S.page 1)).1.size ((rchain S 1100 (chooseM (S.page 0) (S.page 1)).1.spare [] []).2.1 ++ (rchain S 1100 (chooseM (S.page 0) (S.page 1)).1.spare [] []).2.2) ≠ 0 then 4 else 0
def openS (S : St) : PSt :=
 ⟨(chooseM (S.page 0) (S.page 1)).1, (rchain S 1100 (chooseM (S.page 0) (S.page 1)).1.spare [] []).2.1, (chooseM (S.page 0) (S.page 1)).1.root,
   ⟨(chooseM (S.page 0) (S.page 1)).1.size, addAll [] (rchain S 1100 (chooseM (S.page 0) (S.page 1)).1.spare [] []).2.2, []⟩, fun _ => none⟩
theorem choose_txn (xs ys : List UInt8) : (chooseM xs ys).1.txn < 18446744073709551616 := by
 have h : ∀ (zs : List UInt8) (k : Int), (standM zs k).1.txn < 18446744073709551616 := fun zs k => by
  unfold standM
  split
  · exact decM_txn zs
  · show (0 : Nat) < _; omega
 unfold chooseM
 split
 · exact h ys 1
 · split
   · exact h xs 0
   · show (0 : Nat) < _; omega
theorem openE_zero {S : St} (h : openE S = 0) : (chooseM (S.page 0) (S.page 1)).2 = 0 ∧ (chooseM (S.page 0) (S.page 1)).1.size = (S.pages.length : Int) ∧ (rchain S 1100 (chooseM (S.page 0) (S.page 1)).1.spare [] []).1 = 0 ∧
 newErr (S.pages.length : Int) ((rchain S 1100 (chooseM (S.page 0) (S.page 1)).1.spare [] []).2.1 ++ (rchain S 1100 (chooseM (S.page 0) (S.page 1)).1.spare [] []).2.2) = 0 := by
 unfold openE at h
 split at h
 · contradiction
 · rename_i h1
   split at h
   · omega
   · rename_i h2
     split at h
     · contradiction
     · rename_i h3
       split at h
       · omega
       · rename_i h4
         have h2 := Classical.not_not.1 h2; rw [h2] at h4; exact ⟨Classical.not_not.1 h1, h2, Classical.not_not.1 h3, Classical.not_not.1 h4⟩
theorem openS_ok {S : St} (h : openE S = 0) : (openS S).ok S.pages.length := by
 obtain ⟨h1, h2, h3, h4⟩ := openE_zero h; obtain ⟨hz, hb, hn⟩ := newErr_zero h4; rw [List.nodup_append] at hn; refine ⟨h2, h2, choose_txn _ _, hn.1, fun x hx => hb x (List.mem_append_left _ hx), fun x hx => ⟨fun hm => ?_, fun hm => (by cases hm)⟩, fun x _ hm => (by cases hm), fun x bs e => (by cases e)⟩; have hm : x ∈ addAll [] (rchain S 1100 (chooseM (S.page 0) (S.page 1)).1.spare [] []).2.2 := hm; rcases mem_addAll.1 hm with hm | hm
 · cases hm
 · exact hn.2.2 x hx x hm rfl
theorem concat2 (W : World) (g : Nat) (A B : Option Addr) (n c m d : Nat) (C I : List Int) (h0 : W.cell? ⟨g, 0, none⟩ = some (.slice A n c)) (h1 : W.cell? ⟨g, 1, none⟩ = some (.slice B m d)) (r0 : RdI W A n C) (r1 : RdI W B m I) (hl : C.length + I.length ≤ 100000) :
 Calls Tryz.prog 50 #[.slice (some ⟨g, 0, none⟩) 2 2] W fun e w' => ∃ A' c', e = .returned (.slice A' (n + m) c') ∧ Hid (Says W w' (C ++ I) A' c') := by
 have e : catI (fun k => if k = 0 then C else I) 2 = C ++ I := by simp [catI]
 have hc : C.length = n := r0.1; have hi : I.length = m := r1.1; have h := concat_any_i g 2 (fun k => if k = 0 then A else B) (fun k => if k = 0 then c else d) (fun k => if k = 0 then C else I) W (fun k hk => by
  rcases (show k = 0 ∨ k = 1 by omega) with rfl | rfl
  · show W.cell? ⟨g, 0, none⟩ = some (.slice A C.length c) ∧ RdI W A C.length C; rw [hc]; exact ⟨h0, r0⟩
  · show W.cell? ⟨g, 1, none⟩ = some (.slice B I.length d) ∧ RdI W B I.length I; rw [hi]; exact ⟨h1, r1⟩) (by omega) (by rw [e, List.length_append]; omega)
 rw [e] at h; refine h.mono ?_; rintro e' w' ⟨A', c', rfl, hs⟩; rw [List.length_append, hc, hi]; exact ⟨A', c', rfl, hs⟩
theorem open_ok (d : Dk) (S : St) (w : World) (h : Dsk w d S) (hf : S.fuse ≠ 0) (hF : Fours w) (hE : openE S = 0) :
 Calls Tryz.prog 15 #[.pointer (some ⟨d.r, 0, none⟩)] w fun e w' => ∃ p : Pgl, e = .returned (.tuple #[.pointer (some ⟨p.r, 0, none⟩), .int .i64 0]) ∧ Hid (p.d = d ∧ Pgr w' p (openS S) S ∧ Below w.heap.size w w' ∧ ∀ j, p.own j → w.heap.size ≤ j) := by
 have H := kept h; obtain ⟨h1, h2, h3, h4⟩ := openE_zero hE; have HOK := kept (openS_ok hE); have HNW := kept (newest_any d S w h hf hF); have HOS : Hid (openS S = ⟨(chooseM (S.page 0) (S.page 1)).1, (rchain S 1100 (chooseM (S.page 0) (S.page 1)).1.spare [] []).2.1, (chooseM (S.page 0) (S.page 1)).1.root, ⟨(chooseM (S.page 0) (S.page 1)).1.size, addAll [] (rchain S 1100 (chooseM (S.page 0) (S.page 1)).1.spare [] []).2.2, []⟩, fun _ => none⟩) := rfl; generalize openS S = O at HOK HOS ⊢; generalize chooseM (S.page 0) (S.page 1) = D at h1 h2 h3 h4 HNW HOS; obtain ⟨⟨t, rt, sp, sz⟩, er⟩ := D; simp only at h1 h2 h3 h4 HNW HOS; subst h1; have HRC := kept (fun (W : World) (hb : Below w.heap.size w W) => readChain_any d S sp W (h.below hb) hf (hF.below hb)); generalize rchain S 1100 sp [] [] = R at h3 h4 HRC HOS; obtain ⟨er, C, I⟩ := R; simp only at h3 h4 HRC HOS; subst h3; obtain ⟨z, hz⟩ : ∃ z, S.pages.length = z := ⟨_, rfl⟩
 have HSZ := kept (fun (W : World) (hb : Below w.heap.size w W) => size_any d S W (h.below hb)); have HZ := kept hz; rw [hz] at h2 h4 HSZ; subst h2; have hnz := newErr_zero h4; have HNZ := kept hnz; have hz1024 : z ≤ 1024 := by have := h.1.2.1; omega
 have hlen : C.length + I.length ≤ 1022 := by
  have := nodup_short (z := z) hnz.2.2 hnz.2.1 hz1024
  rwa [List.length_append] at this
 have HN2 : Hid (newErr (z : Int) I = 0) := kept (by
  unfold newErr; rw [if_neg (by omega), if_pos (List.all_eq_true.2 (fun x hx => by have := hnz.2.1 x (List.mem_append_right _ hx); simp [finB]; omega)), if_pos ((List.nodup_append.1 hnz.2.2).2.1)])
 have HN4 := kept h4; clear h hf hF hE h4 hz hnz; go_enter Tryz.func15, Tryz.ntmps15; go_wp2_with fail
 with_reducible refine HNW.out.mono ?_
 rintro e w1 ⟨rfl, hb1⟩; have HB1 := kept hb1; clear hb1 HNW; go_wp2; have HM2 : Hid (Blk (w1.alloc (.cells #[.int .u64 (t : Int), .int .i64 rt, .int .i64 sp, .int .i64 (z : Int)] 88)) w1.heap.size 88 [.int .u64 (t : Int), .int .i64 rt, .int .i64 sp, .int .i64 (z : Int)]) := kept (Blk.new w1 88 #[.int .u64 (t : Int), .int .i64 rt, .int .i64 sp, .int .i64 (z : Int)]); have HB2 : Hid (Below w.heap.size w (w1.alloc (.cells #[.int .u64 (t : Int), .int .i64 rt, .int .i64 sp, .int .i64 (z : Int)] 88))) := kept (HB1.out.alloc HB1.out.size _); generalize (w1.alloc (.cells #[.int .u64 (t : Int), .int .i64 rt, .int .i64 sp, .int .i64 (z : Int)] 88)) = W2 at HM2 HB2 ⊢; have d3 : W2.drew.cell? ⟨w1.heap.size, 3, none⟩ = some (.int .i64 (z : Int)) := HM2.out.cell 3; have d2 : W2.drew.cell? ⟨w1.heap.size, 2, none⟩ = some (.int .i64 sp) := HM2.out.cell 2; have HSZ2 := kept (HSZ.out W2.drew HB2.out.drew); have HRC2 := kept (HRC.out W2.drew HB2.out.drew); clear HRC HSZ; refine wp_region_held_drew (S := (fun W' => W'.cell? ⟨w1.heap.size, 3, none⟩ = some (.int .i64 (z : Int)))) (by kernel_rfl) ?_ (fun hHeld => ?_)
 · ((try dsimp only); (with_reducible exact d3))
 refine hT 0 (some 21) ?_; refine hT 1 (some 22) ?_; refine hT 2 (some 23) ?_; refine hR 3 (fun K hK => ?_); go_simp
 ((go_at_call 47; (with_reducible refine HSZ2.out.mono ?_); rintro e w3 ⟨rfl, rfl⟩))
 (try go_wp2_with fail); refine hK.out _ _ ?_ (fun hHeld => ?_)
 · ((try dsimp only); (with_reducible exact d3))
 clear hK K; (try simp only [Act.put, hA, h0, h1]); refine hT 4 (some 25) ?_; refine wpAnyH_done (by kernel_rfl) ?_ _; go_wp2_with (first | (go_at_call 48; (with_reducible refine HRC2.out.mono ?_); rintro e w3 ⟨A, n, c, B, m, c', rfl, h3⟩))
 have HT := kept h3.out; clear h3 HRC2 HSZ2; have hn : n + m ≤ 1022 := by have h1 := HT.out.ca.1; have h2 := HT.out.ib.1; omega
 have HB3 : Hid (Below w.heap.size w w3) := kept (HB2.out.trans ((below_from_drew HT.out.below).mono HB2.out.size)); have HM3 := kept (HM2.out.below (below_from_drew HT.out.below) HM2.out.lt); have d3' : w3.drew.cell? ⟨w1.heap.size, 3, none⟩ = some (.int .i64 (z : Int)) := HM3.out.cell 3; have HMW : Hid (∀ W : World, Below w3.heap.size w3 W → W.cell? ⟨w1.heap.size, 3, none⟩ = some (.int .i64 (z : Int))) := kept (fun W hb => (HM3.out.below hb HM3.out.lt).cell 3); have HCC : Hid (Calls Tryz.prog 50 #[.slice (some ⟨w3.heap.size, 0, none⟩) 2 2] (w3.alloc (.cells #[.slice A n c, .slice B m c'] 60)).drew fun e w' => ∃ A' c'', e = .returned (.slice A' (n + m) c'') ∧ Hid (Says (w3.alloc (.cells #[.slice A n c, .slice B m c'] 60)).drew w' (C ++ I) A' c'')) := kept (by
  have hb := below_ad w3 (.cells #[.slice A n c, .slice B m c'] 60); have hk : Blk (w3.alloc (.cells #[.slice A n c, .slice B m c'] 60)).drew w3.heap.size 60 [.slice A n c, .slice B m c'] := (show Blk _ _ _ _ from Blk.new w3 60 #[.slice A n c, .slice B m c'])
  exact concat2 _ w3.heap.size A B n c m c' C I (hk.cell 0) (hk.cell 1) (HT.out.ca.below hb).reads (HT.out.ib.below hb).reads (by omega))
 refine wp_region_held_drew (S := (fun W' => W'.cell? ⟨w1.heap.size, 3, none⟩ = some (.int .i64 (z : Int)))) (by kernel_rfl) ?_ (fun hHeld => ?_)
 · ((try dsimp only); (with_reducible first | exact d3' | exact HMW.out _ (below_ad _ _) | exact HMW.out _ HB4.out | exact HMW.out _ HB5.out))
 refine hT 0 (some 38) ?_; refine hT 1 (some 39) ?_; refine hT 2 (some 40) ?_; refine hT 3 (some 41) ?_; refine hR 4 (fun K hK => ?_); go_simp; refine hK.out _ _ ?_ (fun hHeld => ?_)
 · ((try dsimp only); (with_reducible first | exact d3' | exact HMW.out _ (below_ad _ _) | exact HMW.out _ HB4.out | exact HMW.out _ HB5.out))
 clear hK K; (try simp only [Act.put, hA, h0, h1]); refine hR 5 (fun K hK => ?_); go_simp
 ((go_at_call 50; (with_reducible refine HCC.out.mono ?_); rintro e w4 ⟨A4, c4, rfl, h4⟩); have HB4 : Hid (Below w3.heap.size w3 w4) := kept ((below_ad w3 _).trans (h4.out.2.1.mono (below_ad w3 _).size)); have hl4 : (C ++ I).length = n + m := (by rw [List.length_append, HT.out.ca.1, HT.out.ib.1]); have HNG : Hid (Calls Tryz.prog 49 #[.int .i64 (z : Int), .slice A4 (n + m) c4] w4 fun e w' => ∃ f : Fl, e = .returned (.tuple #[.pointer (some ⟨f.r, 0, none⟩), .int .i64 0]) ∧ Hid (Lst w' f ⟨(z : Int), addAll [] (C ++ I), []⟩ ∧ Below w4.heap.size w4 w' ∧ ∀ j, f.own j → w4.heap.size ≤ j)) := kept (fnew_good (z : Int) A4 (n + m) c4 (C ++ I) w4 (by rw [← hl4]; exact h4.out.1.reads) (by omega) HN4.out))
 (try go_wp2_with fail); refine hK.out _ _ ?_ (fun hHeld => ?_)
 · ((try dsimp only); (with_reducible first | exact d3' | exact HMW.out _ (below_ad _ _) | exact HMW.out _ HB4.out | exact HMW.out _ HB5.out))
 clear hK K; (try simp only [Act.put, hA, h0, h1]); refine hR 6 (fun K hK => ?_); go_simp
 ((go_at_call 49; (with_reducible refine HNG.out.mono ?_); rintro e w5 ⟨f5, rfl, h5⟩); have HB5 : Hid (Below w3.heap.size w3 w5) := kept (HB4.out.trans (h5.out.2.1.mono HB4.out.size)))
 (try go_wp2_with fail); refine hK.out _ _ ?_ (fun hHeld => ?_)
 · ((try dsimp only); (with_reducible first | exact d3' | exact HMW.out _ (below_ad _ _) | exact HMW.out _ HB4.out | exact HMW.out _ HB5.out))
 clear hK K; (try simp only [Act.put, hA, h0, h1]); refine hT 7 (some 37) ?_; refine hT 8 (some 45) ?_; refine hT 9 (some 46) ?_; refine hT 10 (some 8) ?_; refine hT 11 (some 9) ?_; refine wpAnyH_done (by kernel_rfl) ?_ _; have HT5 := kept (HT.out.on HB5.out); have HM5 := kept (HM3.out.below HB5.out HM3.out.lt); have d35 : w5.cell? ⟨w1.heap.size, 3, none⟩ = some (.int .i64 (z : Int)) := HM5.out.cell 3; have HN5 := kept (fnew_good (z : Int) B m c' I w5 HT5.out.ib.reads (by omega) HN2.out); go_wp2_with (first | (go_at_call 49; (with_reducible refine HN5.out.mono ?_); rintro e w6 ⟨f6, rfl, h6⟩; have hm6 := HM5.out.below h6.out.2.1 HM5.out.lt; have y0 : w6.cell? ⟨w1.heap.size, 0, none⟩ = some (.int .u64 (t : Int)) := hm6.cell 0; have y1 : w6.cell? ⟨w1.heap.size, 1, none⟩ = some (.int .i64 rt) := hm6.cell 1; have y2 : w6.cell? ⟨w1.heap.size, 2, none⟩ = some (.int .i64 sp) := hm6.cell 2; have y3 : w6.cell? ⟨w1.heap.size, 3, none⟩ = some (.int .i64 (z : Int)) := hm6.cell 3; have hlt6 := hm6.lt; clear hm6))
 have HK6 := kept (Blk.new w6 90 #[.pointer (some ⟨d.r, 0, none⟩), .int .u64 0, .int .i64 0, .int .i64 0, .int .i64 0, .slice none 0 0, .bool false, .int .i64 0, .pointer none, .map none]); have HBG := kept (begin_any w6.heap.size f6.r _ _ _ _ _ _ _ _ _ _ HK6.out ⟨t, rt, sp, (z : Int)⟩ A n c); go_wp2_with (first | (go_at_call 45; (with_reducible refine HBG.out.mono ?_); rintro e w7 ⟨rfl, h7⟩))
 go_ret2; obtain ⟨mb, hmb, hbk, hmv, ht7⟩ := h7.out; have hb6 : Below w3.heap.size w3 w6 := HB5.out.trans (h6.out.2.1.mono HB5.out.size); have hbw6 : Below w.heap.size w w6 := HB3.out.trans (hb6.mono HB3.out.size); have hbA := hbw6.alloc hbw6.size (.cells #[.pointer (some ⟨d.r, 0, none⟩), .int .u64 0, .int .i64 0, .int .i64 0, .int .i64 0, .slice none 0 0, .bool false, .int .i64 0, .pointer none, .map none] 90); have hTA := (HT.out.on hb6).on ((Below.refl w6.heap.size w6).alloc (Nat.le_refl _) (.cells #[.pointer (some ⟨d.r, 0, none⟩), .int .u64 0, .int .i64 0, .int .i64 0, .int .i64 0, .slice none 0 0, .bool false, .int .i64 0, .pointer none, .map none] 90)); have hLA := h6.out.1.below ((Below.refl w6.heap.size w6).alloc (Nat.le_refl _) (.cells #[.pointer (some ⟨d.r, 0, none⟩), .int .u64 0, .int .i64 0, .int .i64 0, .int .i64 0, .slice none 0 0, .bool false, .int .i64 0, .pointer none, .map none] 90)); have hDA := H.out.below hbA; have hKA := HK6.out; have hCn := HT.out.ca.1; have hTl := HT.out.ca; have hw36 : w3.heap.size ≤ w5.heap.size := HB5.out.size; have hcA : ∀ g, blkOf A = some g → g < w3.heap.size := fun g hg => HT.out.ca.lt hg
 have hcN : ∀ g, blkOf A = some g → w.heap.size ≤ g := fun g hg => Nat.le_trans HB2.out.size (HT.out.an g hg)
 have hf6 := h6.out.2.2; generalize (w6.alloc (.cells #[.pointer (some ⟨d.r, 0, none⟩), .int .u64 0, .int .i64 0, .int .i64 0, .int .i64 0, .slice none 0 0, .bool false, .int .i64 0, .pointer none, .map none] 90)) = W6 at hbA hTA hLA hDA hKA hmb ht7; refine ⟨⟨w6.heap.size, d, A, c, f6, mb, fun _ => none⟩, rfl, kept ⟨rfl, ⟨HOK.out, ?_, hDA.turned ht7 (fun i hi e => hDA.own_cl hKA.cl (by decide) (by decide) (e ▸ hi)), ?_, ?_, ?_, fun g hg hfo => ?_, fun e => ?_⟩, ht7.only_new hbA hbA.size (fun i hi => by rw [hi]; exact hbw6.size), fun j hj => ?_⟩⟩
 · rw [HOS.out]; show Blk w7 w6.heap.size _ [.pointer (some ⟨d.r, 0, none⟩), .int .u64 (t : Int), .int .i64 rt, .int .i64 sp, .int .i64 (z : Int), .slice A C.length c, .bool false, .int .i64 rt, .pointer (some ⟨f6.r, 0, none⟩), .map (some mb)]; rw [hCn]; exact hbk
 · rw [HOS.out]; show OwI w7 A C.length c C; rw [hCn]; exact hTA.ca.turned ht7 (fun g hg e => absurd ((hTA.ca.cl hg).uniq (e ▸ hKA.cl)) (by decide))
 · rw [HOS.out]; refine hLA.turned ht7 (fun j hj e => ?_); rcases hLA.own_cl hj with hc | hc <;> exact absurd (hc.uniq (e ▸ hKA.cl)) (by decide)
 · rw [HOS.out]; exact ⟨hmv, AdV.empty _⟩
 · have h1 := hcA g hg; have h2 := hf6 g hfo; omega
 · have h1 := hDA.lt d.m (.inr (.inr rfl)); have h2 : mb = d.m := e; omega
 · rcases hj with hj | hj | hj | hj
   · rw [hj]; exact hbw6.size
   · exact hcN j hj
   · have h1 := hf6 j hj; have h2 := HB3.out.size; omega
   · have h1 := hbA.size; have h2 : j = mb := hj; omega
section
variable {w W W' : World} {b1 b3 q : Nat} {root hdn size i : Int} {A3 : Option Addr} {c3 : Nat} {xs : List UInt8} {r1 : Nat} {L : FSt} {A1 : Option Addr} {K c1 : Nat} {C : List Int}
end
theorem OwSh.two (w : World) (a b : Int) (A B : Option Addr) (c d : Nat) (xs ys : List UInt8) (hA : OwB w A 256 c xs) (hB : OwB w B 256 d ys) : OwSh (w.alloc (.cells #[.int .i64 a, .slice A 256 c, .int .i64 b, .slice B 256 d] 95)) (some ⟨w.heap.size, 0, none⟩) 2 2 [(a, xs), (b, ys)] := by
 refine ⟨[⟨a, A, c⟩, ⟨b, B, d⟩], rfl, rfl, ?_, fun k h1 h2 => ?_⟩
 · exact ⟨rfl, .inr ⟨w.heap.size, 2, _, rfl, Nat.zero_le _, heap_alloc_new w _, Nat.le_refl _, by decide, rfl, rfl⟩⟩
 · have hb := (Below.refl w.heap.size w).alloc (Nat.le_refl _) (.cells #[.int .i64 a, .slice A 256 c, .int .i64 b, .slice B 256 d] 95); have h1 : k < 2 := h1; rcases (show k = 0 ∨ k = 1 by omega) with rfl | rfl
   · exact ⟨rfl, hA.below hb⟩
   · exact ⟨rfl, hB.below hb⟩
def allIds (z : Nat) : List Int := (List.range (z - 2)).map fun i : Nat => ((i + 2 : Nat) : Int)
theorem allIds_length (z : Nat) : (allIds z).length = z - 2 := by simp [allIds]
theorem allIds_rising (z : Nat) : Rising (allIds z) := by
 unfold allIds; refine List.pairwise_map.2 ?_; exact List.pairwise_lt_range.imp fun h => by omega
theorem mem_allIds {z : Nat} {x : Int} : x ∈ allIds z ↔ 2 ≤ x ∧ x < (z : Int) := by
 unfold allIds; rw [List.mem_map]; constructor
 · rintro ⟨i, hi, rfl⟩; rw [List.mem_range] at hi; omega
 · intro h; exact ⟨x.toNat - 2, by rw [List.mem_range]; omega, by omega⟩
theorem allIds_take (z k : Nat) (h : k < z - 2) : (allIds z).take (k + 1) = (allIds z).take k ++ [((k + 2 : Nat) : Int)] := by
 rw [List.take_succ_eq_append_getElem (by rw [allIds_length]; exact h)]; simp [allIds]
def meta0 (z : Nat) : Mt := ⟨0, 0, 0, (z : Int)⟩
def meta1 (z : Nat) : Mt := ⟨1, 0, 2, (z : Int)⟩
def formatL (z : Nat) : List Sheet := [(0, sealed (bodyM (meta0 z))), (1, sealed (bodyM (meta1 z)))] ++ layC 1 ((allIds z).take (needN (z - 2))) ((allIds z).drop (needN (z - 2)))
theorem needN_le (n : Nat) (h : 1 ≤ n) : needN n ≤ n ∧ 1 ≤ needN n := by unfold needN; omega
theorem meta_right (z : Nat) (h1 : 8 ≤ z) (h2 : z ≤ 1024) : rightM (meta0 z) = true ∧ rightM (meta1 z) = true := by
 unfold rightM meta0 meta1 beginsB; simp; omega
theorem layMeta0_any (z : Nat) (h : rightM (meta0 z) = true) (W : World) (hF : Fours W) :
 Calls Tryz.prog 40 #[.agg #[.int .u64 0, .int .i64 0, .int .i64 0, .int .i64 (z : Int)]] W fun e w' => ∃ A c, e = .returned (.tuple #[.agg #[.int .i64 0, .slice A 256 c], .int .i64 0]) ∧ Hid (OwB w' A 256 c (sealed (bodyM (meta0 z)))) ∧ Below W.heap.size W w' := by
 have hl := layMeta_any (meta0 z) 0 (by rw [h]; rfl) W (by show (0 : Nat) < _; omega) hF; refine Calls.mono hl ?_; rintro e w' ⟨A, n, c, rfl, h2, hb⟩; obtain ⟨rfl, ho, _⟩ := h2.out rfl; exact ⟨A, c, rfl, kept ho, hb⟩
theorem layMeta1_any (z : Nat) (h : rightM (meta1 z) = true) (W : World) (hF : Fours W) :
 Calls Tryz.prog 40 #[.agg #[.int .u64 1, .int .i64 0, .int .i64 2, .int .i64 (z : Int)]] W fun e w' => ∃ A c, e = .returned (.tuple #[.agg #[.int .i64 1, .slice A 256 c], .int .i64 0]) ∧ Hid (OwB w' A 256 c (sealed (bodyM (meta1 z)))) ∧ Below W.heap.size W w' := by
 have hl := layMeta_any (meta1 z) 0 (by rw [h]; rfl) W (by show (1 : Nat) < _; omega) hF; refine Calls.mono hl ?_; rintro e w' ⟨A, n, c, rfl, h2, hb⟩; obtain ⟨rfl, ho, _⟩ := h2.out rfl; exact ⟨A, c, rfl, kept ho, hb⟩
def FmK (w : World) (d : Dk) (S : St) (z k : Nat) (A : Option Addr) (c : Nat) (wr : World) : Prop := OwI wr A k c ((allIds z).take k) ∧ Below w.heap.size w wr ∧ ∀ g, blkOf A = some g → w.heap.size ≤ g
theorem fm_next {w wr w4 : World} {d : Dk} {S : St} {z j : Nat} {A A4 : Option Addr} {c c4 : Nat} {o : Obj} (h : FmK w d S z j A c wr) (hk : (allIds z).take (j + 1) = (allIds z).take j ++ [((j + 2 : Nat) : Int)]) (h4 : OwI w4 A4 (j + 1) c4 ((allIds z).take j ++ [(j : Int) + 2])) (t4 : Turned (wr.alloc o) w4 (fun i => blkOf A = some i)) (g4 : ∀ g, blkOf A4 = some g → blkOf A = some g ∨ (wr.alloc o).heap.size ≤ g) : FmK w d S z (j + 1) A4 c4 w4 := by
 have hb : Below w.heap.size w (wr.alloc o) := h.2.1.alloc h.2.1.size _; refine ⟨by rw [hk]; exact h4, t4.only_new hb hb.size (fun i hi => h.2.2 i hi), fun g e => ?_⟩; rcases g4 g e with k | k
 · exact h.2.2 g k
 · exact Nat.le_trans hb.size k
theorem format_any (d : Dk) (S : St) (w : World) (h : Dsk w d S) (hd : S.done ≤ 800000) (hF : Fours w) :
 Calls Tryz.prog 33 #[.pointer (some ⟨d.r, 0, none⟩)] w fun e w' => e = .returned (.int .i64 (putS S (formatL S.pages.length)).2) ∧ Hid (Left w d (putS S (formatL S.pages.length)).1 w') := by
 have H := kept h; have HSZ := kept (size_any d S w h); have hz8 := h.1.1; have hz1024 := h.1.2.1; obtain ⟨z, hz⟩ : ∃ z, S.pages.length = z := ⟨_, rfl⟩
 rw [hz] at HSZ hz8 hz1024 ⊢; obtain ⟨n, hn⟩ : ∃ n, z - 2 = n := ⟨_, rfl⟩
 have hzn : n + 2 = z := by omega
 obtain ⟨k, hk⟩ : ∃ k, needN n = k := ⟨_, rfl⟩
 have hkz : k ≤ n := by have := (needN_le n (by omega)).1; omega
 have HFL : Hid (formatL z = [(0, sealed (bodyM (meta0 z))), (1, sealed (bodyM (meta1 z)))] ++ layC 1 ((allIds z).take k) ((allIds z).drop k)) := kept (by unfold formatL; rw [hn, hk]); rw [HFL.out]; have HCN := fun W => kept (chainLength_any n W (by omega))
 rw [hk] at HCN; have hm := meta_right z hz8 hz1024; have HM0 := kept (fun (W : World) (hb : Below w.heap.size w W) => layMeta0_any z hm.1 W (hF.below hb)); have HM1 := kept (fun (W : World) (hb : Below w.heap.size w W) => layMeta1_any z hm.2 W (hF.below hb)); have HLY := kept (fun (W : World) (A B : Option Addr) (c d : Nat) (hb : Below w.heap.size w W) (r1 : RdI W A k ((allIds z).take k)) (r2 : RdI W B (n - k) ((allIds z).drop k)) (hc : k ≤ c) (hd : n - k ≤ d) => layChain_any 1 k c (n - k) d A B ((allIds z).take k) ((allIds z).drop k) W r1 r2 (by omega) (by omega) hc hd (by decide) (List.Pairwise.sublist (List.drop_sublist _ _) (allIds_rising z)) (fun x hx => by have := mem_allIds.1 (List.mem_of_mem_drop hx); simp [isPg]; omega) (fun x hx => by have := mem_allIds.1 (List.mem_of_mem_take hx); simp [isPg]; omega) (hF.below hb)); have HPT := kept (fun (W : World) (A : Option Addr) (n c : Nat) (l : List Sheet) (hb : Below w.heap.size w W) (hs : RdSh W A n l) (hn : n ≤ 5000) => put_any d S A n c l W (H.out.below hb) hs hn (by omega)); have H0 : Hid (FmK w d S z 0 none 0 w) := kept ⟨OwI.nil_ _, Below.refl _ _, fun g e => (by cases e)⟩; clear h hz hk hm hF HFL hn; go_enter Tryz.func33, Tryz.ntmps33; go_wp2_with (first | (go_at_call 47; (with_reducible refine (HSZ.out).mono ?_); rintro e w1 ⟨rfl, rfl⟩))
 go_loopw [4, 5] (fun ps i wr => ∃ (j : Nat) (A : Option Addr) (c : Nat), j ≤ n ∧ i = .int .i64 ((j : Int) + 2) ∧ ps = .slice A j c ∧ Hid (FmK w d S z j A c wr)) (fun _ i _ => z - (intOf i).toNat)
 case atStart => exact ⟨0, none, 0, Nat.zero_le _, by simp, rfl, H0⟩
 case round =>
  obtain ⟨j, A, c, hj, rfl, rfl, HL⟩ := hrel; clear H0; by_cases hlt : j < n
  · have hin : (j : Int) + 2 < (z : Int) := by omega
    have hwj : IntKind.i64.wrap ((j : Int) + 2 + 1) = (j : Int) + 2 + 1 := by simp [IntKind.wrap_i64]; omega
    have HTK := kept (allIds_take z j (by omega)); have hjm : j + 1 ≤ 1000000 := by omega
    go_wp2_with (first | (at_builtin; refine wpList_append_i rfl _ _ rfl rfl rfl (HL.out.1.alloc _) (RdI.one7 wr ((j : Int) + 2)) hjm ?_; intro A4 c4 w4 h4 t4 g4; have HE : Hid (FmK w d S z (j + 1) A4 c4 w4) := kept (fm_next HL.out HTK.out h4 t4 g4); clear h4 t4 g4))
    go_roundw
    case rel => exact ⟨j + 1, A4, c4, by omega, by simp; omega, rfl, HE⟩
    case measure => simp [intOf]; omega
  · obtain rfl : j = n := by omega
    have hcmp : ¬ ((j : Int) + 2 < (z : Int)) := by omega
    have HAL : Hid ((allIds z).take j = allIds z) := kept (List.take_of_length_le (by rw [allIds_length]; omega)); have HLB := kept HL.out.2.1; go_wp2_with fail
    with_reducible refine (HCN _).out.mono ?_
    rintro e w1 ⟨rfl, rfl⟩; go_wp2_with fail
    with_reducible refine (HM0.out _ HLB.out).mono ?_
    rintro e w2 ⟨A2, c2, rfl, ho2, hb2⟩; have HO2 := ho2; have HB2 := kept (HL.out.2.1.trans (hb2.mono HL.out.2.1.size)); have HB2L := kept hb2; have HBA := kept (HB2.out.alloc HB2.out.size (.cells #[.int .i64 0, .slice A2 256 c2] 95)); clear ho2 hb2; go_wp2_with fail
    with_reducible refine (HM1.out _ HBA.out).mono ?_
    rintro e w3 ⟨A3, c3, rfl, ho3, hb3⟩; have HO3 := ho3; have HB3 := kept hb3; clear ho3 hb3; go_wp2; have HZ4 : Hid (Blk (w3.alloc (.cells #[.int .i64 1, .slice A3 256 c3] 95)) w2.heap.size 95 [.int .i64 0, .slice A2 256 c2]) := kept (((Blk.new w2 95 #[.int .i64 0, .slice A2 256 c2]).below HB3.out (by simp)).alloc _); have HO4 : Hid (Blk (w3.alloc (.cells #[.int .i64 1, .slice A3 256 c3] 95)) w3.heap.size 95 [.int .i64 1, .slice A3 256 c3]) := kept (Blk.new w3 95 #[.int .i64 1, .slice A3 256 c3]); have hb3 : Below w2.heap.size w2 w3 := ((Below.refl _ w2).alloc (Nat.le_refl _) _).trans (HB3.out.mono (by simp)); have HBY : Hid (OwB (w3.alloc (.cells #[.int .i64 1, .slice A3 256 c3] 95)) A2 256 c2 (sealed (bodyM (meta0 z))) ∧ OwB (w3.alloc (.cells #[.int .i64 1, .slice A3 256 c3] 95)) A3 256 c3 (sealed (bodyM (meta1 z)))) := kept ⟨(HO2.out.below hb3).below ((Below.refl _ _).alloc (Nat.le_refl _) _), HO3.out.below ((Below.refl _ _).alloc (Nat.le_refl _) _)⟩; have HBW4 : Hid (Below w.heap.size w (w3.alloc (.cells #[.int .i64 1, .slice A3 256 c3] 95))) := kept ((HB2.out.trans (hb3.mono HB2.out.size)).alloc (HB2.out.trans (hb3.mono HB2.out.size)).size _); have HPG : Hid (OwI (w3.alloc (.cells #[.int .i64 1, .slice A3 256 c3] 95)) A j c (allIds z)) := kept (by
     have h1 := HL.out.1; rw [HAL.out] at h1; exact ((h1.below HB2L.out).below hb3).alloc _)
    clear hb3; generalize (w3.alloc (.cells #[.int .i64 1, .slice A3 256 c3] 95)) = W4 at HZ4 HO4 HBY HBW4 HPG ⊢; obtain ⟨g, hA⟩ := HPG.out.head (by omega); subst hA; have hjc : j ≤ c := HPG.out.cap; have HS : Hid (∀ W, Below W4.heap.size W4 W → W.cell? ⟨w2.heap.size, 0, none⟩ = some (.int .i64 0) ∧ W.cell? ⟨w2.heap.size, 1, none⟩ = some (.slice A2 256 c2) ∧ W.cell? ⟨w3.heap.size, 0, none⟩ = some (.int .i64 1) ∧ W.cell? ⟨w3.heap.size, 1, none⟩ = some (.slice A3 256 c3)) := kept (fun W hb => ⟨(HZ4.out.below hb HZ4.out.lt).cell 0, (HZ4.out.below hb HZ4.out.lt).cell 1, (HO4.out.below hb HO4.out.lt).cell 0, (HO4.out.below hb HO4.out.lt).cell 1⟩); obtain ⟨P, hP⟩ : ∃ P, (if c = k then some (⟨g, 0, none⟩ : Addr) else some ⟨g, k, none⟩) = P := ⟨_, rfl⟩
    have HL4 : Hid (∀ W, Below W4.heap.size W4 W → Calls Tryz.prog 43 #[.int .u64 1, .slice (some ⟨g, 0, none⟩) k c, .slice P (j - k) (c - k)] W fun e w' => ∃ A' c', e = .returned (.slice A' k c') ∧ Hid (SaySh W w' A' k c' (layC 1 ((allIds z).take k) ((allIds z).drop k)))) := kept (fun W hb => by
     have hr := (HPG.out.below hb).reads; have hcut := hr.cut (k := k) hkz hjc; rw [Nat.zero_add, hP] at hcut; exact HLY.out W _ _ c (c - k) (HBW4.out.trans (hb.mono HBW4.out.size)) (hr.take hkz) hcut (by omega) (by omega))
    have HOT : Hid (∀ W, Below W4.heap.size W4 W → OwSh (W.alloc (.cells #[.int .i64 0, .slice A2 256 c2, .int .i64 1, .slice A3 256 c3] 95)) (some ⟨W.heap.size, 0, none⟩) 2 2 [(0, sealed (bodyM (meta0 z))), (1, sealed (bodyM (meta1 z)))]) := kept (fun W hb => OwSh.two W 0 1 A2 A3 c2 c3 _ _ (HBY.out.1.below hb) (HBY.out.2.below hb)); have HPU : Hid (∀ (W : World) (A : Option Addr) (c : Nat), Below W4.heap.size W4 W → OwSh W A (2 + k) c ([(0, sealed (bodyM (meta0 z))), (1, sealed (bodyM (meta1 z)))] ++ layC 1 ((allIds z).take k) ((allIds z).drop k)) → Calls Tryz.prog 68 #[.pointer (some ⟨d.r, 0, none⟩), .slice A (2 + k) c] W fun e w' => e = .returned (.int .i64 (putS S ([(0, sealed (bodyM (meta0 z))), (1, sealed (bodyM (meta1 z)))] ++ layC 1 ((allIds z).take k) ((allIds z).drop k))).2) ∧ Hid (Left w d (putS S ([(0, sealed (bodyM (meta0 z))), (1, sealed (bodyM (meta1 z)))] ++ layC 1 ((allIds z).take k) ((allIds z).drop k))).1 w') ∧ Hid (Turned W w' d.own)) := kept (fun W A c hb ho => by
     have hbw := HBW4.out.trans (hb.mono HBW4.out.size); exact (HPT.out W A (2 + k) c _ hbw ho.reads (by omega)).mono fun e w' ⟨h1, h2⟩ => ⟨h1, kept ⟨h2.out.1, (Turned.of_below hbw _).trans h2.out.2⟩, kept h2.out.2⟩)
    have HS9 : Hid (∀ W W', Below W4.heap.size W4 W → Turned W W' d.own → W'.cell? ⟨w2.heap.size, 0, none⟩ = some (.int .i64 0) ∧ W'.cell? ⟨w2.heap.size, 1, none⟩ = some (.slice A2 256 c2) ∧ W'.cell? ⟨w3.heap.size, 0, none⟩ = some (.int .i64 1) ∧ W'.cell? ⟨w3.heap.size, 1, none⟩ = some (.slice A3 256 c3)) := kept (fun W W' hb ht => by
     have hdw := H.out.below (HBW4.out.trans (hb.mono HBW4.out.size)); have z1 := ht.blk (HZ4.out.below hb HZ4.out.lt) (fun hj => hdw.own_cl (HZ4.out.below hb HZ4.out.lt).cl (by decide) (by decide) hj); have o1 := ht.blk (HO4.out.below hb HO4.out.lt) (fun hj => hdw.own_cl (HO4.out.below hb HO4.out.lt).cl (by decide) (by decide) hj); exact ⟨z1.cell 0, z1.cell 1, o1.cell 0, o1.cell 1⟩)
    have hk0 : (0 : Int) ≤ (k : Int) := by omega
    have hk1 : (k : Int) ≤ (j : Int) := by omega
    have hk2 : (k : Int) ≤ (c : Int) := by omega
    have hk3 : (j : Int) ≤ (c : Int) := by omega
    have hkc : k ≤ c := by omega
    clear HZ4 HO4 HBY HPG HLY HPT HO2 HO3 HB2 HB3 HBA HB2L; refine wp_region_held_drew (S := (fun W' => W'.cell? ⟨w2.heap.size, 0, none⟩ = some (.int .i64 0) ∧ W'.cell? ⟨w2.heap.size, 1, none⟩ = some (.slice A2 256 c2) ∧ W'.cell? ⟨w3.heap.size, 0, none⟩ = some (.int .i64 1) ∧ W'.cell? ⟨w3.heap.size, 1, none⟩ = some (.slice A3 256 c3))) (by kernel_rfl) ?_ (fun hHeld => ?_)
    · ((try dsimp only); (with_reducible first | exact HS.out _ (Below.refl _ _).drew | exact HS.out _ (below_ad _ _) | exact HS.out _ HB6.out | exact HS.out _ (HB6.out.alloc HB6.out.size _) | exact HS.out _ HB8.out | exact HS9.out _ _ HB8.out h9t.out))
    refine hT 0 (some 39) ?_; refine hT 1 (some 40) ?_; refine hT 2 (some 41) ?_; refine hT 4 (some 43) ?_; refine hT 5 (some 44) ?_; refine hT 6 (some 45) ?_; refine hT 7 (some 46) ?_; refine hT 8 (some 47) ?_; refine hT 9 (some 48) ?_; refine hV 3 10 (fun K hK => ?_) (fun K hK => ?_)
    · skip; go_simp; refine hK.out _ _ ?_ (fun hHeld => ?_)
      · ((try dsimp only); (with_reducible first | exact HS.out _ (Below.refl _ _).drew | exact HS.out _ (below_ad _ _) | exact HS.out _ HB6.out | exact HS.out _ (HB6.out.alloc HB6.out.size _) | exact HS.out _ HB8.out | exact HS9.out _ _ HB8.out h9t.out))
      clear hK K; (try simp only [Act.put, hA, h0, h1]); refine hR 10 (fun K hK => ?_); go_simp
      ((go_at_call 43; first | ((with_reducible refine (HL4.out _ (below_ad _ _)).mono ?_); rintro e w6 ⟨A7, c7, rfl, h7⟩; have HB6 : Hid (Below W4.heap.size W4 w6) := kept ((below_ad W4 _).trans (h7.out.2.1.mono (below_ad W4 _).size)); have HOA := kept (((HOT.out W4 (Below.refl _ _)).below (Below.refl _ _).drew).below h7.out.2.1); have HSA := kept h7.out.1.reads) | ((with_reducible refine (HL4.out _ (Below.refl _ _).drew).mono ?_); rintro e w6 ⟨A7, c7, rfl, h7⟩; have HB6 : Hid (Below W4.heap.size W4 w6) := kept (below_from_drew h7.out.2.1); have HOB := kept (HOT.out w6 HB6.out); have HSB := kept (h7.out.1.reads.below ((Below.refl _ _).alloc (Nat.le_refl _) (.cells #[.int .i64 0, .slice A2 256 c2, .int .i64 1, .slice A3 256 c3] 95))))))
      (try go_wp2_with fail); refine hK.out _ _ ?_ (fun hHeld => ?_)
      · ((try dsimp only); (with_reducible first | exact HS.out _ (Below.refl _ _).drew | exact HS.out _ (below_ad _ _) | exact HS.out _ HB6.out | exact HS.out _ (HB6.out.alloc HB6.out.size _) | exact HS.out _ HB8.out | exact HS9.out _ _ HB8.out h9t.out))
      clear hK K; (try simp only [Act.put, hA, h0, h1]); refine hR 11 (fun K hK => ?_)
      (first | (refine wp_append_sh (.tmp 42) (.tmp 49) rfl rfl rfl HOA.out HSA.out (by omega) ?_; intro A8 c8 w8 h8 t8 g8; have HB8 : Hid (Below W4.heap.size W4 w8) := kept (t8.only_new HB6.out HB6.out.size (fun i hi => by cases hi; exact Nat.le_refl _))) | (refine wp_append_sh (.tmp 42) (.tmp 49) rfl rfl rfl HOB.out HSB.out (by omega) ?_; intro A8 c8 w8 h8 t8 g8; have HB8 : Hid (Below W4.heap.size W4 w8) := kept (t8.only_new (HB6.out.alloc HB6.out.size _) (HB6.out.alloc HB6.out.size _).size (fun i hi => by cases hi; exact HB6.out.size)))); have H8 := kept h8; clear h8 t8 g8
      refine hK.out _ _ ?_ (fun hHeld => ?_)
      · ((try dsimp only); (with_reducible first | exact HS.out _ (Below.refl _ _).drew | exact HS.out _ (below_ad _ _) | exact HS.out _ HB6.out | exact HS.out _ (HB6.out.alloc HB6.out.size _) | exact HS.out _ HB8.out | exact HS9.out _ _ HB8.out h9t.out))
      clear hK K; (try simp only [Act.put, hA, h0, h1]); refine hR 12 (fun K hK => ?_); go_simp
      ((go_at_call 68; (with_reducible refine (HPU.out _ _ _ HB8.out H8.out).mono ?_); rintro e w9 ⟨rfl, h9, h9t⟩))
      (try go_wp2_with fail); refine hK.out _ _ ?_ (fun hHeld => ?_)
      · ((try dsimp only); (with_reducible first | exact HS.out _ (Below.refl _ _).drew | exact HS.out _ (below_ad _ _) | exact HS.out _ HB6.out | exact HS.out _ (HB6.out.alloc HB6.out.size _) | exact HS.out _ HB8.out | exact HS9.out _ _ HB8.out h9t.out))
      clear hK K; (try simp only [Act.put, hA, h0, h1]); refine hT 13 (some 2) ?_; refine wpAnyH_done (by kernel_rfl) ?_ _
      (go_wp2; go_ret; exact ⟨rfl, h9⟩)
    · skip; go_simp
      ((go_at_call 43; first | ((with_reducible refine (HL4.out _ (below_ad _ _)).mono ?_); rintro e w6 ⟨A7, c7, rfl, h7⟩; have HB6 : Hid (Below W4.heap.size W4 w6) := kept ((below_ad W4 _).trans (h7.out.2.1.mono (below_ad W4 _).size)); have HOA := kept (((HOT.out W4 (Below.refl _ _)).below (Below.refl _ _).drew).below h7.out.2.1); have HSA := kept h7.out.1.reads) | ((with_reducible refine (HL4.out _ (Below.refl _ _).drew).mono ?_); rintro e w6 ⟨A7, c7, rfl, h7⟩; have HB6 : Hid (Below W4.heap.size W4 w6) := kept (below_from_drew h7.out.2.1); have HOB := kept (HOT.out w6 HB6.out); have HSB := kept (h7.out.1.reads.below ((Below.refl _ _).alloc (Nat.le_refl _) (.cells #[.int .i64 0, .slice A2 256 c2, .int .i64 1, .slice A3 256 c3] 95))))))
      (try go_wp2_with fail); refine hK.out _ _ ?_ (fun hHeld => ?_)
      · ((try dsimp only); (with_reducible first | exact HS.out _ (Below.refl _ _).drew | exact HS.out _ (below_ad _ _) | exact HS.out _ HB6.out | exact HS.out _ (HB6.out.alloc HB6.out.size _) | exact HS.out _ HB8.out | exact HS9.out _ _ HB8.out h9t.out))
      clear hK K; (try simp only [Act.put, hA, h0, h1]); refine hR 3 (fun K hK => ?_); go_simp; refine hK.out _ _ ?_ (fun hHeld => ?_)
      · ((try dsimp only); (with_reducible first | exact HS.out _ (Below.refl _ _).drew | exact HS.out _ (below_ad _ _) | exact HS.out _ HB6.out | exact HS.out _ (HB6.out.alloc HB6.out.size _) | exact HS.out _ HB8.out | exact HS9.out _ _ HB8.out h9t.out))
      clear hK K; (try simp only [Act.put, hA, h0, h1]); refine hR 11 (fun K hK => ?_)
      (first | (refine wp_append_sh (.tmp 42) (.tmp 49) rfl rfl rfl HOA.out HSA.out (by omega) ?_; intro A8 c8 w8 h8 t8 g8; have HB8 : Hid (Below W4.heap.size W4 w8) := kept (t8.only_new HB6.out HB6.out.size (fun i hi => by cases hi; exact Nat.le_refl _))) | (refine wp_append_sh (.tmp 42) (.tmp 49) rfl rfl rfl HOB.out HSB.out (by omega) ?_; intro A8 c8 w8 h8 t8 g8; have HB8 : Hid (Below W4.heap.size W4 w8) := kept (t8.only_new (HB6.out.alloc HB6.out.size _) (HB6.out.alloc HB6.out.size _).size (fun i hi => by cases hi; exact HB6.out.size)))); have H8 := kept h8; clear h8 t8 g8
      refine hK.out _ _ ?_ (fun hHeld => ?_)
      · ((try dsimp only); (with_reducible first | exact HS.out _ (Below.refl _ _).drew | exact HS.out _ (below_ad _ _) | exact HS.out _ HB6.out | exact HS.out _ (HB6.out.alloc HB6.out.size _) | exact HS.out _ HB8.out | exact HS9.out _ _ HB8.out h9t.out))
      clear hK K; (try simp only [Act.put, hA, h0, h1]); refine hR 12 (fun K hK => ?_); go_simp
      ((go_at_call 68; (with_reducible refine (HPU.out _ _ _ HB8.out H8.out).mono ?_); rintro e w9 ⟨rfl, h9, h9t⟩))
      (try go_wp2_with fail); refine hK.out _ _ ?_ (fun hHeld => ?_)
      · ((try dsimp only); (with_reducible first | exact HS.out _ (Below.refl _ _).drew | exact HS.out _ (below_ad _ _) | exact HS.out _ HB6.out | exact HS.out _ (HB6.out.alloc HB6.out.size _) | exact HS.out _ HB8.out | exact HS9.out _ _ HB8.out h9t.out))
      clear hK K; (try simp only [Act.put, hA, h0, h1]); refine hT 13 (some 2) ?_; refine wpAnyH_done (by kernel_rfl) ?_ _
      (go_wp2; go_ret; exact ⟨rfl, h9⟩)
end Go.Proofs.YtblbhhijddcbeaaGreatDoor
end
