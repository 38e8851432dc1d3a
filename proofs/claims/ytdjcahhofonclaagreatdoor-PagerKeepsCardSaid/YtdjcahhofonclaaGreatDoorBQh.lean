/-
  Texts laid together: Qh Qi Qj Qk Qs Qm Qn.
-/
import Derived.Test.YtdjcahhofonclaaGreatDoorBQg
import Derived.Test.YtdjcahhofonclaaGreatDoorBQf
import Derived.Test.YtdjcahhofonclaaGreatDoorBQd
import Derived.Test.YtdjcahhofonclaaGreatDoorBFm
import Derived.BigQuiet
import Derived.Test.YtdjcahhofonclaaGreatDoorBRp
import Derived.Test.YtdjcahhofonclaaGreatDoorBQb
import Derived.Test.YtdjcahhofonclaaGreatDoorBMd
import Derived.Test.YtdjcahhofonclaaGreatDoorBHnd
section
/-
  A pager in memory, with its disk, its list, its chain and the pages that were added; its smallest methods.
-/
namespace Go.Proofs.YtdjcahhofonclaaGreatDoor
open Go.ChangeShapes Go.WideShapes Go.ChangeAt Go.RowKit
set_option linter.unusedVariables false
set_option linter.unusedSimpArgs false

/-- What a pager holds, beside its disk. -/
structure PSt where
  M : Mt
  chain : List Int
  root : Int
  L : FSt
  add : Adds
/-- Where it lies. -/
structure Pgl where
  r : Nat
  d : Dk
  Ac : Option Addr
  cc : Nat
  f : Fl
  m : Nat
  V : Int → Option Value
/-- Its own blocks, without the disk's. -/
def Pgl.own (p : Pgl) (j : Nat) : Prop := j = p.r ∨ blkOf p.Ac = some j ∨ p.f.own j ∨ j = p.m
def Pgl.all (p : Pgl) (j : Nat) : Prop := p.own j ∨ p.d.own j
structure PSt.ok (P : PSt) (z : Nat) : Prop where
  lz : P.L.z = (z : Int)
  mz : P.M.size = (z : Int)
  tx : P.M.txn < 18446744073709551616
  cn : P.chain.Nodup
  cb : ∀ x ∈ P.chain, 2 ≤ x ∧ x < (z : Int)
  cs : ∀ x ∈ P.chain, x ∉ P.L.S ∧ x ∉ P.L.H
  sh : ∀ x ∈ P.L.S, x ∉ P.L.H
  ab : ∀ x bs, P.add x = some bs → 2 ≤ x ∧ x < (z : Int) ∧ x ∉ P.chain ∧ x ∉ P.L.S ∧ x ∉ P.L.H ∧ bs.length = 256
abbrev pgCells (p : Pgl) (P : PSt) : List Value := [.pointer (some ⟨p.d.r, 0, none⟩), .int .u64 (P.M.txn : Int), .int .i64 P.M.root, .int .i64 P.M.spare, .int .i64 P.M.size, .slice p.Ac P.chain.length p.cc, .bool false, .int .i64 P.root, .pointer (some ⟨p.f.r, 0, none⟩), .map (some p.m)]
structure Pgr (w : World) (p : Pgl) (P : PSt) (S : St) : Prop where
  ok : P.ok S.pages.length
  blk : Blk w p.r 89 (pgCells p P)
  dsk : Dsk w p.d S
  chn : OwI w p.Ac P.chain.length p.cc P.chain
  lst : Lst w p.f P.L
  adm : AdM w p.m p.V P.add
  cf : ∀ g, blkOf p.Ac = some g → ¬ p.f.own g
  md : p.m ≠ p.d.m
/-- What a call leaves. -/
def PLeft (w w' : World) (p : Pgl) (P : PSt) (S : St) : Prop := ∃ p' : Pgl, p'.r = p.r ∧ p'.d = p.d ∧ Pgr w' p' P S ∧ Turned w w' p.all ∧ ∀ j, p'.own j → p.own j ∨ w.heap.size ≤ j

/-! ### whose block is it? -/
theorem OwI.cl {w : World} {A : Option Addr} {n c : Nat} {Z : List Int} (h : OwI w A n c Z) {g : Nat} (hg : blkOf A = some g) : Cl w g 3 := by
  rcases h.form with ⟨rfl, _⟩ | ⟨g', cur, rfl, hh, _⟩
  · cases hg
  · cases hg; exact ⟨_, _, hh⟩
theorem Lst.own_cl {w : World} {f : Fl} {s : FSt} (h : Lst w f s) {j : Nat} (hj : f.own j) : Cl w j 167 ∨ Cl w j 3 := by
  rcases hj with rfl | hj | hj
  · exact .inl h.2.1.cl
  · exact .inr (h.2.2.1.cl hj)
  · exact .inr (h.2.2.2.1.cl hj)
theorem Mv.not_cl {w : World} {m k : Nat} {f : Int → Option Value} (h : Mv w m k f) {t : TypeId} (hc : Cl w m t) : False := by
  obtain ⟨es, cl, h⟩ := h.kind
  obtain ⟨cs, q, hc⟩ := hc
  rw [h] at hc; cases hc
section
variable {w w' : World} {p : Pgl} {P : PSt} {S : St}
/-- A block of another type is none of its own. -/
theorem Pgr.not_own (h : Pgr w p P S) {b : Nat} {t : TypeId} (hb : Cl w b t) (h1 : t ≠ 89) (h2 : t ≠ 3) (h3 : t ≠ 167) : ¬ p.own b := by
  rintro (rfl | hj | hj | rfl)
  · exact h1 (hb.uniq h.blk.cl)
  · exact h2 (hb.uniq (h.chn.cl hj))
  · rcases h.lst.own_cl hj with hc | hc
    · exact h3 (hb.uniq hc)
    · exact h2 (hb.uniq hc)
  · exact h.adm.1.not_cl hb
theorem Pgr.not_all (h : Pgr w p P S) {b : Nat} {t : TypeId} (hb : Cl w b t) (h1 : t ≠ 89) (h2 : t ≠ 3) (h3 : t ≠ 167) (h4 : t ≠ 112) (h5 : t ≠ 117) : ¬ p.all b := by
  rintro (hj | hj)
  · exact h.not_own hb h1 h2 h3 hj
  · exact h.dsk.own_cl hb h4 h5 hj
theorem Pgr.lt (h : Pgr w p P S) {j : Nat} (hj : p.own j) : j < w.heap.size := by
  rcases hj with rfl | hj | hj | rfl
  · exact h.blk.lt
  · exact h.chn.lt hj
  · exact h.lst.lt hj
  · exact h.adm.1.lt
theorem Pgr.lt_all (h : Pgr w p P S) {j : Nat} (hj : p.all j) : j < w.heap.size := by
  rcases hj with hj | hj
  · exact h.lt hj
  · exact h.dsk.lt j hj
theorem Pgr.d_own (h : Pgr w p P S) {j : Nat} (hj : p.d.own j) : ¬ p.own j := by
  rintro (rfl | hk | hk | rfl)
  · exact h.dsk.own_cl h.blk.cl (by decide) (by decide) hj
  · exact h.dsk.own_cl (h.chn.cl hk) (by decide) (by decide) hj
  · rcases h.lst.own_cl hk with hc | hc <;> exact h.dsk.own_cl hc (by decide) (by decide) hj
  · rcases hj with e | e | e
    · exact h.adm.1.not_cl (e ▸ h.dsk.2.1.cl)
    · obtain ⟨cur, hg, _⟩ := h.dsk.2.2.1
      exact h.adm.1.not_cl (e ▸ (⟨_, _, hg⟩ : Cl w p.d.g _))
    · exact h.md e
theorem Pgr.f_r (h : Pgr w p P S) : ¬ p.f.own p.r := fun hj => by
  rcases h.lst.own_cl hj with hc | hc
  · exact absurd (hc.uniq h.blk.cl) (by decide)
  · exact absurd (hc.uniq h.blk.cl) (by decide)
theorem Pgr.f_m (h : Pgr w p P S) : ¬ p.f.own p.m := fun hj => by
  rcases h.lst.own_cl hj with hc | hc <;> exact h.adm.1.not_cl hc
theorem Pgr.c_r (h : Pgr w p P S) : blkOf p.Ac ≠ some p.r := fun hj => absurd ((h.chn.cl hj).uniq h.blk.cl) (by decide)
theorem Pgr.c_m (h : Pgr w p P S) : blkOf p.Ac ≠ some p.m := fun hj => h.adm.1.not_cl (h.chn.cl hj)
theorem Pgr.m_r (h : Pgr w p P S) : p.m ≠ p.r := fun e => h.adm.1.not_cl (e ▸ h.blk.cl)
theorem Pgr.same (h : Pgr w p P S) {T : Nat → Prop} (t : Turned w w' T) (hn : ∀ j, p.all j → ¬ T j) (hu : ∀ b, Cl w b 5 → ¬ T b) : Pgr w' p P S where
  ok := h.ok
  blk := (t.block _ h.blk.lt (hn _ (.inl (.inl rfl)))).trans h.blk
  dsk := h.dsk.turned t fun i hi => hn i (.inr hi)
  chn := h.chn.turned t fun g hg => hn g (.inl (.inr (.inl hg)))
  lst := h.lst.turned t fun g hg => hn g (.inl (.inr (.inr (.inl hg))))
  adm := ⟨h.adm.1.keep (t.block _ h.adm.1.lt (hn _ (.inl (.inr (.inr (.inr rfl)))))), h.adm.2.turned t hu⟩
  cf := h.cf
  md := h.md
theorem Pgr.below (h : Pgr w p P S) (hb : Below w.heap.size w w') : Pgr w' p P S := h.same (Turned.of_below hb (fun _ => False)) (fun _ _ h => h) (fun _ _ h => h)
theorem Pgr.drewN (h : Pgr w p P S) (q : Nat) : Pgr (w.drewN q) p P S := ⟨h.ok, h.blk, h.dsk, h.chn, h.lst, h.adm, h.cf, h.md⟩
theorem Pgr.c (h : Pgr w p P S) (i : Nat) : w.cell? ⟨p.r, i, none⟩ = (pgCells p P)[i]? := h.blk.cell i
theorem Pgr.left_self (h : Pgr w p P S) : PLeft w w p P S := ⟨p, rfl, rfl, h, Turned.refl _ _, fun _ hj => .inl hj⟩
theorem Pgr.left_below (h : Pgr w p P S) (hb : Below w.heap.size w w') : PLeft w w' p P S := ⟨p, rfl, rfl, h.below hb, Turned.of_below hb _, fun _ hj => .inl hj⟩
end
/-- One call behind another. -/
theorem PLeft.trans {w w' w'' : World} {p : Pgl} {P P' : PSt} {S S' : St} (h : PLeft w w' p P S) (k : ∀ p', p'.r = p.r → p'.d = p.d → Pgr w' p' P S → PLeft w' w'' p' P' S') : PLeft w w'' p P' S' := by
  obtain ⟨p1, e1, e2, h1, t1, o1⟩ := h
  obtain ⟨p2, f1, f2, h2, t2, o2⟩ := k p1 e1 e2 h1
  refine ⟨p2, f1.trans e1, f2.trans e2, h2, ?_, fun j hj => ?_⟩
  · refine ⟨t2.os.trans t1.os, t2.tape.trans t1.tape, t2.output.trans t1.output, Nat.le_trans t1.size t2.size, fun j hj hn => ?_⟩
    refine (t2.block j (Nat.lt_of_lt_of_le hj t1.size) fun hk => ?_).trans (t1.block j hj hn)
    rcases hk with hk | hk
    · rcases o1 j hk with h5 | h5
      · exact hn (.inl h5)
      · omega
    · exact hn (.inr (e2 ▸ hk))
  · rcases o2 j hj with h5 | h5
    · exact o1 j h5
    · exact .inr (Nat.le_trans t1.size h5)

/-! ### the smallest methods -/
section
variable {w : World} {p : Pgl} {P : PSt} {S : St}
theorem palive_any (h : Pgr w p P S) : Calls Tryz.prog 37 #[.pointer (some ⟨p.r, 0, none⟩)] w fun e w' => e = .returned (.int .i64 0) ∧ w = w' := by
  have c6 : w.cell? ⟨p.r, 6, none⟩ = some (.bool false) := h.c 6
  clear h
  go_enter Tryz.func37, Tryz.ntmps37
  go_wp2
  go_ret
  exact ⟨rfl, rfl⟩
theorem palive_nil (w : World) : Calls Tryz.prog 37 #[.pointer none] w fun e w' => e = .returned (.int .i64 1) ∧ w = w' := by
  go_enter Tryz.func37, Tryz.ntmps37
  go_wp2
  go_ret
  exact ⟨rfl, rfl⟩
theorem reaches_nil (id : Int) (w : World) : Calls Tryz.prog 46 #[.pointer none, .int .i64 id] w fun e w' => e = .returned (.int .i64 1) ∧ w = w' := by
  go_enter Tryz.func46, Tryz.ntmps46
  go_wp2_with (first | (go_at_call 37; (with_reducible refine (palive_nil _).mono ?_); rintro e w1 ⟨rfl, rfl⟩))
  go_ret
  exact ⟨rfl, rfl⟩
theorem reaches_any (h : Pgr w p P S) (id er : Int) (he : (if finB P.M.size id then 0 else 2) = er) : Calls Tryz.prog 46 #[.pointer (some ⟨p.r, 0, none⟩), .int .i64 id] w fun e w' => e = .returned (.int .i64 er) ∧ w = w' := by
  have HA := kept (palive_any h)
  have c4 : w.cell? ⟨p.r, 4, none⟩ = some (.int .i64 P.M.size) := h.c 4
  have HB := kept (pInBounds_any id P.M.size w)
  clear h
  cases hb : finB P.M.size id with
  | true =>
    rw [hb] at he HB
    simp only [if_true] at he
    subst he
    go_enter Tryz.func46, Tryz.ntmps46
    go_wp2_with (first | (go_at_call 37; (with_reducible refine (HA.out).mono ?_); rintro e w1 ⟨rfl, rfl⟩) | (go_at_call 86; (with_reducible refine (HB.out).mono ?_); rintro e w1 ⟨rfl, rfl⟩))
    go_ret
    exact ⟨rfl, rfl⟩
  | false =>
    rw [hb] at he HB
    simp only [Bool.false_eq_true, if_false] at he
    subst he
    go_enter Tryz.func46, Tryz.ntmps46
    go_wp2_with (first | (go_at_call 37; (with_reducible refine (HA.out).mono ?_); rintro e w1 ⟨rfl, rfl⟩) | (go_at_call 86; (with_reducible refine (HB.out).mono ?_); rintro e w1 ⟨rfl, rfl⟩))
    go_ret
    exact ⟨rfl, rfl⟩
theorem txn_any (h : Pgr w p P S) : Calls Tryz.prog 14 #[.pointer (some ⟨p.r, 0, none⟩)] w fun e w' => e = .returned (.int .u64 (P.M.txn : Int)) ∧ w = w' := by
  have c1 : w.cell? ⟨p.r, 1, none⟩ = some (.int .u64 (P.M.txn : Int)) := h.c 1
  clear h
  go_enter Tryz.func14, Tryz.ntmps14
  go_wp2
  go_ret
  exact ⟨rfl, rfl⟩
theorem root_any (h : Pgr w p P S) : Calls Tryz.prog 12 #[.pointer (some ⟨p.r, 0, none⟩)] w fun e w' => e = .returned (.int .i64 P.root) ∧ w = w' := by
  have c7 : w.cell? ⟨p.r, 7, none⟩ = some (.int .i64 P.root) := h.c 7
  clear h
  go_enter Tryz.func12, Tryz.ntmps12
  go_wp2
  go_ret
  exact ⟨rfl, rfl⟩
theorem pspare_any (h : Pgr w p P S) : Calls Tryz.prog 21 #[.pointer (some ⟨p.r, 0, none⟩)] w fun e w' => ∃ A c, e = .returned (.slice A P.L.S.length c) ∧ Hid (Says w w' P.L.S A c) := by
  have HS := kept (spare_any p.f P.L w h.lst)
  have c8 : w.cell? ⟨p.r, 8, none⟩ = some (.pointer (some ⟨p.f.r, 0, none⟩)) := h.c 8
  clear h
  go_enter Tryz.func21, Tryz.ntmps21
  go_wp2_with (first | (go_at_call 44; (with_reducible refine (HS.out).mono ?_); rintro e w1 ⟨A1, c1, rfl, h1⟩))
  go_ret
  exact ⟨A1, c1, rfl, h1⟩
theorem setRoot_any (h : Pgr w p P S) (id : Int) : Calls Tryz.prog 11 #[.pointer (some ⟨p.r, 0, none⟩), .int .i64 id] w fun e w' => e = .returned (.tuple #[]) ∧ Hid (PLeft w w' p { P with root := id } S) := by
  have HA := kept (palive_any h)
  have c7 : w.cell? ⟨p.r, 7, none⟩ = some (.int .i64 P.root) := h.c 7
  have z7 := h.blk.frozen 7
  have H : Hid (PLeft w (w.setCell ⟨p.r, 7, none⟩ (.int .i64 id)) p { P with root := id } S) := kept (by
    have t : Turned w (w.setCell ⟨p.r, 7, none⟩ (.int .i64 id)) (fun j => j = p.r) := (Turned.refl w (fun j => j = p.r)).setCell (fun _ => rfl) _
    refine ⟨p, rfl, rfl, ⟨⟨h.ok.lz, h.ok.mz, h.ok.tx, h.ok.cn, h.ok.cb, h.ok.cs, h.ok.sh, h.ok.ab⟩, h.blk.set_ 7 (.int .i64 id), h.dsk.turned t fun i hi e => h.d_own hi (.inl e), h.chn.turned t fun g hg e => h.c_r (e ▸ hg), h.lst.turned t fun g hg e => h.f_r (e ▸ hg), ⟨h.adm.1.keep (t.block _ h.adm.1.lt h.m_r), h.adm.2.turned t fun g hg e => ?_⟩, h.cf, h.md⟩, t.mono fun k _ e => .inl (.inl e), fun j hj => .inl hj⟩
    exact absurd (hg.uniq (e ▸ h.blk.cl)) (by decide))
  clear h
  go_enter Tryz.func11, Tryz.ntmps11
  go_wp2_with (first | (go_at_call 37; (with_reducible refine (HA.out).mono ?_); rintro e w1 ⟨rfl, rfl⟩))
  go_end0
  exact ⟨rfl, H⟩
end
end Go.Proofs.YtdjcahhofonclaaGreatDoor
end

section
/-
  package pager: Add and Drop.
-/
namespace Go.Proofs.YtdjcahhofonclaaGreatDoor
open Go.ChangeShapes Go.WideShapes Go.ChangeAt Go.RowKit
set_option linter.unusedVariables false
set_option linter.unusedSimpArgs false

theorem below_from_drew {w w' : World} (h : Below w.drew.heap.size w.drew w') : Below w.heap.size w w' := ⟨h.os, h.tape, h.output, h.size, h.block⟩
theorem below_dn {B : Nat} {a w : World} (h : Below B a w) (q : Nat) : Below B a (w.drewN q) := ⟨h.os, h.tape, h.output, h.size, h.block⟩
section
variable {w w' : World} {p : Pgl} {P : PSt} {S : St}
/-- The list has turned. -/
theorem Pgr.list_step (h : Pgr w p P S) {L' : FSt} (k : LLeft w w' p.f L') (hok : PSt.ok { P with L := L' } S.pages.length) : PLeft w w' p { P with L := L' } S := by
  obtain ⟨f', e, hl, t, ho⟩ := k
  refine ⟨{ p with f := f' }, rfl, rfl, ⟨hok, ?_, h.dsk.turned t fun i hi hf => h.d_own hi (.inr (.inr (.inl hf))), h.chn.turned t h.cf, hl, ⟨h.adm.1.keep (t.block _ h.adm.1.lt h.f_m), h.adm.2.turned t fun g hg hf => ?_⟩, fun g hg hf => ?_, h.md⟩, t.mono fun j _ hj => .inl (.inr (.inr (.inl hj))), fun j hj => ?_⟩
  · have hb := (t.block _ h.blk.lt h.f_r).trans h.blk
    show Blk w' p.r _ [.pointer (some ⟨p.d.r, 0, none⟩), .int .u64 (P.M.txn : Int), .int .i64 P.M.root, .int .i64 P.M.spare, .int .i64 P.M.size, .slice p.Ac P.chain.length p.cc, .bool false, .int .i64 P.root, .pointer (some ⟨f'.r, 0, none⟩), .map (some p.m)]
    rw [e]
    exact hb
  · rcases h.lst.own_cl hf with hc | hc <;> exact absurd (hg.uniq hc) (by decide)
  · rcases ho g hf with h5 | h5
    · exact h.cf g hg h5
    · have := h.chn.lt hg; omega
  · rcases hj with hj | hj | hj | hj
    · exact .inl (.inl hj)
    · exact .inl (.inr (.inl hj))
    · rcases ho j hj with h5 | h5
      · exact .inl (.inr (.inr (.inl h5)))
      · exact .inr h5
    · exact .inl (.inr (.inr (.inr hj)))
theorem Pgr.left_of (h : Pgr w' p P S) (hb : Below w.heap.size w w') : PLeft w w' p P S := ⟨p, rfl, rfl, h, Turned.of_below hb _, fun _ hj => .inl hj⟩
/-- The map has turned. -/
theorem Pgr.map_step (h : Pgr w p P S) {V' : Int → Option Value} {add' : Adds} (hm : Mv w' p.m 1022 V') (hg : w.grownBy w' (some p.m)) (hv : AdV w V' add') (hok : PSt.ok { P with add := add' } S.pages.length) : PLeft w w' p { P with add := add' } S := by
  have t : Turned w w' (fun j => j = p.m) := Turned.of_grown hg (fun j e => (Option.some.inj e).symm)
  have nm : ∀ {b : Nat} {ty : TypeId}, Cl w b ty → b ≠ p.m := fun hc e => h.adm.1.not_cl (e ▸ hc)
  refine ⟨{ p with V := V' }, rfl, rfl, ⟨hok, (t.block _ h.blk.lt (nm h.blk.cl)).trans h.blk, h.dsk.turned t fun i hi e => h.d_own hi (.inr (.inr (.inr e))), h.chn.turned t fun g hg => nm (h.chn.cl hg), h.lst.turned t fun j hj => ?_, ⟨hm, hv.turned t fun g hg => nm hg⟩, h.cf, h.md⟩, t.mono fun j _ hj => .inl (.inr (.inr (.inr hj))), fun j hj => .inl hj⟩
  rcases h.lst.own_cl hj with hc | hc <;> exact nm hc
theorem ok_take (h : PSt.ok P S.pages.length) (hl : P.L.ok) : PSt.ok { P with L := P.L.take } S.pages.length := by
  have hs : ∀ x, x ∈ P.L.S.tail → x ∈ P.L.S := fun x hx => List.mem_of_mem_tail hx
  exact ⟨h.lz, h.mz, h.tx, h.cn, h.cb, fun x hx => ⟨fun hm => (h.cs x hx).1 (hs x hm), (h.cs x hx).2⟩, fun x hx => h.sh x (hs x hx), fun x bs e => by
    obtain ⟨a, b, c, d, f, g⟩ := h.ab x bs e
    exact ⟨a, b, c, fun hm => d (hs x hm), f, g⟩⟩
/-- The page under way: its Txn has been set. -/
def txnP (X : Pg) (t : Nat) : Pg := { X with txn := (t : Int) }
theorem rd_txn {l : Lay} {X : Pg} (h : RdPg w l X) (t : Nat) (ht : t < 18446744073709551616) : RdPg w { l with txn := (t : Int) } (txnP X t) :=
  ⟨h.kind, rfl, h.next, h.items, h.kids, h.data, h.ids, by show (0 : Int) ≤ (t : Int); omega, by show (t : Int) < _; omega, h.b1, h.b2, h.b3, h.b4⟩
theorem right_used {X : Pg} (h : rightB X = true) : usedN X ≤ 237 := (right_parts h).2.2.2
def addP (P : PSt) (x : Int) (bs : List UInt8) : PSt := { P with L := P.L.take, add := fun y => if y = x then some bs else P.add y }
set_option maxRecDepth 100000 in
set_option maxHeartbeats 2000000 in
theorem add_full (h : Pgr w p P S) (l : Lay) (X : Pg) (hr : RdPg w l X) (hF : Fours w) (ht : P.M.txn + 1 < 18446744073709551616) (hR : rightB (txnP X (P.M.txn + 1)) = true) (hs : P.L.S.length < S.pages.length / 60 + 2) :
    Calls Tryz.prog 24 #[.pointer (some ⟨p.r, 0, none⟩), l.val] w fun e w' => e = .returned (.tuple #[.int .i64 0, .int .i64 9]) ∧ Hid (PLeft w w' p P S) := by
  obtain ⟨q, hq⟩ : ∃ q : Nat, P.M.txn + 1 = q := ⟨_, rfl⟩
  have hwq : IntKind.u64.wrap ((P.M.txn : Int) + 1) = (q : Int) := by rw [IntKind.wrap_u64]; omega
  rw [hq] at hR ht
  have c1 := fun o => ((h.below ((Below.refl _ w).alloc (Nat.le_refl _) o)).c 1 : (w.alloc o).cell? ⟨p.r, 1, none⟩ = some (.int .u64 (P.M.txn : Int)))
  have HA := fun o => kept (palive_any (h.below ((Below.refl _ w).alloc (Nat.le_refl _) o)))
  have HE := kept (fun W (hb : Below w.heap.size w W) => encode_right { l with txn := (q : Int) } _ W ((rd_txn hr q ht).below hb) hR (hF.below hb))
  have HP := kept (fun W (hb : Below w.heap.size w W) => h.below hb)
  have HQ := kept hq
  have HSN := kept hs
  have hlt := h.blk.lt
  have hne : p.r ≠ w.heap.size := by omega
  clear h hr hF hq hR hs
  obtain ⟨kind, txn, next, a1, n1, c1', a2, n2, c2, a3, n3, c3, a4, n4, c4⟩ := l
  simp only at HE
  go_enter Tryz.func24, Tryz.ntmps24
  go_wp2_with (first | (go_at_call 37; (with_reducible refine (HA _).out.mono ?_); rintro e w1 ⟨rfl, rfl⟩))
  with_reducible refine (HE.out _ ((Below.refl _ w).alloc (Nat.le_refl _) _)).mono ?_
  rintro e w2 ⟨A2, cc2, rfl, ho2, hb2⟩
  have hB2 : Below w.heap.size w w2 := bel_to hb2 ((Below.refl _ w).alloc (Nat.le_refl _) _)
  have h2 := HP.out w2 hB2
  have HB2 := kept hB2
  have H2 := kept h2
  have HO2 := kept (OwB.of_row ho2)
  have d8 : w2.cell? ⟨p.r, 8, none⟩ = some (.pointer (some ⟨p.f.r, 0, none⟩)) := h2.c 8
  have d4 : w2.cell? ⟨p.r, 4, none⟩ = some (.int .i64 (S.pages.length : Int)) := by rw [← h2.ok.mz]; exact h2.c 4
  have HRM := fun q => kept (froom_any p.f P.L (w2.drewN q) (h2.drewN q).lst)
  have hz1024 : S.pages.length ≤ 1000000 := by have := h2.dsk.1.2.1; omega
  have HLR := fun q => kept (leastRoom_any S.pages.length (w2.drewN q) hz1024)
  generalize hnS : P.L.S.length = nS at HRM HSN
  generalize hnZ : S.pages.length / 60 + 2 = nZ at HLR HSN
  have HNS := kept hnS
  clear ho2 hb2 hB2 h2 c1 HA HE HP hnS hnZ hz1024
  have hbb : decide ((nS : Int) < (nZ : Int)) = true := by simpa using HSN.out
  go_wp2
  go_quiet (first | (go_at_call 58; exact Calls.quiet_of_same (turn (HRM _).out)) | (go_at_call 59; exact Calls.quiet_of_same (turn (HLR _).out)))
  go_wp2
  go_ret2
  exact ⟨rfl, kept ((H2.out.drewN _).left_of (below_dn HB2.out _))⟩
set_option maxRecDepth 100000 in
set_option maxHeartbeats 2000000 in
theorem add_ok (h : Pgr w p P S) (l : Lay) (X : Pg) (hr : RdPg w l X) (hF : Fours w) (ht : P.M.txn + 1 < 18446744073709551616) (hR : rightB (txnP X (P.M.txn + 1)) = true) (hs : S.pages.length / 60 + 2 ≤ P.L.S.length) (x : Int) (r : List Int) (hx : P.L.S = x :: r) :
    Calls Tryz.prog 24 #[.pointer (some ⟨p.r, 0, none⟩), l.val] w fun e w' => e = .returned (.tuple #[.int .i64 x, .int .i64 0]) ∧ Hid (PLeft w w' p (addP P x (sealed (bodyOf (txnP X (P.M.txn + 1))))) S) := by
  obtain ⟨q, hq⟩ : ∃ q : Nat, P.M.txn + 1 = q := ⟨_, rfl⟩
  have hwq : IntKind.u64.wrap ((P.M.txn : Int) + 1) = (q : Int) := by rw [IntKind.wrap_u64]; omega
  rw [hq] at hR ht ⊢
  have c1 := fun o => ((h.below ((Below.refl _ w).alloc (Nat.le_refl _) o)).c 1 : (w.alloc o).cell? ⟨p.r, 1, none⟩ = some (.int .u64 (P.M.txn : Int)))
  have HA := fun o => kept (palive_any (h.below ((Below.refl _ w).alloc (Nat.le_refl _) o)))
  have HE := kept (fun W (hb : Below w.heap.size w W) => encode_right { l with txn := (q : Int) } _ W ((rd_txn hr q ht).below hb) hR (hF.below hb))
  have HP := kept (fun W (hb : Below w.heap.size w W) => h.below hb)
  have HQ := kept hq
  have HSN := kept hs
  have hlt := h.blk.lt
  have hne : p.r ≠ w.heap.size := by omega
  have HX := kept hx
  have HRT := kept hR
  clear h hr hF hq hR hs hx
  obtain ⟨kind, txn, next, a1, n1, c1', a2, n2, c2, a3, n3, c3, a4, n4, c4⟩ := l
  simp only at HE
  go_enter Tryz.func24, Tryz.ntmps24
  go_wp2_with (first | (go_at_call 37; (with_reducible refine (HA _).out.mono ?_); rintro e w1 ⟨rfl, rfl⟩))
  with_reducible refine (HE.out _ ((Below.refl _ w).alloc (Nat.le_refl _) _)).mono ?_
  rintro e w2 ⟨A2, cc2, rfl, ho2, hb2⟩
  have hB2 : Below w.heap.size w w2 := bel_to hb2 ((Below.refl _ w).alloc (Nat.le_refl _) _)
  have h2 := HP.out w2 hB2
  have HB2 := kept hB2
  have H2 := kept h2
  have HO2 := kept (OwB.of_row ho2)
  have d8 : w2.cell? ⟨p.r, 8, none⟩ = some (.pointer (some ⟨p.f.r, 0, none⟩)) := h2.c 8
  have d4 : w2.cell? ⟨p.r, 4, none⟩ = some (.int .i64 (S.pages.length : Int)) := by rw [← h2.ok.mz]; exact h2.c 4
  have HRM := fun q => kept (froom_any p.f P.L (w2.drewN q) (h2.drewN q).lst)
  have hz1024 : S.pages.length ≤ 1000000 := by have := h2.dsk.1.2.1; omega
  have HLR := fun q => kept (leastRoom_any S.pages.length (w2.drewN q) hz1024)
  generalize hnS : P.L.S.length = nS at HRM HSN
  generalize hnZ : S.pages.length / 60 + 2 = nZ at HLR HSN
  have HNS := kept hnS
  clear ho2 hb2 hB2 h2 c1 HA HE HP hnS hnZ hz1024
  have hbb : decide ((nS : Int) < (nZ : Int)) = false := by have := HSN.out; simp; omega
  have hbn : decide (nS < nZ) = false := by have := HSN.out; simp; omega
  have hbz : ¬ nS < nZ := by have := HSN.out; omega
  have HTK := fun q => kept (ftake_any p.f P.L (w2.drewN q) (H2.out.drewN q).lst)
  have hxe : P.L.taken = (x, 0) := by unfold FSt.taken; rw [HX.out]
  rw [hxe] at HTK
  clear hxe
  go_wp2
  go_quiet (first | (go_at_call 58; exact Calls.quiet_of_same (turn (HRM _).out)) | (go_at_call 59; exact Calls.quiet_of_same (turn (HLR _).out)))
  have d8' : ∀ q, (w2.drewN q).cell? ⟨p.r, 8, none⟩ = some (.pointer (some ⟨p.f.r, 0, none⟩)) := fun q => (H2.out.drewN q).c 8
  have hwx : Wf x ∧ 2 ≤ x ∧ x < 1024 := by
    have h1 := H2.out.lst.1.2.2.2.2.1 x (by rw [HX.out]; exact List.mem_cons_self ..)
    have h2 := H2.out.lst.1.2.1
    exact ⟨⟨by omega, by omega⟩, by omega, by omega⟩
  have HWX := kept hwx
  have HST : Hid (∀ W W', Pgr W p P S → LLeft W W' p.f P.L.take → PLeft W W' p { P with L := P.L.take } S) := kept (fun W W' hp hl => hp.list_step hl (ok_take hp.ok hp.lst.1))
  clear hwx
  go_wp2_with fail
  with_reducible refine (HTK _).out.mono ?_
  rintro e w3 ⟨rfl, h3⟩
  obtain ⟨p3, e1, e2, hp3, t3, o3⟩ := HST.out _ _ (H2.out.drewN _) h3.out
  have HP3 := kept hp3
  have HT3 := kept t3
  have HO3 := kept o3
  have HE1 := kept e1
  have HE2 := kept e2
  have d9 : w3.cell? ⟨p.r, 9, none⟩ = some (.map (some p3.m)) := by rw [← e1]; exact hp3.c 9
  have HAB : Hid (OwB w3 A2 256 cc2 (sealed (bodyOf (txnP X q)))) := kept ((HO2.out.below (below_dn (Below.refl _ _) nq)).turned t3 (fun g hg => H2.out.not_all (HO2.out.cl hg) (by decide) (by decide) (by decide) (by decide) (by decide)))
  clear hp3 t3 o3 e1 e2 h3
  go_wp2_with (first | (at_mapUpdate; go_loud (refine wpList_put_mv rfl 48 62 _ _ _ rfl addU HP3.out.adm.1 (by unfold maxLen; omega) rfl x rfl HWX.out.1 (.slice A2 256 cc2) rfl ?_; intro w4 hm4 hg4; have HM4 := kept hm4; have HG4 := kept hg4; clear hm4 hg4)))
  go_ret2
  refine ⟨rfl, kept ?_⟩
  have hv := HP3.out.adm.2.put HAB.out HWX.out.2
  have hml : p3.m < w3.heap.size := HP3.out.adm.1.lt
  have hm := HM4.out.tight (fun y hy => by
    by_cases e : y = x
    · subst e; exact HWX.out.2
    · rw [if_neg e] at hy
      exact HP3.out.adm.2.range (by rw [← HP3.out.adm.2.some_]; exact hy))
  have hok : PSt.ok (addP P x (sealed (bodyOf (txnP X q)))) S.pages.length := by
    have h1 := ok_take H2.out.ok H2.out.lst.1
    have hxS : x ∈ P.L.S := by rw [HX.out]; exact List.mem_cons_self ..
    have hb := H2.out.lst.1.2.2.2.2.1 x hxS
    refine ⟨h1.lz, h1.mz, h1.tx, h1.cn, h1.cb, h1.cs, h1.sh, fun y bs e => ?_⟩
    by_cases ey : y = x
    · subst ey
      have e : some (sealed (bodyOf (txnP X q))) = some bs := by have := e; simp only [addP, if_true] at this; exact this
      cases e
      have h9 : P.L.z = (S.pages.length : Int) := h1.lz
      have hri : Rising (y :: r) := by rw [← HX.out]; exact H2.out.lst.1.2.2.1
      have hnr : y ∉ P.L.S.tail := by rw [HX.out]; exact fun hm => by have := (Rising.cons.1 hri).1 y hm; omega
      exact ⟨hb.1, by rw [← h9]; exact hb.2, fun hm => (H2.out.ok.cs y hm).1 hxS, hnr, H2.out.ok.sh y hxS, by rw [sealed_length, bodyOf_length (right_used HRT.out)]⟩
    · exact h1.ab y bs (by have := e; simp only [addP, if_neg ey] at this; exact this)
  have k4 := HP3.out.map_step (V' := fun y => if y = x then some (.slice A2 256 cc2) else p3.V y) (add' := fun y => if y = x then some (sealed (bodyOf (txnP X q))) else P.add y) hm HG4.out hv hok
  obtain ⟨p4, g1, g2, g3, g4, g5⟩ := k4
  refine ⟨p4, g1.trans HE1.out, g2.trans HE2.out, g3, ?_, fun j hj => ?_⟩
  · have t23 : Turned w w3 p.all := (Turned.of_below (below_dn HB2.out nq) p.all).trans HT3.out
    refine ⟨g4.os.trans t23.os, g4.tape.trans t23.tape, g4.output.trans t23.output, Nat.le_trans t23.size g4.size, fun j hj hn => ?_⟩
    refine (g4.block j (Nat.lt_of_lt_of_le hj t23.size) fun hk => ?_).trans (t23.block j hj hn)
    rcases hk with hk | hk
    · rcases HO3.out j hk with h5 | h5
      · exact hn (.inl h5)
      · have h6 : w2.heap.size ≤ j := h5
        have := HB2.out.size
        omega
    · exact hn (.inr (HE2.out ▸ hk))
  · rcases g5 j hj with h5 | h5
    · rcases HO3.out j h5 with h6 | h6
      · exact .inl h6
      · exact .inr (Nat.le_trans HB2.out.size h6)
    · exact .inr (Nat.le_trans HB2.out.size (Nat.le_trans HT3.out.size h5))
end
end Go.Proofs.YtdjcahhofonclaaGreatDoor
end

section
/-
  package pager: Drop.
-/
namespace Go.Proofs.YtdjcahhofonclaaGreatDoor
open Go.ChangeShapes Go.WideShapes Go.ChangeAt Go.RowKit
set_option linter.unusedVariables false
set_option linter.unusedSimpArgs false

theorem PLeft.before {w w1 w' : World} {p : Pgl} {P : PSt} {S : St} (hb : Below w.heap.size w w1) (k : PLeft w1 w' p P S) : PLeft w w' p P S := by
  obtain ⟨p', e1, e2, h, t, o⟩ := k
  exact ⟨p', e1, e2, h, (Turned.of_below hb _).trans t, fun j hj => (o j hj).imp id (fun h => Nat.le_trans hb.size h)⟩
theorem PLeft.via {w w4 w5 : World} {p p4 : Pgl} {P5 : PSt} {S5 : St} (e1 : p4.r = p.r) (e2 : p4.d = p.d) (t4 : Turned w w4 p.all) (o4 : ∀ j, p4.own j → p.own j ∨ w.heap.size ≤ j) (k : PLeft w4 w5 p4 P5 S5) : PLeft w w5 p P5 S5 := by
  obtain ⟨p5, g1, g2, g3, g4, g5⟩ := k
  refine ⟨p5, g1.trans e1, g2.trans e2, g3, ?_, fun j hj => ?_⟩
  · refine ⟨g4.os.trans t4.os, g4.tape.trans t4.tape, g4.output.trans t4.output, Nat.le_trans t4.size g4.size, fun j hj hn => ?_⟩
    refine (g4.block j (Nat.lt_of_lt_of_le hj t4.size) fun hk => ?_).trans (t4.block j hj hn)
    rcases hk with hk | hk
    · rcases o4 j hk with h5 | h5
      · exact hn (.inl h5)
      · omega
    · exact hn (.inr (e2 ▸ hk))
  · rcases g5 j hj with h5 | h5
    · exact o4 j h5
    · exact .inr (Nat.le_trans t4.size h5)
/-- What Drop does, and what it answers. -/
def dropP (P : PSt) (id : Int) : PSt × Int :=
  if finB P.M.size id = false then (P, 2) else if id ∈ P.chain then (P, 8)
  else if (P.add id).isSome then ({ P with L := P.L.give id, add := fun y => if y = id then none else P.add y }, P.L.may id)
  else ({ P with L := P.L.hold id }, P.L.may id)
section
variable {w w' : World} {p : Pgl} {P : PSt} {S : St}
theorem ok_hold (h : PSt.ok P S.pages.length) {id : Int} (hc : id ∉ P.chain) (ha : P.add id = none) : PSt.ok { P with L := P.L.hold id } S.pages.length := by
  unfold FSt.hold
  split
  · rename_i hm
    obtain ⟨hb, h1, h2⟩ := may_zero hm
    refine ⟨h.lz, h.mz, h.tx, h.cn, h.cb, fun x hx => ⟨(h.cs x hx).1, fun hm => ?_⟩, fun x hx hm => ?_, fun x bs e => ?_⟩
    · rcases mem_addI.1 hm with rfl | hm
      · exact hc hx
      · exact (h.cs x hx).2 hm
    · rcases mem_addI.1 hm with rfl | hm
      · exact h1 hx
      · exact h.sh x hx hm
    · obtain ⟨a, b, c, d, f, g⟩ := h.ab x bs e
      refine ⟨a, b, c, d, fun hm => ?_, g⟩
      rcases mem_addI.1 hm with rfl | hm
      · have e : P.add x = some bs := e
        rw [ha] at e; cases e
      · exact f hm
  · exact h
theorem ok_give (h : PSt.ok P S.pages.length) {id : Int} {bs : List UInt8} (ha : P.add id = some bs) : PSt.ok { P with L := P.L.give id, add := fun y => if y = id then none else P.add y } S.pages.length := by
  obtain ⟨a, b, c, d, f, g⟩ := h.ab id bs ha
  unfold FSt.give
  split
  · rename_i hm
    refine ⟨h.lz, h.mz, h.tx, h.cn, h.cb, fun x hx => ⟨fun hm => ?_, (h.cs x hx).2⟩, fun x hx hm => ?_, fun x bs e => ?_⟩
    · rcases mem_addI.1 hm with rfl | hm
      · exact c hx
      · exact (h.cs x hx).1 hm
    · rcases mem_addI.1 hx with rfl | hx
      · exact f hm
      · exact h.sh x hx hm
    · by_cases ex : x = id
      · subst ex; simp at e
      · simp only [if_neg ex] at e
        obtain ⟨a', b', c', d', f', g'⟩ := h.ab x bs e
        refine ⟨a', b', c', fun hm => ?_, f', g'⟩
        rcases mem_addI.1 hm with h9 | hm
        · exact ex h9
        · exact d' hm
  · refine ⟨h.lz, h.mz, h.tx, h.cn, h.cb, h.cs, h.sh, fun x bs e => ?_⟩
    by_cases ex : x = id
    · subst ex; simp at e
    · simp only [if_neg ex] at e
      exact h.ab x bs e
theorem AdM.del {m : Nat} {V : Int → Option Value} {add : Adds} (h : AdM w m V add) {id : Int} (hm : Mv w' m 1022 (fun y => if y = id then none else V y)) (hg : w.grownBy w' (some m)) : AdV w (fun y => if y = id then none else V y) (fun y => if y = id then none else add y) := h.2.del id
set_option maxRecDepth 100000 in
set_option maxHeartbeats 2000000 in
theorem drop_any (h : Pgr w p P S) (id : Int) : Calls Tryz.prog 15 #[.pointer (some ⟨p.r, 0, none⟩), .int .i64 id] w fun e w' => e = .returned (.int .i64 (dropP P id).2) ∧ Hid (PLeft w w' p (dropP P id).1 S) := by
  have H := kept h
  by_cases hb : finB P.M.size id = false
  · have HR := kept (reaches_any h id 2 (by rw [hb]; rfl))
    have HE : Hid (dropP P id = (P, 2)) := kept (by unfold dropP; rw [if_pos hb])
    rw [HE.out]
    clear h hb HE
    go_enter Tryz.func15, Tryz.ntmps15
    go_wp2_with (first | (go_at_call 46; (with_reducible refine (HR.out).mono ?_); rintro e w1 ⟨rfl, rfl⟩))
    go_ret
    exact ⟨rfl, kept H.out.left_self⟩
  have hb1 : finB P.M.size id = true := by simpa using hb
  have HR := kept (reaches_any h id 0 (by rw [hb1]; rfl))
  have hrange : 2 ≤ id ∧ id < 1024 := by
    have h1 : 2 ≤ id ∧ id < P.M.size := by simpa [finB] using hb1
    have h2 := h.ok.mz
    have h3 := h.dsk.1.2.1
    omega
  have hwf : Wf id := ⟨by omega, by omega⟩
  have c5 : w.cell? ⟨p.r, 5, none⟩ = some (.slice p.Ac P.chain.length p.cc) := h.c 5
  have hcl : P.chain.length ≤ 1000000 := by
    have h1 := h.chn.reads.1
    have h9 : P.chain.length ≤ 1022 := by
      have hp : (P.chain.mergeSort (fun x y => decide (x ≤ y))).Perm P.chain := List.mergeSort_perm _ _
      rw [← hp.length_eq]
      refine rising_le (sorted_rising h.ok.cn) fun x hx => ?_
      have h2 := h.ok.cb x (hp.mem_iff.1 hx)
      have h3 := h.dsk.1.2.1
      omega
    omega
  have HC := kept (contains_any p.Ac P.chain.length p.cc P.chain id w h.chn.reads hcl)
  have HD : Hid (dropP P id = if id ∈ P.chain then (P, 8) else if (P.add id).isSome then ({ P with L := P.L.give id, add := fun y => if y = id then none else P.add y }, P.L.may id) else ({ P with L := P.L.hold id }, P.L.may id)) := kept (by unfold dropP; rw [if_neg hb])
  by_cases hc : id ∈ P.chain
  · have HE : Hid (dropP P id = (P, 8)) := kept (by rw [HD.out, if_pos hc])
    rw [HE.out]
    rw [decide_eq_true hc] at HC
    clear h hb hb1 HE HD hc hrange hwf hcl
    go_enter Tryz.func15, Tryz.ntmps15
    go_wp2_with (first | (go_at_call 46; (with_reducible refine (HR.out).mono ?_); rintro e w1 ⟨rfl, rfl⟩) | (go_at_call 47; (with_reducible refine (HC.out).mono ?_); rintro e w1 ⟨rfl, rfl⟩))
    go_ret
    exact ⟨rfl, kept H.out.left_self⟩
  rw [decide_eq_false hc] at HC
  have c8 : w.cell? ⟨p.r, 8, none⟩ = some (.pointer (some ⟨p.f.r, 0, none⟩)) := h.c 8
  have c9 : w.cell? ⟨p.r, 9, none⟩ = some (.map (some p.m)) := h.c 9
  have HW := kept hwf
  cases hadd : P.add id with
  | none =>
    have hV : p.V id = none := by
      have := h.adm.2.some_ (x := id)
      rw [hadd] at this
      simpa using this
    have HV := kept hV
    have HE : Hid (dropP P id = ({ P with L := P.L.hold id }, P.L.may id)) := kept (by rw [HD.out, if_neg hc, hadd]; rfl)
    rw [HE.out]
    have HH := kept (hold_any p.f P.L id w h.lst)
    have HOK := kept (ok_hold h.ok hc hadd)
    clear h hb hb1 HE HD hc hrange hwf hcl hV
    generalize P.L.may id = mc at HH
    go_enter Tryz.func15, Tryz.ntmps15
    go_wp2_with (first | (go_at_call 46; (with_reducible refine (HR.out).mono ?_); rintro e w1 ⟨rfl, rfl⟩) | (go_at_call 47; (with_reducible refine (HC.out).mono ?_); rintro e w1 ⟨rfl, rfl⟩) | (at_lookup; refine wpList_look_ok rfl 48 62 _ _ rfl addU (.slice none 0 0) addZ H.out.adm.1 rfl id rfl HW.out (.slice none 0 0) false (by simp [HV.out]) (by simp [HV.out]) ?_) | (go_at_call 49; (with_reducible refine (HH.out).mono ?_); rintro e w1 ⟨rfl, h1⟩))
    go_ret
    exact ⟨rfl, kept (H.out.list_step h1.out HOK.out)⟩
  | some bs =>
    obtain ⟨A2, c2, hV⟩ : ∃ A2 c2, p.V id = some (.slice A2 256 c2) := by
      rcases h.adm.2 id with ⟨h0, _⟩ | ⟨bs', A', c', h1, h2, _⟩
      · rw [hadd] at h0; cases h0
      · exact ⟨A', c', h2⟩
    have HV := kept hV
    have HE : Hid (dropP P id = ({ P with L := P.L.give id, add := fun y => if y = id then none else P.add y }, P.L.may id)) := kept (by rw [HD.out, if_neg hc, hadd]; rfl)
    rw [HE.out]
    have HOK := kept (ok_give h.ok hadd)
    have HM1 := kept (fun (W : World) (hm : Mv W p.m 1022 (fun y => if y = id then none else p.V y)) (hg : w.grownBy W (some p.m)) => h.map_step hm hg (h.adm.2.del id) (add' := fun y => if y = id then none else P.add y) ⟨h.ok.lz, h.ok.mz, h.ok.tx, h.ok.cn, h.ok.cb, h.ok.cs, h.ok.sh, fun x bs e => by
      by_cases ex : x = id
      · subst ex; simp at e
      · simp only [if_neg ex] at e; exact h.ok.ab x bs e⟩)
    have HMM := kept h.adm.1
    clear h hb hb1 HE HD hc hrange hwf hcl hV
    go_enter Tryz.func15, Tryz.ntmps15
    go_wp2_with fail
    with_reducible refine HR.out.mono ?_
    rintro e w1 ⟨rfl, rfl⟩
    go_wp2_with fail
    with_reducible refine HC.out.mono ?_
    rintro e w1 ⟨rfl, rfl⟩
    go_wp2_with (first | (at_lookup; refine wpList_look_ok rfl 48 62 _ _ rfl addU (.slice none 0 0) addZ HMM.out rfl id rfl HW.out (.slice A2 256 c2) true (by simp [HV.out]) (by simp [HV.out]) ?_) | (at_delete; refine wpList_del_mv rfl 48 62 _ _ rfl addU HMM.out rfl id rfl HW.out ?_; intro w4 hm4 hg4; have hst := HM1.out w4 hm4 hg4; obtain ⟨p4, e1, e2, hp4, t4, o4⟩ := hst; have HP4 := kept hp4; have HE1 := kept e1; have HE2 := kept e2; have HT4 := kept t4; have HO4 := kept o4; have d8 : w4.cell? ⟨p.r, 8, none⟩ = some (.pointer (some ⟨p4.f.r, 0, none⟩)) := (by rw [← e1]; exact hp4.c 8); have HG := kept (give_any p4.f P.L id w4 hp4.lst); clear hp4 e1 e2 t4 o4 hm4 hg4) | (go_at_call 48; (with_reducible refine (HG.out).mono ?_); rintro e w5 ⟨rfl, h5⟩))
    go_ret
    exact ⟨rfl, kept (PLeft.via HE1.out HE2.out HT4.out HO4.out (HP4.out.list_step h5.out HOK.out))⟩
end
end Go.Proofs.YtdjcahhofonclaaGreatDoor
end

section
/-
  package pager: readPage and Read.
-/
namespace Go.Proofs.YtdjcahhofonclaaGreatDoor
open Go.ChangeShapes Go.WideShapes Go.ChangeAt Go.RowKit
set_option linter.unusedVariables false
set_option linter.unusedSimpArgs false

set_option maxRecDepth 100000 in
set_option maxHeartbeats 2000000 in
theorem readPage_any (d : Dk) (S : St) (id : Int) (w : World) (h : Dsk w d S) (hf : S.fuse ≠ 0) (h0 : 0 ≤ id) (h1 : id < (S.pages.length : Int)) (hF : Fours w) :
    Calls Tryz.prog 78 #[.pointer (some ⟨d.r, 0, none⟩), .int .i64 id] w (DecA w (decPg (S.page id)).1 (decPg (S.page id)).2) := by
  obtain ⟨k, rfl⟩ := Int.eq_ofNat_of_zero_le h0
  have HLN := kept (h.page_len (p := k) (by omega))
  have HR := fun o => kept (read_ok d S (k : Int) _ (h.below ((Below.refl _ w).alloc (Nat.le_refl _) o)) hf h0 h1)
  have HD := kept (fun W A (hb : Below w.heap.size w W) (hr : Rd W A 256 (S.page (k : Int))) => decode_any A 256 256 (S.page (k : Int)) W hr (Nat.le_refl _) (hF.below hb))
  clear h hf h0 h1 hF
  generalize S.page (k : Int) = xs at HLN HR HD
  generalize (decPg xs).2 = er at HD
  generalize (decPg xs).1 = Q at HD
  go_enter Tryz.func78, Tryz.ntmps78
  go_wp2_with fail
  with_reducible refine (HR _).out.mono ?_
  rintro e w1 ⟨b, rfl, hk1, hn1, hb1⟩
  have HQ1 := kept ((Blk.new w 64 #[.int .i64 0, .int .u64 0, .int .i64 0, .slice none 0 0, .slice none 0 0, .slice none 0 0, .slice none 0 0]).below hb1 (by simp))
  have HB1 := kept (bel_to hb1 ((Below.refl _ w).alloc (Nat.le_refl _) _))
  have HDD := kept (HD.out w1 (some ⟨b, 0, none⟩) HB1.out (hk1.rd HLN.out))
  clear hk1 hn1 hb1 HD HR
  go_wp2_with fail
  with_reducible refine HDD.out.mono ?_
  rintro e w2 ⟨l, rfl, hs, hb2⟩
  have hq2 := HQ1.out.below hb2 HQ1.out.lt
  have p0 : w2.cell? ⟨w.heap.size, 0, none⟩ = some (.int .i64 0) := hq2.cell 0
  have t0 := hq2.frozen 0
  have p1 : w2.cell? ⟨w.heap.size, 1, none⟩ = some (.int .u64 0) := hq2.cell 1
  have t1 := hq2.frozen 1
  have p2 : w2.cell? ⟨w.heap.size, 2, none⟩ = some (.int .i64 0) := hq2.cell 2
  have t2 := hq2.frozen 2
  have p3 : w2.cell? ⟨w.heap.size, 3, none⟩ = some (.slice none 0 0) := hq2.cell 3
  have t3 := hq2.frozen 3
  have p4 : w2.cell? ⟨w.heap.size, 4, none⟩ = some (.slice none 0 0) := hq2.cell 4
  have t4 := hq2.frozen 4
  have p5 : w2.cell? ⟨w.heap.size, 5, none⟩ = some (.slice none 0 0) := hq2.cell 5
  have t5 := hq2.frozen 5
  have p6 : w2.cell? ⟨w.heap.size, 6, none⟩ = some (.slice none 0 0) := hq2.cell 6
  have t6 := hq2.frozen 6
  have HQ2 := kept hq2
  have HB2 := kept (HB1.out.trans (hb2.mono HB1.out.size))
  have HQL := kept HQ1.out.lt
  clear hq2 hb2 HQ1
  obtain ⟨kind, txn, next, a1, n1, k1, a2, n2, k2, a3, n3, k3, a4, n4, k4⟩ := l
  go_wp2
  have hb7 := ((((((HQ2.out.set_ 0 (.int .i64 kind)).set_ 1 (.int .u64 txn)).set_ 2 (.int .i64 next)).set_ 3 (.slice a1 n1 k1)).set_ 4 (.slice a2 n2 k2)).set_ 5 (.slice a3 n3 k3)).set_ 6 (.slice a4 n4 k4)
  simp only [List.set_cons_zero, List.set_cons_succ] at hb7
  have ho7 := only7 w2 w.heap.size (.int .i64 kind) (.int .u64 txn) (.int .i64 next) (.slice a1 n1 k1) (.slice a2 n2 k2) (.slice a3 n3 k3) (.slice a4 n4 k4)
  unfold set7 at ho7
  generalize (((((((w2.setCell ⟨w.heap.size, 0, none⟩ (.int .i64 kind)).setCell ⟨w.heap.size, 1, none⟩ (.int .u64 txn)).setCell ⟨w.heap.size, 2, none⟩ (.int .i64 next)).setCell ⟨w.heap.size, 3, none⟩ (.slice a1 n1 k1)).setCell ⟨w.heap.size, 4, none⟩ (.slice a2 n2 k2)).setCell ⟨w.heap.size, 5, none⟩ (.slice a3 n3 k3)).setCell ⟨w.heap.size, 6, none⟩ (.slice a4 n4 k4)) = X at hb7 ho7 ⊢
  have x0 : X.cell? ⟨w.heap.size, 0, none⟩ = some (.int .i64 kind) := hb7.cell 0
  have x1 : X.cell? ⟨w.heap.size, 1, none⟩ = some (.int .u64 txn) := hb7.cell 1
  have x2 : X.cell? ⟨w.heap.size, 2, none⟩ = some (.int .i64 next) := hb7.cell 2
  have x3 : X.cell? ⟨w.heap.size, 3, none⟩ = some (.slice a1 n1 k1) := hb7.cell 3
  have x4 : X.cell? ⟨w.heap.size, 4, none⟩ = some (.slice a2 n2 k2) := hb7.cell 4
  have x5 : X.cell? ⟨w.heap.size, 5, none⟩ = some (.slice a3 n3 k3) := hb7.cell 5
  have x6 : X.cell? ⟨w.heap.size, 6, none⟩ = some (.slice a4 n4 k4) := hb7.cell 6
  exact bodyPost_ret (v := .tuple #[.agg #[.int .i64 kind, .int .u64 txn, .int .i64 next, .slice a1 n1 k1, .slice a2 n2 k2, .slice a3 n3 k3, .slice a4 n4 k4], .int .i64 er]) (by simp [results, Tryz.results78, go_sem, x0, x1, x2, x3, x4, x5, x6]) rfl ⟨⟨kind, txn, next, a1, n1, k1, a2, n2, k2, a3, n3, k3, a4, n4, k4⟩, rfl, kept (hs.out.go (Onl.one ho7 HQL.out) (Nat.le_of_lt HQL.out)), ho7.below HB2.out HB2.out.size (Nat.le_refl _)⟩

/-- The bytes that Read finds. -/
def bytesAt (P : PSt) (S : St) (id : Int) : List UInt8 := match P.add id with | some bs => bs | none => S.page id
set_option maxRecDepth 100000 in
set_option maxHeartbeats 2000000 in
theorem pread_any {w : World} {p : Pgl} {P : PSt} {S : St} (h : Pgr w p P S) (id : Int) (hb : finB P.M.size id = true) (hf : S.fuse ≠ 0) (hF : Fours w) :
    Calls Tryz.prog 35 #[.pointer (some ⟨p.r, 0, none⟩), .int .i64 id] w (DecA w (decPg (bytesAt P S id)).1 (decPg (bytesAt P S id)).2) := by
  have HB0 := fun o => kept ((Below.refl _ w).alloc (Nat.le_refl _) o)
  have HR := fun o => kept (reaches_any (h.below (HB0 o).out) id 0 (by rw [hb]; rfl))
  have hrange : 2 ≤ id ∧ id < (S.pages.length : Int) ∧ id < 1024 := by
    have h1 : 2 ≤ id ∧ id < P.M.size := by simpa [finB] using hb
    have h2 := h.ok.mz
    have h3 := h.dsk.1.2.1
    omega
  have HW : Hid (Wf id) := kept ⟨by omega, by omega⟩
  have c9 := fun o => ((h.below (HB0 o).out).c 9 : (w.alloc o).cell? ⟨p.r, 9, none⟩ = some (.map (some p.m)))
  have c0 := fun o => ((h.below (HB0 o).out).c 0 : (w.alloc o).cell? ⟨p.r, 0, none⟩ = some (.pointer (some ⟨p.d.r, 0, none⟩)))
  have HM := fun o => kept (h.below (HB0 o).out).adm.1
  have hlt := h.blk.lt
  have fin : ∀ (Q : Pg) (er : Int) (k : DecA w Q er = DecA w (decPg (bytesAt P S id)).1 (decPg (bytesAt P S id)).2), True := fun _ _ _ => trivial
  cases hadd : P.add id with
  | none =>
    have hV : p.V id = none := by
      have := h.adm.2.some_ (x := id)
      rw [hadd] at this
      simpa using this
    have HV := kept hV
    have e : bytesAt P S id = S.page id := by unfold bytesAt; rw [hadd]
    rw [e]
    have HD := fun o => kept (readPage_any p.d S id _ (h.below (HB0 o).out).dsk hf (by omega) hrange.2.1 (hF.below (HB0 o).out))
    clear h hb hf hF hrange hV hadd e fin
    generalize (decPg (S.page id)).2 = er at HD
    generalize (decPg (S.page id)).1 = Q at HD
    go_enter Tryz.func35, Tryz.ntmps35
    go_wp2_with fail
    with_reducible refine (HR _).out.mono ?_
    rintro e w1 ⟨rfl, rfl⟩
    go_wp2_with (first | (at_lookup; refine wpList_look_ok rfl 48 62 _ _ rfl addU (.slice none 0 0) addZ (HM _).out rfl id rfl HW.out (.slice none 0 0) false (by simp [HV.out]) (by simp [HV.out]) ?_) | (go_at_call 78; (with_reducible refine (HD _).out.mono ?_); rintro e w2 ⟨l, rfl, hs, hb2⟩; have hq2 := (Blk.new w 64 #[.int .i64 0, .int .u64 0, .int .i64 0, .slice none 0 0, .slice none 0 0, .slice none 0 0, .slice none 0 0]).below hb2 (by simp); have p0 : w2.cell? ⟨w.heap.size, 0, none⟩ = some (.int .i64 0) := hq2.cell 0; have t0 := hq2.frozen 0; have p1 : w2.cell? ⟨w.heap.size, 1, none⟩ = some (.int .u64 0) := hq2.cell 1; have t1 := hq2.frozen 1; have p2 : w2.cell? ⟨w.heap.size, 2, none⟩ = some (.int .i64 0) := hq2.cell 2; have t2 := hq2.frozen 2; have p3 : w2.cell? ⟨w.heap.size, 3, none⟩ = some (.slice none 0 0) := hq2.cell 3; have t3 := hq2.frozen 3; have p4 : w2.cell? ⟨w.heap.size, 4, none⟩ = some (.slice none 0 0) := hq2.cell 4; have t4 := hq2.frozen 4; have p5 : w2.cell? ⟨w.heap.size, 5, none⟩ = some (.slice none 0 0) := hq2.cell 5; have t5 := hq2.frozen 5; have p6 : w2.cell? ⟨w.heap.size, 6, none⟩ = some (.slice none 0 0) := hq2.cell 6; have t6 := hq2.frozen 6; have HQ2 := kept hq2; have HB2 := kept (bel_to hb2 (HB0 _).out); have HQL := kept hb2.size; clear hq2 hb2; obtain ⟨kind, txn, next, a1, n1, k1, a2, n2, k2, a3, n3, k3, a4, n4, k4⟩ := l))
    have hb7 := ((((((HQ2.out.set_ 0 (.int .i64 kind)).set_ 1 (.int .u64 txn)).set_ 2 (.int .i64 next)).set_ 3 (.slice a1 n1 k1)).set_ 4 (.slice a2 n2 k2)).set_ 5 (.slice a3 n3 k3)).set_ 6 (.slice a4 n4 k4)
    simp only [List.set_cons_zero, List.set_cons_succ] at hb7
    have ho7 := only7 w2 w.heap.size (.int .i64 kind) (.int .u64 txn) (.int .i64 next) (.slice a1 n1 k1) (.slice a2 n2 k2) (.slice a3 n3 k3) (.slice a4 n4 k4)
    unfold set7 at ho7
    generalize (((((((w2.setCell ⟨w.heap.size, 0, none⟩ (.int .i64 kind)).setCell ⟨w.heap.size, 1, none⟩ (.int .u64 txn)).setCell ⟨w.heap.size, 2, none⟩ (.int .i64 next)).setCell ⟨w.heap.size, 3, none⟩ (.slice a1 n1 k1)).setCell ⟨w.heap.size, 4, none⟩ (.slice a2 n2 k2)).setCell ⟨w.heap.size, 5, none⟩ (.slice a3 n3 k3)).setCell ⟨w.heap.size, 6, none⟩ (.slice a4 n4 k4)) = X at hb7 ho7 ⊢
    have x0 : X.cell? ⟨w.heap.size, 0, none⟩ = some (.int .i64 kind) := hb7.cell 0
    have x1 : X.cell? ⟨w.heap.size, 1, none⟩ = some (.int .u64 txn) := hb7.cell 1
    have x2 : X.cell? ⟨w.heap.size, 2, none⟩ = some (.int .i64 next) := hb7.cell 2
    have x3 : X.cell? ⟨w.heap.size, 3, none⟩ = some (.slice a1 n1 k1) := hb7.cell 3
    have x4 : X.cell? ⟨w.heap.size, 4, none⟩ = some (.slice a2 n2 k2) := hb7.cell 4
    have x5 : X.cell? ⟨w.heap.size, 5, none⟩ = some (.slice a3 n3 k3) := hb7.cell 5
    have x6 : X.cell? ⟨w.heap.size, 6, none⟩ = some (.slice a4 n4 k4) := hb7.cell 6
    exact bodyPost_ret (v := .tuple #[.agg #[.int .i64 kind, .int .u64 txn, .int .i64 next, .slice a1 n1 k1, .slice a2 n2 k2, .slice a3 n3 k3, .slice a4 n4 k4], .int .i64 er]) (by simp [results, Tryz.results35, go_sem, x0, x1, x2, x3, x4, x5, x6]) rfl ⟨⟨kind, txn, next, a1, n1, k1, a2, n2, k2, a3, n3, k3, a4, n4, k4⟩, rfl, kept (hs.out.go (Onl.one ho7 (by simp)) (by simp)), ho7.below HB2.out HB2.out.size (Nat.le_refl _)⟩
  | some bs =>
    obtain ⟨A2, c2, hV, hA⟩ : ∃ A2 c2, p.V id = some (.slice A2 256 c2) ∧ OwB w A2 256 c2 bs := by
      rcases h.adm.2 id with ⟨h0, _⟩ | ⟨bs', A', c', h1, h2, h3, _⟩
      · rw [hadd] at h0; cases h0
      · rw [hadd] at h1; cases h1; exact ⟨A', c', h2, h3⟩
    have HV := kept hV
    have e : bytesAt P S id = bs := by unfold bytesAt; rw [hadd]
    rw [e]
    have HD := fun o => kept (decode_any A2 256 c2 bs _ (hA.rd.below (HB0 o).out) hA.cap (hF.below (HB0 o).out))
    clear h hb hf hF hrange hV hA hadd e fin
    generalize (decPg bs).2 = er at HD
    generalize (decPg bs).1 = Q at HD
    go_enter Tryz.func35, Tryz.ntmps35
    go_wp2_with fail
    with_reducible refine (HR _).out.mono ?_
    rintro e w1 ⟨rfl, rfl⟩
    go_wp2_with (first | (at_lookup; refine wpList_look_ok rfl 48 62 _ _ rfl addU (.slice none 0 0) addZ (HM _).out rfl id rfl HW.out (.slice A2 256 c2) true (by simp [HV.out]) (by simp [HV.out]) ?_) | (go_at_call 77; (with_reducible refine (HD _).out.mono ?_); rintro e w2 ⟨l, rfl, hs, hb2⟩; have hq2 := (Blk.new w 64 #[.int .i64 0, .int .u64 0, .int .i64 0, .slice none 0 0, .slice none 0 0, .slice none 0 0, .slice none 0 0]).below hb2 (by simp); have p0 : w2.cell? ⟨w.heap.size, 0, none⟩ = some (.int .i64 0) := hq2.cell 0; have t0 := hq2.frozen 0; have p1 : w2.cell? ⟨w.heap.size, 1, none⟩ = some (.int .u64 0) := hq2.cell 1; have t1 := hq2.frozen 1; have p2 : w2.cell? ⟨w.heap.size, 2, none⟩ = some (.int .i64 0) := hq2.cell 2; have t2 := hq2.frozen 2; have p3 : w2.cell? ⟨w.heap.size, 3, none⟩ = some (.slice none 0 0) := hq2.cell 3; have t3 := hq2.frozen 3; have p4 : w2.cell? ⟨w.heap.size, 4, none⟩ = some (.slice none 0 0) := hq2.cell 4; have t4 := hq2.frozen 4; have p5 : w2.cell? ⟨w.heap.size, 5, none⟩ = some (.slice none 0 0) := hq2.cell 5; have t5 := hq2.frozen 5; have p6 : w2.cell? ⟨w.heap.size, 6, none⟩ = some (.slice none 0 0) := hq2.cell 6; have t6 := hq2.frozen 6; have HQ2 := kept hq2; have HB2 := kept (bel_to hb2 (HB0 _).out); have HQL := kept hb2.size; clear hq2 hb2; obtain ⟨kind, txn, next, a1, n1, k1, a2, n2, k2, a3, n3, k3, a4, n4, k4⟩ := l))
    have hb7 := ((((((HQ2.out.set_ 0 (.int .i64 kind)).set_ 1 (.int .u64 txn)).set_ 2 (.int .i64 next)).set_ 3 (.slice a1 n1 k1)).set_ 4 (.slice a2 n2 k2)).set_ 5 (.slice a3 n3 k3)).set_ 6 (.slice a4 n4 k4)
    simp only [List.set_cons_zero, List.set_cons_succ] at hb7
    have ho7 := only7 w2 w.heap.size (.int .i64 kind) (.int .u64 txn) (.int .i64 next) (.slice a1 n1 k1) (.slice a2 n2 k2) (.slice a3 n3 k3) (.slice a4 n4 k4)
    unfold set7 at ho7
    generalize (((((((w2.setCell ⟨w.heap.size, 0, none⟩ (.int .i64 kind)).setCell ⟨w.heap.size, 1, none⟩ (.int .u64 txn)).setCell ⟨w.heap.size, 2, none⟩ (.int .i64 next)).setCell ⟨w.heap.size, 3, none⟩ (.slice a1 n1 k1)).setCell ⟨w.heap.size, 4, none⟩ (.slice a2 n2 k2)).setCell ⟨w.heap.size, 5, none⟩ (.slice a3 n3 k3)).setCell ⟨w.heap.size, 6, none⟩ (.slice a4 n4 k4)) = X at hb7 ho7 ⊢
    have x0 : X.cell? ⟨w.heap.size, 0, none⟩ = some (.int .i64 kind) := hb7.cell 0
    have x1 : X.cell? ⟨w.heap.size, 1, none⟩ = some (.int .u64 txn) := hb7.cell 1
    have x2 : X.cell? ⟨w.heap.size, 2, none⟩ = some (.int .i64 next) := hb7.cell 2
    have x3 : X.cell? ⟨w.heap.size, 3, none⟩ = some (.slice a1 n1 k1) := hb7.cell 3
    have x4 : X.cell? ⟨w.heap.size, 4, none⟩ = some (.slice a2 n2 k2) := hb7.cell 4
    have x5 : X.cell? ⟨w.heap.size, 5, none⟩ = some (.slice a3 n3 k3) := hb7.cell 5
    have x6 : X.cell? ⟨w.heap.size, 6, none⟩ = some (.slice a4 n4 k4) := hb7.cell 6
    exact bodyPost_ret (v := .tuple #[.agg #[.int .i64 kind, .int .u64 txn, .int .i64 next, .slice a1 n1 k1, .slice a2 n2 k2, .slice a3 n3 k3, .slice a4 n4 k4], .int .i64 er]) (by simp [results, Tryz.results35, go_sem, x0, x1, x2, x3, x4, x5, x6]) rfl ⟨⟨kind, txn, next, a1, n1, k1, a2, n2, k2, a3, n3, k3, a4, n4, k4⟩, rfl, kept (hs.out.go (Onl.one ho7 (by simp)) (by simp)), ho7.below HB2.out HB2.out.size (Nat.le_refl _)⟩
end Go.Proofs.YtdjcahhofonclaaGreatDoor
end

section
/-
  package pager: newest and readChain.
-/
namespace Go.Proofs.YtdjcahhofonclaaGreatDoor
open Go.ChangeShapes Go.WideShapes Go.ChangeAt Go.RowKit
set_option linter.unusedVariables false
set_option linter.unusedSimpArgs false

set_option maxRecDepth 100000 in
set_option maxHeartbeats 2000000 in
theorem newest_any (d : Dk) (S : St) (w : World) (h : Dsk w d S) (hf : S.fuse ≠ 0) (hF : Fours w) :
    Calls Tryz.prog 51 #[.pointer (some ⟨d.r, 0, none⟩)] w fun e w' => e = .returned (.tuple #[(chooseM (S.page 0) (S.page 1)).1.val, .int .i64 (chooseM (S.page 0) (S.page 1)).2]) ∧ Below w.heap.size w w' := by
  have h8 := h.1.1
  have HL0 : Hid ((S.page 0).length = 256) := kept (h.page_len (p := 0) (by omega))
  have HL1 : Hid ((S.page 1).length = 256) := kept (h.page_len (p := 1) (by omega))
  have HR0 := fun o => kept (read_ok d S 0 _ (h.below ((Below.refl _ w).alloc (Nat.le_refl _) o)) hf (by omega) (by omega))
  have HR1 := kept (fun (W : World) (hb : Below w.heap.size w W) => read_ok d S 1 W (h.below hb) hf (by omega) (by omega))
  have HCH := kept (fun (W : World) (A B : Option Addr) (hb : Below w.heap.size w W) (r0 : Rd W A 256 (S.page 0)) (r1 : Rd W B 256 (S.page 1)) => choose_m A B 256 256 256 256 (S.page 0) (S.page 1) W r0 (Nat.le_refl _) r1 (Nat.le_refl _) (hF.below hb))
  clear h hf h8 hF
  obtain ⟨C, hC⟩ : ∃ C, chooseM (S.page 0) (S.page 1) = C := ⟨_, rfl⟩
  rw [hC] at HCH ⊢
  obtain ⟨⟨t, r, s, z⟩, er⟩ := C
  simp only at HCH
  clear hC
  generalize S.page 0 = x0 at HL0 HR0 HCH
  generalize S.page 1 = x1 at HL1 HR1 HCH
  go_enter Tryz.func51, Tryz.ntmps51
  go_wp2_with fail
  with_reducible refine (HR0 _).out.mono ?_
  rintro e w1 ⟨b0, rfl, hk0, hn0, hb0⟩
  have HQ1 := kept ((Blk.new w 87 #[.int .u64 0, .int .i64 0, .int .i64 0, .int .i64 0]).below hb0 (by simp))
  have HB1 := kept (bel_to hb0 ((Below.refl _ w).alloc (Nat.le_refl _) _))
  have HK0 := kept hk0
  clear hk0 hn0 hb0 HR0
  go_wp2_with fail
  with_reducible refine (HR1.out w1 HB1.out).mono ?_
  rintro e w2 ⟨b1, rfl, hk1, hn1, hb1⟩
  have HQ2 := kept (HQ1.out.below hb1 HQ1.out.lt)
  have HB2 := kept (HB1.out.trans (hb1.mono HB1.out.size))
  have HC2 := kept (HCH.out w2 _ _ HB2.out ((HK0.out.below hb1 HK0.out.lt).rd HL0.out) (hk1.rd HL1.out))
  clear hk1 hn1 hb1 HR1
  go_wp2_with fail
  with_reducible refine HC2.out.mono ?_
  rintro e w3 ⟨rfl, hb3⟩
  have hq3 := HQ2.out.below hb3 HQ2.out.lt
  have HB3 := kept (HB2.out.trans (hb3.mono HB2.out.size))
  obtain ⟨e0, e1, e2, e3⟩ := hq3.fou
  have f0 := hq3.frozen 0
  have f1 := hq3.frozen 1
  have f2 := hq3.frozen 2
  have f3 := hq3.frozen 3
  have HQ3 := kept hq3
  clear hb3 hq3
  go_wp2
  have hx := store4 HQ3.out HB3.out (Nat.le_refl _) (.int .u64 (t : Int)) (.int .i64 r) (.int .i64 s) (.int .i64 z)
  generalize (((w3.setCell ⟨w.heap.size, 0, none⟩ (.int .u64 (t : Int))).setCell ⟨w.heap.size, 1, none⟩ (.int .i64 r)).setCell ⟨w.heap.size, 2, none⟩ (.int .i64 s)).setCell ⟨w.heap.size, 3, none⟩ (.int .i64 z) = X at hx ⊢
  obtain ⟨v0, v1, v2, v3, hbx⟩ := hx
  exact bodyPost_ret (v := .tuple #[.agg #[.int .u64 (t : Int), .int .i64 r, .int .i64 s, .int .i64 z], .int .i64 er]) (by simp [results, Tryz.results51, go_sem, v0, v1, v2, v3]) rfl ⟨rfl, hbx⟩

theorem RdI.oneI (w : World) (x : Int) : RdI (w.alloc (.cells #[.int .i64 x] 3)) (some ⟨w.heap.size, 0, none⟩) 1 [x] :=
  ⟨rfl, fun _ => ⟨_, 0, rfl, fun j hj => by
    obtain rfl : j = 0 := by simpa using hj
    exact (Blk.new w 3 #[.int .i64 x]).cell 0⟩⟩
/-! ### readChain -/
def rchain (S : St) : Nat → Int → List Int → List Int → Int × List Int × List Int
  | 0, _, _, _ => (4, [], [])
  | k + 1, a, C, I =>
    if a = 0 then (0, C, I)
    else if finB (S.pages.length : Int) a = false then (4, [], [])
    else if a ∈ C then (4, [], [])
    else if (decPg (S.page a)).2 ≠ 0 then ((decPg (S.page a)).2, [], [])
    else if (decPg (S.page a)).1.kind ≠ 4 then (4, [], [])
    else rchain S k (decPg (S.page a)).1.next (C ++ [a]) (I ++ (decPg (S.page a)).1.ids)
theorem decPg_ids (xs : List UInt8) : (decPg xs).1.ids.length ≤ 59 := by
  unfold decPg
  split
  · exact Nat.zero_le _
  · split
    · exact Nat.zero_le _
    · split
      · rename_i h
        have := (right_parts h.2.2).2.2.2
        unfold usedN at this
        simp only at this ⊢
        omega
      · exact Nat.zero_le _
theorem RdPg.ri {w : World} {l : Lay} {P : Pg} (h : RdPg w l P) : RdI w l.a4 l.n4 P.ids := by
  refine ⟨h.n4, fun h0 => ?_⟩
  obtain ⟨b, o, e⟩ := h.ids.2.1 h0
  exact ⟨b, o, e, fun j hj => h.ids.2.2 b o e j hj⟩
/-- The chain and the numbers so far, in two slices of the call's own. -/
structure Two (a w : World) (A : Option Addr) (n c : Nat) (C : List Int) (B : Option Addr) (m d : Nat) (I : List Int) : Prop where
  ca : OwI w A n c C
  ib : OwI w B m d I
  an : ∀ g, blkOf A = some g → a.heap.size ≤ g
  bn : ∀ g, blkOf B = some g → a.heap.size ≤ g
  ne : ∀ g, blkOf A = some g → blkOf B ≠ some g
  below : Below a.heap.size a w
theorem Two.on {a w w' : World} {A : Option Addr} {n c : Nat} {C : List Int} {B : Option Addr} {m d : Nat} {I : List Int} (h : Two a w A n c C B m d I) (hb : Below w.heap.size w w') : Two a w' A n c C B m d I :=
  ⟨h.ca.below hb, h.ib.below hb, h.an, h.bn, h.ne, h.below.trans (hb.mono h.below.size)⟩
theorem Two.growA {a w w' : World} {A A' : Option Addr} {n c n' c' : Nat} {C C' : List Int} {B : Option Addr} {m d : Nat} {I : List Int} (h : Two a w A n c C B m d I) (ho : OwI w' A' n' c' C') (t : Turned w w' (fun j => blkOf A = some j)) (hg : ∀ g, blkOf A' = some g → blkOf A = some g ∨ w.heap.size ≤ g) : Two a w' A' n' c' C' B m d I := by
  refine ⟨ho, h.ib.turned t (fun g hg ha => h.ne g ha hg), fun g e => ?_, h.bn, fun g e hb => ?_, t.only_new h.below h.below.size (fun i hi => h.an i hi)⟩
  · rcases hg g e with k | k
    · exact h.an g k
    · exact Nat.le_trans h.below.size k
  · rcases hg g e with k | k
    · exact h.ne g k hb
    · have := h.ib.lt hb; omega
theorem Two.growB {a w w' : World} {A : Option Addr} {n c : Nat} {C : List Int} {B B' : Option Addr} {m d m' d' : Nat} {I I' : List Int} (h : Two a w A n c C B m d I) (ho : OwI w' B' m' d' I') (t : Turned w w' (fun j => blkOf B = some j)) (hg : ∀ g, blkOf B' = some g → blkOf B = some g ∨ w.heap.size ≤ g) : Two a w' A n c C B' m' d' I' := by
  refine ⟨h.ca.turned t (fun g hg hb => h.ne g hg hb), ho, h.an, fun g e => ?_, fun g e hb => ?_, t.only_new h.below h.below.size (fun i hi => h.bn i hi)⟩
  · rcases hg g e with k | k
    · exact h.bn g k
    · exact Nat.le_trans h.below.size k
  · rcases hg g hb with k | k
    · exact h.ne g e k
    · have := h.ca.lt e; omega
theorem nodup_short {C : List Int} {z : Nat} (hn : C.Nodup) (hb : ∀ x ∈ C, 2 ≤ x ∧ x < (z : Int)) (hz : z ≤ 1024) : C.length ≤ 1022 := by
  have hp : (C.mergeSort (fun x y => decide (x ≤ y))).Perm C := List.mergeSort_perm _ _
  rw [← hp.length_eq]
  refine rising_le (sorted_rising hn) fun x hx => ?_
  have h2 := hb x (hp.mem_iff.1 hx)
  omega
theorem two_nil {a w : World} (hb : Below a.heap.size a w) : Two a w none 0 0 [] none 0 0 [] := ⟨OwI.nil_ _, OwI.nil_ _, fun g e => (by cases e), fun g e => (by cases e), fun g e => (by cases e), hb⟩
theorem Sta.belowS {B : Nat} {w w' : World} {R : World → Prop} (h : Sta B w R) (hB : 0 < B) (hb : Below w.heap.size w w') : Sta B w' R :=
  h.go (Onl.one (g := 0) ⟨hb.os, hb.tape, hb.output, hb.size, fun k hk _ => hb.block k hk⟩ hB) (Nat.le_refl _)
theorem Sta.turnedA {B : Nat} {w w' : World} {R : World → Prop} {A : Option Addr} (h : Sta B w R) (hB : 0 < B) (t : Turned w w' (fun j => blkOf A = some j)) (hA : ∀ g, blkOf A = some g → g < B) : Sta B w' R := by
  cases hA' : blkOf A with
  | none => exact h.go (Onl.one (g := 0) ⟨t.os, t.tape, t.output, t.size, fun k hk _ => t.block k hk (fun e => by rw [hA'] at e; cases e)⟩ hB) (Nat.le_refl _)
  | some g => exact h.go (Onl.one (g := g) ⟨t.os, t.tape, t.output, t.size, fun k hk hn => t.block k hk (fun e => hn (by rw [hA'] at e; exact e.symm))⟩ (hA g hA')) (Nat.le_refl _)
theorem Blk.turnI {w w' : World} {g : Nat} {cs : List Value} {A : Option Addr} (h : Blk w g 64 cs) (t : Turned w w' (fun j => blkOf A = some j)) (hA : ∀ g, blkOf A = some g → Cl w g 3) : Blk w' g 64 cs :=
  t.blk h (fun hj => absurd ((hA g hj).uniq h.cl) (by decide))
/-- What readChain answers. -/
def RcA (w : World) (R : Int × List Int × List Int) (e : Ending) (w' : World) : Prop :=
  ∃ (A : Option Addr) (n c : Nat) (B : Option Addr) (m d : Nat), e = .returned (.tuple #[.slice A n c, .slice B m d, .int .i64 R.1]) ∧ Hid (Two w w' A n c R.2.1 B m d R.2.2)
/-- A round's head. -/
structure RcK (S : St) (w : World) (R : Int × List Int × List Int) (a : Int) (A : Option Addr) (n c : Nat) (B : Option Addr) (m d : Nat) (wr : World) : Prop where
  ex : ∃ C I, Two w wr A n c C B m d I ∧ C.Nodup ∧ (∀ x ∈ C, 2 ≤ x ∧ x < (S.pages.length : Int)) ∧ I.length ≤ 59 * C.length ∧ rchain S (1100 - C.length) a C I = R
set_option maxRecDepth 100000 in
set_option maxHeartbeats 4000000 in
theorem readChain_any (d : Dk) (S : St) (a0 : Int) (w : World) (h : Dsk w d S) (hf : S.fuse ≠ 0) (hF : Fours w) :
    Calls Tryz.prog 53 #[.pointer (some ⟨d.r, 0, none⟩), .int .i64 a0] w (RcA w (rchain S 1100 a0 [] [])) := by
  have HD := kept (fun (W : World) (hb : Below w.heap.size w W) => h.below hb)
  have hz1024 := h.1.2.1
  have H0 : Hid (RcK S w (rchain S 1100 a0 [] []) a0 none 0 0 none 0 0 w) := kept ⟨[], [], ⟨OwI.nil_ _, OwI.nil_ _, fun g e => (by cases e), fun g e => (by cases e), fun g e => (by cases e), Below.refl _ _⟩, List.nodup_nil, fun x hx => (by cases hx), Nat.le_refl _, rfl⟩
  generalize rchain S 1100 a0 [] [] = R at H0 ⊢
  have HSZ := kept (fun (W : World) (hb : Below w.heap.size w W) => size_any d S W (h.below hb))
  have HRP := kept (fun (W : World) (a : Int) (hb : Below w.heap.size w W) (h0 : 0 ≤ a) (h1 : a < (S.pages.length : Int)) => readPage_any d S a W (h.below hb) hf h0 h1 (hF.below hb))
  clear h hf hF
  go_enter Tryz.func53, Tryz.ntmps53
  go_wp2
  go_loopw [1, 4, 5] (fun at_ ch ids wr => ∃ (a : Int) (A : Option Addr) (n c : Nat) (B : Option Addr) (m d' : Nat), at_ = .int .i64 a ∧ ch = .slice A n c ∧ ids = .slice B m d' ∧ Hid (RcK S w R a A n c B m d' wr)) (fun _ ch _ _ => 1100 - lenS ch)
  case atStart => exact ⟨a0, none, 0, 0, none, 0, 0, rfl, rfl, rfl, H0⟩
  case round =>
    obtain ⟨a, A, n, c, B, m, d', rfl, rfl, rfl, HL⟩ := hrel
    clear H0
    obtain ⟨C, I, htw, hnd, hcb, hil, hrc⟩ := HL.out.ex
    have HTW := kept htw
    have HND := kept hnd
    have HCB := kept hcb
    have hn : C.length = n := htw.ca.1
    have HN := kept hn
    have hm : I.length = m := htw.ib.1
    have hn1 : n ≤ 1022 := by rw [← hn]; exact nodup_short hnd hcb hz1024
    have hmn : m ≤ 59 * n := by rw [← hm, ← hn]; exact hil
    rw [hn] at hrc
    obtain ⟨q, hq⟩ : ∃ q, 1100 - n = q + 1 := ⟨1099 - n, by omega⟩
    rw [hq] at hrc
    have HRC : Hid (rchain S (q + 1) a C I = R) := kept hrc
    clear htw hnd hcb hil hrc hn hm HL
    by_cases ha : a = 0
    · subst ha
      have HE : Hid (R = (0, C, I)) := kept (by rw [← HRC.out, rchain, if_pos rfl])
      go_wp2
      go_returns
      rw [HE.out]
      exact ⟨A, n, c, B, m, d', rfl, HTW⟩
    · have HPOS : Hid (0 < wr.heap.size) := kept (by have h1 := (HD.out wr HTW.out.below).2.1.lt; omega)
      have hab : (a != 0) = true := by simpa using ha
      have HSZ1 := kept (HSZ.out wr HTW.out.below)
      have HIB := fun W => kept (pInBounds_any a (S.pages.length : Int) W)
      cases hfb : finB (S.pages.length : Int) a with
      | false =>
        have HE : Hid (R = (4, [], [])) := kept (by rw [← HRC.out, rchain, if_neg ha, if_pos hfb])
        rw [hfb] at HIB
        go_wp2_with (first | (go_at_call 52; (with_reducible refine (HSZ1.out).mono ?_); rintro e w1 ⟨rfl, rfl⟩) | (go_at_call 86; (with_reducible refine ((HIB _).out).mono ?_); rintro e w1 ⟨rfl, rfl⟩))
        go_returns
        rw [HE.out]
        exact ⟨none, 0, 0, none, 0, 0, rfl, kept (two_nil HTW.out.below)⟩
      | true =>
        rw [hfb] at HIB
        have HCT := kept (contains_any A n c C a wr HTW.out.ca.reads (by omega))
        have hrange : 2 ≤ a ∧ a < (S.pages.length : Int) := by simpa [finB] using hfb
        by_cases hac : a ∈ C
        · have HE : Hid (R = (4, [], [])) := kept (by rw [← HRC.out, rchain, if_neg ha, if_neg (by rw [hfb]; decide), if_pos hac])
          rw [decide_eq_true hac] at HCT
          clear hac
          go_wp2_with (first | (go_at_call 52; (with_reducible refine (HSZ1.out).mono ?_); rintro e w1 ⟨rfl, rfl⟩) | (go_at_call 86; (with_reducible refine ((HIB _).out).mono ?_); rintro e w1 ⟨rfl, rfl⟩) | (go_at_call 47; (with_reducible refine (HCT.out).mono ?_); rintro e w1 ⟨rfl, rfl⟩))
          go_returns
          rw [HE.out]
          exact ⟨none, 0, 0, none, 0, 0, rfl, kept (two_nil HTW.out.below)⟩
        · rw [decide_eq_false hac] at HCT
          have HR1 := kept (HRP.out wr a HTW.out.below (by omega) hrange.2)
          have HRC2 : Hid ((if (decPg (S.page a)).2 ≠ 0 then ((decPg (S.page a)).2, [], []) else if (decPg (S.page a)).1.kind ≠ 4 then (4, [], []) else rchain S q (decPg (S.page a)).1.next (C ++ [a]) (I ++ (decPg (S.page a)).1.ids)) = R) := kept (by
            have := HRC.out
            rw [rchain, if_neg ha, if_neg (by rw [hfb]; decide), if_neg hac] at this
            exact this)
          have HAC := kept hac
          have HRG := kept hrange
          have HIL := kept (decPg_ids (S.page a))
          clear HRC hac hrange hfb
          generalize decPg (S.page a) = D at HR1 HRC2 HIL
          obtain ⟨Q, er⟩ := D
          simp only at HR1 HRC2 HIL
          by_cases he : er = 0
          · subst he
            by_cases hk4 : Q.kind = 4
            · have HE : Hid (rchain S q Q.next (C ++ [a]) (I ++ Q.ids) = R) := kept (by
                have := HRC2.out
                rw [if_neg (by simp), if_neg (by simpa using hk4)] at this
                exact this)
              have HK4 := kept hk4
              clear HRC2 hk4
              go_wp2_with (first | (go_at_call 52; (with_reducible refine HSZ1.out.mono ?_); rintro e w1 ⟨rfl, rfl⟩) | (go_at_call 86; (with_reducible refine (HIB _).out.mono ?_); rintro e w1 ⟨rfl, rfl⟩) | (go_at_call 47; (with_reducible refine HCT.out.mono ?_); rintro e w1 ⟨rfl, rfl⟩) | (go_at_call 78; (with_reducible refine HR1.out.mono ?_); rintro e w2 ⟨l, rfl, hs, hb2⟩; obtain ⟨kind, txn, next, a1, n1, k1, a2, n2, k2, a3, n3, k3, a4, n4, k4⟩ := l; have HB2 := kept hb2; have HRD := kept hs.out; have hkd : kind = 4 := (hs.out.here.kind.symm.trans HK4.out); subst hkd; clear hs hb2))
              have HX3 : Hid (Blk (w2.alloc (.cells #[.int .i64 4, .int .u64 txn, .int .i64 next, .slice a1 n1 k1, .slice a2 n2 k2, .slice a3 n3 k3, .slice a4 n4 k4] 64)) w2.heap.size 64 [.int .i64 4, .int .u64 txn, .int .i64 next, .slice a1 n1 k1, .slice a2 n2 k2, .slice a3 n3 k3, .slice a4 n4 k4]) := kept (Blk.new w2 64 #[.int .i64 4, .int .u64 txn, .int .i64 next, .slice a1 n1 k1, .slice a2 n2 k2, .slice a3 n3 k3, .slice a4 n4 k4])
              have HB3 : Hid (Below wr.heap.size wr (w2.alloc (.cells #[.int .i64 4, .int .u64 txn, .int .i64 next, .slice a1 n1 k1, .slice a2 n2 k2, .slice a3 n3 k3, .slice a4 n4 k4] 64))) := kept (HB2.out.alloc HB2.out.size _)
              have HS3 := kept (HRD.out.belowS HPOS.out ((Below.refl _ w2).alloc (Nat.le_refl _) (.cells #[.int .i64 4, .int .u64 txn, .int .i64 next, .slice a1 n1 k1, .slice a2 n2 k2, .slice a3 n3 k3, .slice a4 n4 k4] 64)))
              have hn4 : n4 ≤ 59 := by have h1 := HRD.out.here.n4; have h2 := HIL.out; have h3 : Q.ids.length = n4 := h1; omega
              have HNX : Hid (Q.next = next) := kept HRD.out.here.next
              generalize (w2.alloc (.cells #[.int .i64 4, .int .u64 txn, .int .i64 next, .slice a1 n1 k1, .slice a2 n2 k2, .slice a3 n3 k3, .slice a4 n4 k4] 64)) = W3 at HX3 HB3 HS3 ⊢
              have HT3 := kept (HTW.out.on HB3.out)
              have hm1 : n + 1 ≤ 1000000 := by omega
              have hm2 : m + n4 ≤ 1000000 := by omega
              have HXW : Hid (∀ W : World, Below W3.heap.size W3 W → W.cell? ⟨w2.heap.size, 6, none⟩ = some (.slice a4 n4 k4)) := kept (fun W hb => (HX3.out.below hb HX3.out.lt).cell 6)
              clear HRD HB2
              refine wp_region_held_drew (S := (fun W' => W'.cell? ⟨w2.heap.size, 6, none⟩ = some (.slice a4 n4 k4))) (by kernel_rfl) ?_ (fun hHeld => ?_)
              · ((try dsimp only); (first | with_reducible exact HXW.out _ (Below.refl _ _).drew | with_reducible exact HXW.out _ (below_ad _ _) | with_reducible exact HX4.out | with_reducible exact HX7.out.2))
              refine hand_take 0 (some 33) ?_ (by kernel_rfl) (by kernel_rfl) (by kernel_rfl) (by kernel_rfl) (by kernel_rfl) (fun _ _ _ h => h) ?_ (by assumption) ?_
              rotate_left
              · (intro o ho w hSw; (simp only [List.getElem?_toArray, List.getElem?_cons_succ, List.getElem?_cons_zero, Option.some.injEq] at ho); subst ho; (try dsimp only at hSw); go_simp; (first | done | with_reducible rfl))
              (try simp only [Act.put, List.setIfInBounds_toArray, List.set_cons_zero, List.set_cons_succ])
              refine hand_take 1 (some 34) ?_ (by kernel_rfl) (by kernel_rfl) (by kernel_rfl) (by kernel_rfl) (by kernel_rfl) (fun _ _ _ h => h) ?_ (by assumption) ?_
              rotate_left
              · (intro o ho w hSw; (simp only [List.getElem?_toArray, List.getElem?_cons_succ, List.getElem?_cons_zero, Option.some.injEq] at ho); subst ho; (try dsimp only at hSw); go_simp; (first | done | with_reducible rfl))
              (try simp only [Act.put, List.setIfInBounds_toArray, List.set_cons_zero, List.set_cons_succ])
              refine hand_take 4 (some 37) ?_ (by kernel_rfl) (by kernel_rfl) (by kernel_rfl) (by kernel_rfl) (by kernel_rfl) (fun _ _ _ h => h) ?_ (by assumption) ?_
              rotate_left
              · (intro o ho w hSw; (simp only [List.getElem?_toArray, List.getElem?_cons_succ, List.getElem?_cons_zero, Option.some.injEq] at ho); subst ho; (try dsimp only at hSw); go_simp; (first | done | with_reducible rfl))
              (try simp only [Act.put, List.setIfInBounds_toArray, List.set_cons_zero, List.set_cons_succ])
              refine hand_take 5 (some 38) ?_ (by kernel_rfl) (by kernel_rfl) (by kernel_rfl) (by kernel_rfl) (by kernel_rfl) (fun _ _ _ h => h) ?_ (by assumption) ?_
              rotate_left
              · (intro o ho w hSw; (simp only [List.getElem?_toArray, List.getElem?_cons_succ, List.getElem?_cons_zero, Option.some.injEq] at ho); subst ho; (try dsimp only at hSw); go_simp; (first | done | with_reducible rfl))
              (try simp only [Act.put, List.setIfInBounds_toArray, List.set_cons_zero, List.set_cons_succ])
              refine hand_take 6 (some 39) ?_ (by kernel_rfl) (by kernel_rfl) (by kernel_rfl) (by kernel_rfl) (by kernel_rfl) (fun _ _ _ h => h) ?_ (by assumption) ?_
              rotate_left
              · (intro o ho w hSw; (simp only [List.getElem?_toArray, List.getElem?_cons_succ, List.getElem?_cons_zero, Option.some.injEq] at ho); subst ho; (try dsimp only at hSw); go_simp; (first | done | with_reducible rfl))
              (try simp only [Act.put, List.setIfInBounds_toArray, List.set_cons_zero, List.set_cons_succ])
              refine hand_ready 2 (by kernel_rfl) (by kernel_rfl) (fun o ho K hK => ?_)
              (simp only [List.getElem?_toArray, List.getElem?_cons_succ, List.getElem?_cons_zero, Option.some.injEq] at ho)
              subst ho
              go_simp
              refine hK.out _ _ ?_ (fun hHeld => ?_)
              · ((try dsimp only); (first | with_reducible exact HXW.out _ (Below.refl _ _).drew | with_reducible exact HXW.out _ (below_ad _ _) | with_reducible exact HX4.out | with_reducible exact HX7.out.2))
              clear hK K
              (try simp only [Act.put, List.setIfInBounds_toArray, List.set_cons_zero, List.set_cons_succ])
              refine hand_ready 3 (by kernel_rfl) (by kernel_rfl) (fun o ho K hK => ?_)
              (simp only [List.getElem?_toArray, List.getElem?_cons_succ, List.getElem?_cons_zero, Option.some.injEq] at ho)
              subst ho
              (refine wp_append_i (.tmp 33) (.tmp 35) rfl rfl rfl ((HT3.out.on (below_ad _ _)).ca) ((RdI.oneI W3 a).below (Below.refl _ _).drew) hm1 ?_; intro A4 c4 w4 h4 t4 g4; have HT4 := kept ((HT3.out.on (below_ad W3 _)).growA h4 t4 g4); have HS4 := kept ((HS3.out.belowS HPOS.out (below_ad W3 _)).turnedA HPOS.out t4 (fun g hg => HTW.out.ca.lt hg)); have HB4 := kept ((HX3.out.below (below_ad W3 (.cells #[.int .i64 a] 3)) HX3.out.lt).turnI t4 (fun g hg => ((HT3.out.on (below_ad W3 _)).ca.cl hg))); have HX4 : Hid (w4.cell? ⟨w2.heap.size, 6, none⟩ = some (.slice a4 n4 k4)) := kept (HB4.out.cell 6); clear h4 t4 g4)
              refine hK.out _ _ ?_ (fun hHeld => ?_)
              · ((try dsimp only); (first | with_reducible exact HXW.out _ (Below.refl _ _).drew | with_reducible exact HXW.out _ (below_ad _ _) | with_reducible exact HX4.out | with_reducible exact HX7.out.2))
              clear hK K
              (try simp only [Act.put, List.setIfInBounds_toArray, List.set_cons_zero, List.set_cons_succ])
              refine hand_ready 7 (by kernel_rfl) (by kernel_rfl) (fun o ho K hK => ?_)
              (simp only [List.getElem?_toArray, List.getElem?_cons_succ, List.getElem?_cons_zero, Option.some.injEq] at ho)
              subst ho
              (refine wp_append_i (.tmp 37) (.tmp 39) rfl rfl rfl HT4.out.ib HS4.out.here.ri hm2 ?_; intro B7 d7 w7 h7 t7 g7; have HT7 := kept (HT4.out.growB h7 t7 g7); have HB7 := kept (HB4.out.turnI t7 (fun g hg => HT4.out.ib.cl hg)); have HX7 : Hid (w7.cell? ⟨w2.heap.size, 2, none⟩ = some (.int .i64 next) ∧ w7.cell? ⟨w2.heap.size, 6, none⟩ = some (.slice a4 n4 k4)) := kept ⟨HB7.out.cell 2, HB7.out.cell 6⟩; clear h7 t7 g7)
              refine hK.out _ _ ?_ (fun hHeld => ?_)
              · ((try dsimp only); (first | with_reducible exact HXW.out _ (Below.refl _ _).drew | with_reducible exact HXW.out _ (below_ad _ _) | with_reducible exact HX4.out | with_reducible exact HX7.out.2))
              clear hK K
              (try simp only [Act.put, List.setIfInBounds_toArray, List.set_cons_zero, List.set_cons_succ])
              refine hand_take 8 (some 4) ?_ (by kernel_rfl) (by kernel_rfl) (by kernel_rfl) (by kernel_rfl) (by kernel_rfl) (fun _ _ _ h => h) ?_ (by assumption) ?_
              rotate_left
              · (intro o ho w hSw; (simp only [List.getElem?_toArray, List.getElem?_cons_succ, List.getElem?_cons_zero, Option.some.injEq] at ho); subst ho; (try dsimp only at hSw); go_simp; (first | done | with_reducible rfl))
              (try simp only [Act.put, List.setIfInBounds_toArray, List.set_cons_zero, List.set_cons_succ])
              refine hand_take 9 (some 5) ?_ (by kernel_rfl) (by kernel_rfl) (by kernel_rfl) (by kernel_rfl) (by kernel_rfl) (fun _ _ _ h => h) ?_ (by assumption) ?_
              rotate_left
              · (intro o ho w hSw; (simp only [List.getElem?_toArray, List.getElem?_cons_succ, List.getElem?_cons_zero, Option.some.injEq] at ho); subst ho; (try dsimp only at hSw); go_simp; (first | done | with_reducible rfl))
              (try simp only [Act.put, List.setIfInBounds_toArray, List.set_cons_zero, List.set_cons_succ])
              refine wpAnyH_done (by kernel_rfl) ?_ _
              have hx7 := HX7.out.1
              have HE7 : Hid (RcK S w R next A4 (n + 1) c4 B7 (m + n4) d7 w7) := kept ⟨C ++ [a], I ++ Q.ids, HT7.out, nodup_snoc.2 ⟨HND.out, HAC.out⟩, fun x hx => by
                  rcases List.mem_append.1 hx with hx | hx
                  · exact HCB.out x hx
                  · obtain rfl := List.mem_singleton.1 hx; exact HRG.out, by
                  have h1 := HTW.out.ib.1
                  have h2 := HN.out
                  have h3 := HIL.out
                  simp only [List.length_append, List.length_singleton]
                  omega, by
                  have h1 : 1100 - (C ++ [a]).length = q := by have := HN.out; simp only [List.length_append, List.length_singleton]; omega
                  rw [h1, ← HNX.out]
                  exact HE.out⟩
              go_wp2
              go_roundw
              case rel => exact ⟨next, A4, n + 1, c4, B7, m + n4, d7, rfl, rfl, rfl, HE7⟩
              case measure => simp [lenS]; omega
            · have HE : Hid (R = (4, [], [])) := kept (by
                have := HRC2.out
                rw [if_neg (by simp), if_pos hk4] at this
                exact this.symm)
              have HK4 := kept hk4
              clear HRC2 hk4
              go_wp2_with (first | (go_at_call 52; (with_reducible refine HSZ1.out.mono ?_); rintro e w1 ⟨rfl, rfl⟩) | (go_at_call 86; (with_reducible refine (HIB _).out.mono ?_); rintro e w1 ⟨rfl, rfl⟩) | (go_at_call 47; (with_reducible refine HCT.out.mono ?_); rintro e w1 ⟨rfl, rfl⟩) | (go_at_call 78; (with_reducible refine HR1.out.mono ?_); rintro e w2 ⟨l, rfl, hs, hb2⟩; obtain ⟨kind, txn, next, a1, n1, k1, a2, n2, k2, a3, n3, k3, a4, n4, k4⟩ := l; have HB2 := kept hb2; have hkd : (kind != 4) = true := (by have h1 : Q.kind = kind := hs.out.here.kind; have h2 := HK4.out; rw [h1] at h2; simpa using h2); clear hs hb2))
              go_returns
              rw [HE.out]
              exact ⟨none, 0, 0, none, 0, 0, rfl, kept (two_nil (HTW.out.below.trans ((HB2.out.alloc HB2.out.size _).mono HTW.out.below.size)))⟩
          · have HE : Hid (R = (er, [], [])) := kept (by
              have := HRC2.out
              rw [if_pos he] at this
              exact this.symm)
            have heb : (er != 0) = true := by simpa using he
            clear HRC2 he
            go_wp2_with (first | (go_at_call 52; (with_reducible refine HSZ1.out.mono ?_); rintro e w1 ⟨rfl, rfl⟩) | (go_at_call 86; (with_reducible refine (HIB _).out.mono ?_); rintro e w1 ⟨rfl, rfl⟩) | (go_at_call 47; (with_reducible refine HCT.out.mono ?_); rintro e w1 ⟨rfl, rfl⟩) | (go_at_call 78; (with_reducible refine HR1.out.mono ?_); rintro e w2 ⟨l, rfl, hs, hb2⟩; obtain ⟨kind, txn, next, a1, n1, k1, a2, n2, k2, a3, n3, k3, a4, n4, k4⟩ := l; have HB2 := kept hb2; clear hs hb2))
            go_returns
            rw [HE.out]
            exact ⟨none, 0, 0, none, 0, 0, rfl, kept (two_nil (HTW.out.below.trans ((HB2.out.alloc HB2.out.size _).mono HTW.out.below.size)))⟩
end Go.Proofs.YtdjcahhofonclaaGreatDoor
end

section
/-
  package pager: settle.
-/
namespace Go.Proofs.YtdjcahhofonclaaGreatDoor
open Go.ChangeShapes Go.WideShapes Go.ChangeAt Go.RowKit
set_option linter.unusedVariables false
set_option linter.unusedSimpArgs false

def giveAll (s : FSt) (C : List Int) : FSt := C.foldl (fun s x => s.give x) s
theorem giveAll_take (s : FSt) (C : List Int) (k : Nat) (h : k < C.length) : giveAll s (C.take (k + 1)) = (giveAll s (C.take k)).give C[k] := by
  rw [List.take_succ_eq_append_getElem h, giveAll, List.foldl_append]
  rfl
/-- A list of the call's own. -/
def ListOf (a w : World) (r : Nat) (s : FSt) (A : Option Addr) : Prop := ∃ f : Fl, f.r = r ∧ Lst w f s ∧ (∀ j, f.own j → a.heap.size ≤ j) ∧ ∀ g, blkOf A = some g → ¬ f.own g
/-- A slice of numbers of the call's own beside such a list. -/
structure Beside (a w : World) (r : Nat) (s : FSt) (A : Option Addr) (n c : Nat) (Z : List Int) : Prop where
  own : OwI w A n c Z
  new : ∀ g, blkOf A = some g → a.heap.size ≤ g
  lst : ListOf a w r s A
  below : Below a.heap.size a w
theorem Beside.step {a w : World} {r : Nat} {s : FSt} {A : Option Addr} {n c : Nat} {Z : List Int} (h : Beside a w r s A n c Z) : ∃ f : Fl, f.r = r ∧ Lst w f s ∧ ∀ w' s', LLeft w w' f s' → Beside a w' r s' A n c Z := by
  obtain ⟨f, e0, hl, hn, ha⟩ := h.lst
  refine ⟨f, e0, hl, fun w' s' k => ?_⟩
  obtain ⟨f', e, hl', t, ho⟩ := k
  refine ⟨h.own.turned t ha, h.new, ⟨f', e.trans e0, hl', fun j hj => ?_, fun g hg hf => ?_⟩, t.only_new h.below h.below.size hn⟩
  · rcases ho j hj with h5 | h5
    · exact hn j h5
    · exact Nat.le_trans h.below.size h5
  · rcases ho g hf with h5 | h5
    · exact ha g hg h5
    · have := h.own.lt hg; omega
theorem Beside.take_ {a w : World} {r : Nat} {s : FSt} {A : Option Addr} {n c : Nat} {Z : List Int} (h : Beside a w r s A n c Z) : Calls Tryz.prog 60 #[.pointer (some ⟨r, 0, none⟩)] w fun e w' => e = .returned (.tuple #[.int .i64 s.taken.1, .int .i64 s.taken.2]) ∧ Hid (Beside a w' r s.take A n c Z) := by
  obtain ⟨f, rfl, hl, hk⟩ := h.step
  exact (ftake_any f s w hl).mono fun e w' ⟨h1, h2⟩ => ⟨h1, kept (hk _ _ h2.out)⟩
theorem Beside.settle_ {a w : World} {r : Nat} {s : FSt} {A : Option Addr} {n c : Nat} {Z : List Int} (h : Beside a w r s A n c Z) : Calls Tryz.prog 81 #[.pointer (some ⟨r, 0, none⟩)] w fun e w' => e = .returned (.tuple #[]) ∧ Hid (Beside a w' r s.settle A n c Z) := by
  obtain ⟨f, rfl, hl, hk⟩ := h.step
  exact (settle_any f s w hl).mono fun e w' ⟨h1, h2⟩ => ⟨h1, kept (hk _ _ h2.out)⟩
theorem Beside.give_ {a w : World} {r : Nat} {s : FSt} {A : Option Addr} {n c : Nat} {Z : List Int} (h : Beside a w r s A n c Z) (x : Int) : Calls Tryz.prog 48 #[.pointer (some ⟨r, 0, none⟩), .int .i64 x] w fun e w' => e = .returned (.int .i64 (s.may x)) ∧ Hid (Beside a w' r (s.give x) A n c Z) := by
  obtain ⟨f, rfl, hl, hk⟩ := h.step
  exact (give_any f s x w hl).mono fun e w' ⟨h1, h2⟩ => ⟨h1, kept (hk _ _ h2.out)⟩
theorem Beside.grow {a w w' : World} {r : Nat} {s : FSt} {A A' : Option Addr} {n c n' c' : Nat} {Z Z' : List Int} (h : Beside a w r s A n c Z) (ho : OwI w' A' n' c' Z') (t : Turned w w' (fun j => blkOf A = some j)) (hg : ∀ g, blkOf A' = some g → blkOf A = some g ∨ w.heap.size ≤ g) : Beside a w' r s A' n' c' Z' := by
  obtain ⟨f, rfl, hl, hn, ha⟩ := h.lst
  refine ⟨ho, fun g e => ?_, ⟨f, rfl, hl.turned t fun j hj e => ha j e hj, hn, fun g e hf => ?_⟩, t.only_new h.below h.below.size (fun i hi => h.new i hi)⟩
  · rcases hg g e with h5 | h5
    · exact h.new g h5
    · exact Nat.le_trans h.below.size h5
  · rcases hg g e with h5 | h5
    · exact ha g h5 hf
    · have := hl.lt hf; omega
theorem Beside.alloc {a w : World} {r : Nat} {s : FSt} {A : Option Addr} {n c : Nat} {Z : List Int} (h : Beside a w r s A n c Z) (o : Obj) : Beside a (w.alloc o) r s A n c Z := by
  obtain ⟨f, rfl, hl, hn, ha⟩ := h.lst
  have hb := (Below.refl w.heap.size w).alloc (Nat.le_refl _) o
  exact ⟨h.own.below hb, h.new, ⟨f, rfl, hl.below hb, hn, ha⟩, h.below.trans (hb.mono h.below.size)⟩
theorem RdI.one7 (w : World) (x : Int) : RdI (w.alloc (.cells #[.int .i64 x] 3)) (some ⟨w.heap.size, 0, none⟩) 1 [x] :=
  ⟨rfl, fun _ => ⟨_, 0, rfl, fun j hj => by
    obtain rfl : j = 0 := by simpa using hj
    exact (Blk.new w 3 #[.int .i64 x]).cell 0⟩⟩
def settleL (P : PSt) : FSt := giveAll (FSt.settle { P.L with S := P.L.S.drop (needN (P.L.S.length + P.L.H.length + P.chain.length)) }) P.chain
def settleC (P : PSt) : List Int := P.L.S.take (needN (P.L.S.length + P.L.H.length + P.chain.length))
theorem chain_short {w : World} {p : Pgl} {P : PSt} {S : St} (h : Pgr w p P S) : P.chain.length ≤ 1022 := by
  have hp : (P.chain.mergeSort (fun x y => decide (x ≤ y))).Perm P.chain := List.mergeSort_perm _ _
  rw [← hp.length_eq]
  refine rising_le (sorted_rising h.ok.cn) fun x hx => ?_
  have h2 := h.ok.cb x (hp.mem_iff.1 hx)
  have h3 := h.dsk.1.2.1
  omega
set_option maxRecDepth 100000 in
set_option maxHeartbeats 4000000 in
theorem settle_ok {w : World} {p : Pgl} {P : PSt} {S : St} (h : Pgr w p P S) (K : Nat) (hK : needN (P.L.S.length + P.L.H.length + P.chain.length) = K) (hKS : K ≤ P.L.S.length) :
    Calls Tryz.prog 38 #[.pointer (some ⟨p.r, 0, none⟩)] w fun e w' => ∃ (A : Option Addr) (c r : Nat), e = .returned (.tuple #[.slice A K c, .pointer (some ⟨r, 0, none⟩), .int .i64 0]) ∧ Hid (Beside w w' r (settleL P) A K c (settleC P)) := by
  have H := kept h
  have hch := chain_short h
  have hsh := h.lst.1.short
  have e8 : w.cell? ⟨p.r, 8, none⟩ = some (.pointer (some ⟨p.f.r, 0, none⟩)) := h.c 8
  have HCP := kept (copy_any_f p.f P.L w h.lst)
  have HSC : Hid (settleC P = P.L.S.take K) := kept (by unfold settleC; rw [hK])
  have HSL : Hid (settleL P = giveAll (FSt.settle { P.L with S := P.L.S.drop K }) P.chain) := kept (by unfold settleL; rw [hK])
  rw [HSC.out, HSL.out]
  clear HSC HSL
  obtain ⟨nS, hnS⟩ : ∃ n, P.L.S.length = n := ⟨_, rfl⟩
  obtain ⟨nH, hnH⟩ : ∃ n, P.L.H.length = n := ⟨_, rfl⟩
  obtain ⟨nC, hnC⟩ : ∃ n, P.chain.length = n := ⟨_, rfl⟩
  rw [hnS, hnH, hnC] at hK
  rw [hnS] at hKS hsh
  rw [hnH] at hsh
  rw [hnC] at hch
  have HNS := kept hnS
  have HNH := kept hnH
  have HNC := kept hnC
  obtain ⟨q, hq⟩ : ∃ q : Nat, nS + nH + nC = q := ⟨_, rfl⟩
  rw [hq] at hK
  have HCL := fun W => kept (chainLength_any q W (by omega))
  rw [hK] at HCL
  have ha1 : IntKind.i64.wrap ((nS : Int) + (nH : Int)) = (nS : Int) + (nH : Int) := by simp [IntKind.wrap_i64]; omega
  have ha2 : IntKind.i64.wrap ((nS : Int) + (nH : Int) + (nC : Int)) = (q : Int) := by simp [IntKind.wrap_i64]; omega
  clear hq
  clear h hnS hnH hnC hK
  go_enter Tryz.func38, Tryz.ntmps38
  go_wp2_with fail
  with_reducible refine HCP.out.mono ?_
  rintro e w1 ⟨f1, rfl, h1⟩
  have HP1 := kept (H.out.below h1.out.2.1)
  have e5 : w1.drew.cell? ⟨p.r, 5, none⟩ = some (.slice p.Ac nC p.cc) := by rw [← HNC.out]; exact HP1.out.c 5
  have HRM := kept (froom_any f1 P.L w1.drew (h1.out.1.below (Below.refl _ _).drew))
  have HHD := kept (held_any f1 P.L w1.drew (h1.out.1.below (Below.refl _ _).drew))
  rw [HNS.out] at HRM
  rw [HNH.out] at HHD
  go_wp2
  refine wp_region_held_drew (S := (fun W' => W'.cell? ⟨p.r, 5, none⟩ = some (.slice p.Ac nC p.cc))) (by kernel_rfl) ?_ (fun hHeld => ?_)
  · ((try dsimp only); (first | with_reducible exact e5 | with_reducible exact HE5.out))
  refine hand_take 0 (some 17) ?_ (by kernel_rfl) (by kernel_rfl) (by kernel_rfl) (by kernel_rfl) (by kernel_rfl) (fun _ _ _ h => h) ?_ (by assumption) ?_
  rotate_left
  · (intro o ho w hSw; (simp only [List.getElem?_toArray, List.getElem?_cons_succ, List.getElem?_cons_zero, Option.some.injEq] at ho); subst ho; (try dsimp only at hSw); go_simp; (first | done | with_reducible rfl))
  (try simp only [Act.put, List.setIfInBounds_toArray, List.set_cons_zero, List.set_cons_succ])
  refine hand_take 2 (some 19) ?_ (by kernel_rfl) (by kernel_rfl) (by kernel_rfl) (by kernel_rfl) (by kernel_rfl) (fun _ _ _ h => h) ?_ (by assumption) ?_
  rotate_left
  · (intro o ho w hSw; (simp only [List.getElem?_toArray, List.getElem?_cons_succ, List.getElem?_cons_zero, Option.some.injEq] at ho); subst ho; (try dsimp only at hSw); go_simp; (first | done | with_reducible rfl))
  (try simp only [Act.put, List.setIfInBounds_toArray, List.set_cons_zero, List.set_cons_succ])
  refine hand_take 6 (some 23) ?_ (by kernel_rfl) (by kernel_rfl) (by kernel_rfl) (by kernel_rfl) (by kernel_rfl) (fun _ _ _ h => h) ?_ (by assumption) ?_
  rotate_left
  · (intro o ho w hSw; (simp only [List.getElem?_toArray, List.getElem?_cons_succ, List.getElem?_cons_zero, Option.some.injEq] at ho); subst ho; (try dsimp only at hSw); go_simp; (first | done | with_reducible rfl))
  (try simp only [Act.put, List.setIfInBounds_toArray, List.set_cons_zero, List.set_cons_succ])
  refine hand_take 7 (some 24) ?_ (by kernel_rfl) (by kernel_rfl) (by kernel_rfl) (by kernel_rfl) (by kernel_rfl) (fun _ _ _ h => h) ?_ (by assumption) ?_
  rotate_left
  · (intro o ho w hSw; (simp only [List.getElem?_toArray, List.getElem?_cons_succ, List.getElem?_cons_zero, Option.some.injEq] at ho); subst ho; (try dsimp only at hSw); go_simp; (first | done | with_reducible rfl))
  (try simp only [Act.put, List.setIfInBounds_toArray, List.set_cons_zero, List.set_cons_succ])
  refine hand_take 8 (some 25) ?_ (by kernel_rfl) (by kernel_rfl) (by kernel_rfl) (by kernel_rfl) (by kernel_rfl) (fun _ _ _ h => h) ?_ (by assumption) ?_
  rotate_left
  · (intro o ho w hSw; (simp only [List.getElem?_toArray, List.getElem?_cons_succ, List.getElem?_cons_zero, Option.some.injEq] at ho); subst ho; (try dsimp only at hSw); go_simp; (first | done | with_reducible rfl))
  (try simp only [Act.put, List.setIfInBounds_toArray, List.set_cons_zero, List.set_cons_succ])
  refine hand_take 9 (some 26) ?_ (by kernel_rfl) (by kernel_rfl) (by kernel_rfl) (by kernel_rfl) (by kernel_rfl) (fun _ _ _ h => h) ?_ (by assumption) ?_
  rotate_left
  · (intro o ho w hSw; (simp only [List.getElem?_toArray, List.getElem?_cons_succ, List.getElem?_cons_zero, Option.some.injEq] at ho); subst ho; (try dsimp only at hSw); go_simp; (first | done | with_reducible rfl))
  (try simp only [Act.put, List.setIfInBounds_toArray, List.set_cons_zero, List.set_cons_succ])
  refine hand_take 10 (some 27) ?_ (by kernel_rfl) (by kernel_rfl) (by kernel_rfl) (by kernel_rfl) (by kernel_rfl) (fun _ _ _ h => h) ?_ (by assumption) ?_
  rotate_left
  · (intro o ho w hSw; (simp only [List.getElem?_toArray, List.getElem?_cons_succ, List.getElem?_cons_zero, Option.some.injEq] at ho); subst ho; (try dsimp only at hSw); go_simp; (first | done | with_reducible rfl))
  (try simp only [Act.put, List.setIfInBounds_toArray, List.set_cons_zero, List.set_cons_succ])
  refine hand_take 13 (some 30) ?_ (by kernel_rfl) (by kernel_rfl) (by kernel_rfl) (by kernel_rfl) (by kernel_rfl) (fun _ _ _ h => h) ?_ (by assumption) ?_
  rotate_left
  · (intro o ho w hSw; (simp only [List.getElem?_toArray, List.getElem?_cons_succ, List.getElem?_cons_zero, Option.some.injEq] at ho); subst ho; (try dsimp only at hSw); go_simp; (first | done | with_reducible rfl))
  (try simp only [Act.put, List.setIfInBounds_toArray, List.set_cons_zero, List.set_cons_succ])
  refine hand_ready 1 (by kernel_rfl) (by kernel_rfl) (fun o ho K hK => ?_)
  (simp only [List.getElem?_toArray, List.getElem?_cons_succ, List.getElem?_cons_zero, Option.some.injEq] at ho)
  subst ho
  go_simp
  ((go_at_call 58; (with_reducible refine HRM.out.mono ?_); rintro e w2 ⟨rfl, rfl⟩))
  (try go_wp2_with fail)
  refine hK.out _ _ ?_ (fun hHeld => ?_)
  · ((try dsimp only); (first | with_reducible exact e5 | with_reducible exact HE5.out))
  clear hK K
  (try simp only [Act.put, List.setIfInBounds_toArray, List.set_cons_zero, List.set_cons_succ])
  refine hand_ready 3 (by kernel_rfl) (by kernel_rfl) (fun o ho K hK => ?_)
  (simp only [List.getElem?_toArray, List.getElem?_cons_succ, List.getElem?_cons_zero, Option.some.injEq] at ho)
  subst ho
  go_simp
  ((go_at_call 80; (with_reducible refine HHD.out.mono ?_); rintro e w2 ⟨A2, c2, rfl, h2⟩); have HE5 : Hid (w2.cell? ⟨p.r, 5, none⟩ = some (.slice p.Ac nC p.cc)) := kept (cell_below h2.out.2.1 e5))
  (try go_wp2_with fail)
  refine hK.out _ _ ?_ (fun hHeld => ?_)
  · ((try dsimp only); (first | with_reducible exact e5 | with_reducible exact HE5.out))
  clear hK K
  (try simp only [Act.put, List.setIfInBounds_toArray, List.set_cons_zero, List.set_cons_succ])
  refine hand_take 4 (some 21) ?_ (by kernel_rfl) (by kernel_rfl) (by kernel_rfl) (by kernel_rfl) (by kernel_rfl) (fun _ _ _ h => h) ?_ (by assumption) ?_
  rotate_left
  · (intro o ho w hSw; (simp only [List.getElem?_toArray, List.getElem?_cons_succ, List.getElem?_cons_zero, Option.some.injEq] at ho); subst ho; (try dsimp only at hSw); go_simp; (first | done | with_reducible rfl))
  (try simp only [Act.put, List.setIfInBounds_toArray, List.set_cons_zero, List.set_cons_succ])
  refine hand_take 5 (some 22) ?_ (by kernel_rfl) (by kernel_rfl) (by kernel_rfl) (by kernel_rfl) (by kernel_rfl) (fun _ _ _ h => h) ?_ (by assumption) ?_
  rotate_left
  · (intro o ho w hSw; (simp only [List.getElem?_toArray, List.getElem?_cons_succ, List.getElem?_cons_zero, Option.some.injEq] at ho); subst ho; (try dsimp only at hSw); go_simp; (first | done | with_reducible rfl))
  (try simp only [Act.put, List.setIfInBounds_toArray, List.set_cons_zero, List.set_cons_succ])
  refine hand_take 11 (some 28) ?_ (by kernel_rfl) (by kernel_rfl) (by kernel_rfl) (by kernel_rfl) (by kernel_rfl) (fun _ _ _ h => h) ?_ (by assumption) ?_
  rotate_left
  · (intro o ho w hSw; (simp only [List.getElem?_toArray, List.getElem?_cons_succ, List.getElem?_cons_zero, Option.some.injEq] at ho); subst ho; (try dsimp only at hSw); go_simp; (first | done | with_reducible rfl))
  (try simp only [Act.put, List.setIfInBounds_toArray, List.set_cons_zero, List.set_cons_succ])
  refine hand_ready 12 (by kernel_rfl) (by kernel_rfl) (fun o ho K hK => ?_)
  (simp only [List.getElem?_toArray, List.getElem?_cons_succ, List.getElem?_cons_zero, Option.some.injEq] at ho)
  subst ho
  go_simp
  ((go_at_call 61; (with_reducible refine (HCL _).out.mono ?_); rintro e w3 ⟨rfl, rfl⟩))
  (try go_wp2_with fail)
  refine hK.out _ _ ?_ (fun hHeld => ?_)
  · ((try dsimp only); (first | with_reducible exact e5 | with_reducible exact HE5.out))
  clear hK K
  (try simp only [Act.put, List.setIfInBounds_toArray, List.set_cons_zero, List.set_cons_succ])
  refine wpAnyH_done (by kernel_rfl) ?_ _
  have HB2 : Hid (Below w.heap.size w w2) := kept (h1.out.2.1.trans ((below_from_drew h2.out.2.1).mono h1.out.2.1.size))
  have H0 : Hid (Beside w w2 f1.r { P.L with S := P.L.S.drop 0 } none 0 0 (P.L.S.take 0)) := kept ⟨OwI.nil_ _, fun g e => (by cases e), ⟨f1, rfl, (h1.out.1.below (below_from_drew h2.out.2.1)), h1.out.2.2, fun g e => (by cases e)⟩, HB2.out⟩
  have HCH := kept (fun (W : World) (hb : Below w.heap.size w W) => (H.out.below hb).chn)
  have HC5 := kept (fun (W : World) (hb : Below w.heap.size w W) => ((H.out.below hb).c 5 : W.cell? ⟨p.r, 5, none⟩ = some (.slice p.Ac P.chain.length p.cc)))
  clear h1 h2 HP1 HRM HHD e5 e8 HCP HCL HB2
  go_wp2
  go_loopw [6, 30] (fun ch i wr => ∃ (k : Nat) (A : Option Addr) (c : Nat), k ≤ K ∧ i = .int .i64 (k : Int) ∧ ch = .slice A k c ∧ Hid (Beside w wr f1.r { P.L with S := P.L.S.drop k } A k c (P.L.S.take k))) (fun _ i _ => K - (intOf i).toNat)
  case atStart => exact ⟨0, none, 0, Nat.zero_le _, rfl, rfl, H0⟩
  case round =>
    obtain ⟨k, A, c, hk, rfl, rfl, HL⟩ := hrel
    clear H0
    by_cases hlt : k < K
    · have hkl : k < P.L.S.length := by rw [HNS.out]; omega
      obtain ⟨x, hx⟩ : ∃ x, P.L.S[k] = x := ⟨_, rfl⟩
      have hdr : P.L.S.drop k = x :: P.L.S.drop (k + 1) := by rw [← hx]; exact List.drop_eq_getElem_cons hkl
      have HTKK : Hid (P.L.S.take (k + 1) = P.L.S.take k ++ [x]) := kept (by rw [← hx]; exact List.take_succ_eq_append_getElem hkl)
      have HT := kept HL.out.take_
      have e1 : FSt.taken { P.L with S := P.L.S.drop k } = (x, 0) := by unfold FSt.taken; simp only [hdr]
      have e2 : FSt.take { P.L with S := P.L.S.drop k } = { P.L with S := P.L.S.drop (k + 1) } := by unfold FSt.take; simp only [hdr, List.tail_cons]
      rw [e1, e2] at HT
      clear e1 e2 hdr hx hkl
      have hkb : k + 1 ≤ 1000000 := by omega
      go_wp2_with (first | (go_at_call 60; (with_reducible refine (HT.out).mono ?_); rintro e w3 ⟨rfl, h3⟩) | (at_builtin; refine wpList_append_i rfl _ _ rfl rfl rfl (h3.out.alloc _).own (RdI.one7 w3 x) hkb ?_; intro A4 c4 w4 h4 t4 g4; have HE : Hid (Beside w w4 f1.r { P.L with S := P.L.S.drop (k + 1) } A4 (k + 1) c4 (P.L.S.take (k + 1))) := kept (by rw [HTKK.out]; exact (h3.out.alloc _).grow h4 t4 g4); clear h4 t4 g4))
      go_roundw
      case rel => exact ⟨k + 1, A4, c4, by omega, by go_num, rfl, HE⟩
      case measure => simp [intOf]; omega
    · obtain rfl : k = K := by omega
      have HST := kept HL.out.settle_
      have HPB := kept HL.out.below
      go_wp2_with (first | (go_at_call 81; (with_reducible refine (HST.out).mono ?_); rintro e w3 ⟨rfl, h3⟩; have e5 : w3.cell? ⟨p.r, 5, none⟩ = some (.slice p.Ac nC p.cc) := (by rw [← HNC.out]; exact HC5.out w3 h3.out.below)))
      have HB0 : Hid (Beside w w3 f1.r (giveAll (FSt.settle { P.L with S := P.L.S.drop k }) (P.chain.take 0)) A k c (P.L.S.take k)) := kept h3.out
      clear h3 e5
      go_loopw [52] (fun i wr => ∃ (j : Nat), j ≤ nC ∧ i = .int .i64 (j : Int) ∧ Hid (Beside w wr f1.r (giveAll (FSt.settle { P.L with S := P.L.S.drop k }) (P.chain.take j)) A k c (P.L.S.take k))) (fun i _ => nC - (intOf i).toNat)
      case atStart => exact ⟨0, Nat.zero_le _, rfl, HB0⟩
      case round =>
        obtain ⟨j, hj, rfl, HG⟩ := hrel
        rename World => wx
        clear HB0
        by_cases hlt2 : j < nC
        · have hjl : j < P.chain.length := by rw [HNC.out]; exact hlt2
          have HCI := (HCH.out wx HG.out.below).reads
          rw [HNC.out] at HCI
          obtain ⟨b, o, hA, hc⟩ := HCI.at_ hlt2
          have HGT := kept (giveAll_take (FSt.settle { P.L with S := P.L.S.drop k }) P.chain j hjl)
          generalize P.chain[j] = y at hc HGT
          rw [hA]
          have HGV := kept (HG.out.give_ y)
          clear hA HCI hjl
          go_wp2_with (first | (go_at_call 48; (with_reducible refine (HGV.out).mono ?_); rintro e w4 ⟨rfl, h4⟩))
          have HE : Hid (Beside w w4 f1.r (giveAll (FSt.settle { P.L with S := P.L.S.drop k }) (P.chain.take (j + 1))) A k c (P.L.S.take k)) := kept (by rw [HGT.out]; exact h4.out)
          clear h4 hc
          go_roundw
          case rel => exact ⟨j + 1, by omega, by go_num, HE⟩
          case measure => simp [intOf]; omega
        · obtain rfl : j = nC := by omega
          have HE : Hid (Beside w wx f1.r (giveAll (FSt.settle { P.L with S := P.L.S.drop k }) P.chain) A k c (P.L.S.take k)) := kept (by
            have := HG.out
            rwa [List.take_of_length_le (by rw [HNC.out]; exact Nat.le_refl _)] at this)
          go_wp2
          go_returns
          exact ⟨A, c, f1.r, rfl, HE⟩
end Go.Proofs.YtdjcahhofonclaaGreatDoor
end

section
/-
  package pager: layAdded and store.
-/
namespace Go.Proofs.YtdjcahhofonclaaGreatDoor
open Go.ChangeShapes Go.WideShapes Go.ChangeAt Go.RowKit
set_option linter.unusedVariables false
set_option linter.unusedSimpArgs false

theorem SaySh.back {a w w' : World} {A : Option Addr} {n c : Nat} {l : List Sheet} (h : SaySh w w' A n c l) (hb : Below a.heap.size a w) : SaySh a w' A n c l := ⟨h.1, hb.trans (h.2.1.mono hb.size), fun g e => Nat.le_trans hb.size (h.2.2 g e)⟩
theorem adSh_length (add : Adds) : (adSh add).length = (keysL add).length := by simp [adSh]
theorem adSh_get (add : Adds) (k : Nat) (h : k < (keysL add).length) : (adSh add)[k]? = some ((keysL add)[k], (add (keysL add)[k]).getD []) := by simp [adSh, h]
set_option maxRecDepth 100000 in
set_option maxHeartbeats 2000000 in
theorem layAdded_any {w : World} {p : Pgl} {P : PSt} {S : St} (h : Pgr w p P S) :
    Calls Tryz.prog 42 #[.pointer (some ⟨p.r, 0, none⟩)] w fun e w' => ∃ (A : Option Addr) (n c : Nat), e = .returned (.slice A n c) ∧ n ≤ 1022 ∧ Hid (SaySh w w' A n c (adSh P.add)) := by
  have H := kept h
  have e9 : w.cell? ⟨p.r, 9, none⟩ = some (.map (some p.m)) := h.c 9
  have HK := kept (keysM_any (some p.m) w)
  have HS := kept (sortedK_any p.m p.V P.add w h.adm)
  have H0 := kept (SaySh.nil_ w)
  clear h
  go_enter Tryz.func42, Tryz.ntmps42
  go_wp2_with (first | (go_at_call 84; (with_reducible refine (HK.out).mono ?_); rintro e w1 ⟨rfl, rfl⟩) | (go_at_call 83; (with_reducible refine (HS.out).mono ?_); rintro e w2 ⟨A2, n, c2, rfl, h2⟩))
  have HRD := kept h2.out.1
  have HN := kept h2.out.1.1
  have hn := h2.out.2.1
  have HB2 := kept h2.out.2.2
  have HS0 : Hid (SaySh w2 w2 none 0 0 ((adSh P.add).take 0)) := kept (SaySh.nil_ w2)
  have HP := kept (fun (W : World) (hb : Below w.heap.size w W) => H.out.below hb)
  clear h2 HK HS H0 e9
  go_loopw [3, 14] (fun out i wr => ∃ (k : Nat) (A : Option Addr) (c : Nat), k ≤ n ∧ i = .int .i64 (k : Int) ∧ out = .slice A k c ∧ Hid (SaySh w2 wr A k c ((adSh P.add).take k))) (fun _ i _ => n - (intOf i).toNat)
  case atStart => exact ⟨0, none, 0, Nat.zero_le _, rfl, rfl, HS0⟩
  case round =>
    obtain ⟨k, A, c, hk, rfl, rfl, HL⟩ := hrel
    clear HS0
    by_cases hlt : k < n
    · have HPW := kept (HP.out wr (HB2.out.trans (HL.out.2.1.mono HB2.out.size)))
      have hkl : k < (keysL P.add).length := by rw [HN.out]; exact hlt
      obtain ⟨b, o, hA2, hc⟩ := (HRD.out.below HL.out.2.1).at_ hlt
      obtain ⟨x, hx⟩ : ∃ x, (keysL P.add)[k] = x := ⟨_, rfl⟩
      have hmem : (P.add x).isSome = true := by
        have h1 := (mem_keysL (fun x => H.out.adm.2.range) x).1 (by rw [← hx]; exact List.getElem_mem hkl)
        exact h1
      obtain ⟨bs, hbs⟩ := Option.isSome_iff_exists.1 hmem
      have HTK : Hid ((adSh P.add).take (k + 1) = (adSh P.add).take k ++ [(x, bs)]) := kept (by
        have := adSh_get P.add k hkl
        rw [hx, hbs] at this
        rw [List.take_add_one, this]
        rfl)
      rw [hx] at hc
      obtain ⟨B, cB, hV, hB, hx2⟩ : ∃ B cB, p.V x = some (.slice B 256 cB) ∧ OwB wr B 256 cB bs ∧ 2 ≤ x ∧ x < 1024 := by
        rcases HPW.out.adm.2 x with ⟨h0, _⟩ | ⟨bs', A', c', h1, h2, h3, h4⟩
        · rw [hbs] at h0; cases h0
        · rw [hbs] at h1; cases h1; exact ⟨A', c', h2, h3, h4⟩
      have e9 : wr.cell? ⟨p.r, 9, none⟩ = some (.map (some p.m)) := HPW.out.c 9
      have hlk : (Instr.lookup 48 (.map (some p.m)) (.int .i64 x) false).run Tryz.prog wr = .ok (.slice B 256 cB) wr := by
        rw [HPW.out.adm.1.look1 addU (addZ wr) (show Wf x from ⟨by omega, by omega⟩), hV]
        rfl
      have HO := kept (RdSh.one wr x B cB bs hB)
      have HBA := kept ((Below.refl _ wr).alloc (Nat.le_refl _) (.cells #[.int .i64 x, .slice B 256 cB] 94))
      rw [hA2]
      have hkm : k + 1 ≤ 1000000 := by omega
      clear hA2 hx hmem hbs hV hB hx2 hkl
      go_wp2_with (first | (at_builtin; refine wpList_append_sh rfl _ _ rfl rfl rfl (HL.out.1.below HBA.out) HO.out hkm ?_; intro A4 c4 w4 h4 t4 g4; have HE : Hid (SaySh w2 w4 A4 (k + 1) c4 ((adSh P.add).take (k + 1))) := kept (by rw [HTK.out]; exact HL.out.step HBA.out h4 t4 g4); clear h4 t4 g4))
      go_roundw
      case rel => exact ⟨k + 1, A4, c4, by omega, by go_num, rfl, HE⟩
      case measure => simp [intOf]; omega
    · obtain rfl : k = n := by omega
      have HE : Hid (SaySh w wr A k c (adSh P.add)) := kept (by
        have := HL.out
        rw [List.take_of_length_le (by rw [adSh_length, HN.out]; exact Nat.le_refl _)] at this
        exact this.back HB2.out)
      go_wp2
      go_ret
      exact ⟨A, k, c, rfl, hn, HE⟩
end Go.Proofs.YtdjcahhofonclaaGreatDoor
end
