/- Qu Qv Qim -/
import Derived.Test.YtblbhhijddcbeaaGreatDoorBQh
section
namespace Go.Proofs.YtblbhhijddcbeaaGreatDoor
open Go.ChangeShapes Go.WideShapes Go.ChangeAt Go.RowKit
set_option linter.unusedVariables false
set_option linter.unusedSimpArgs false
set_option maxRecDepth 100000
set_option maxHeartbeats 16000000
def inR (S : St) (y : Int) : Prop := 0 ≤ y ∧ y < (S.pages.length : Int)
theorem write_page (S : St) (p y : Int) (xs : List UInt8) : (S.write p xs).page y = if y = p then xs else S.page y := by
 unfold St.write St.count St.page; simp only; by_cases h : y = p <;> simp [h]
theorem laidAll_page {S : St} {new : Nat → List UInt8} {fu : Int} {dn : Nat} {y : Int} (h : inR S y) : (⟨S.laidAll new, fun _ => none, fu, dn⟩ : St).page y = if (S.cache y).isSome then new y.toNat else S.page y := by
 unfold St.page; obtain ⟨k, rfl⟩ := Int.eq_ofNat_of_zero_le h.1; have hk : k < S.pages.length := by have := h.2; omega
 show (S.laidAll new).getD k [] = _; unfold St.laidAll laid; rw [List.getD_eq_getElem?_getD, List.getElem?_map, List.getElem?_range hk]; simp only [Option.map_some, Option.getD_some, true_and]; cases hc : S.cache (k : Int) with
 | none => simp
 | some v => simp
theorem sync_page {S : St} {y : Int} (h : inR S y) : S.sync.page y = S.page y := by
 have := laidAll_page (S := S) (new := fun i => S.page (i : Int)) (fu := S.sync.fuse) (dn := S.sync.done) h; have e : S.sync = ⟨S.laidAll (fun i => S.page (i : Int)), fun _ => none, S.sync.fuse, S.sync.done⟩ := rfl; rw [e, this]
 split
 · rw [show ((y.toNat : Nat) : Int) = y by have := h.1; omega]
 · rfl
def ids (l : List Sheet) : List Int := l.map (·.1)
theorem tryWrite_eq {S : St} {p : Int} {xs : List UInt8} (h : writeE S p 256 = 0) : S.tryWrite p xs = S.write p xs := by
 unfold writeE at h; unfold St.tryWrite
 split at h
 · omega
 · rename_i h1
   split at h
   · omega
   · rename_i h2
     rw [if_neg h1, if_neg h2]
theorem writeE_dead {S : St} {p : Int} (hp : inR S p) (h : writeE S p 256 ≠ 0) : writeE S p 256 = 10 ∧ S.fuse = 0 := by
 unfold writeE at h ⊢; unfold inR at hp; by_cases hf : S.fuse = 0
 · rw [if_pos hf]; exact ⟨rfl, hf⟩
 · rw [if_neg hf, if_neg (by omega), if_pos rfl] at h; exact absurd rfl h
structure PutSpec (S : St) (l : List Sheet) (R : St × Int) : Prop where
 er : R.2 = 0 ∨ R.2 = 10
 len : R.1.pages.length = S.pages.length
 good : R.2 = 0 → (∀ y, R.1.cache y = none) ∧ ∀ y, inR S y → y ∉ ids l → R.1.page y = S.page y
 bad : R.2 ≠ 0 → R.1.pages = S.pages ∧ ∀ y, y ∉ ids l → R.1.cache y = S.cache y
theorem putS_spec : ∀ (l : List Sheet) (S : St), (∀ x ∈ l, inR S x.1) → PutSpec S l (putS S l)
 | [], S, _ => by
   have e : putS S [] = (S.trySync, syncE S) := rfl; rw [e]; unfold St.trySync syncE; by_cases hf : S.fuse = 0
   · rw [if_pos hf, if_pos hf]; exact ⟨.inr rfl, rfl, fun h => absurd (show (10 : Int) = 0 from h) (by decide), fun _ => ⟨rfl, fun y _ => rfl⟩⟩
   · rw [if_neg hf, if_neg hf]; exact ⟨.inl rfl, sync_len S, fun _ => ⟨fun y => rfl, fun y hy _ => sync_page hy⟩, fun h => absurd rfl h⟩
 | x :: r, S, hl => by
   have hx := hl x (List.mem_cons_self ..); unfold putS; by_cases he : writeE S x.1 256 = 0
   · rw [if_pos he, tryWrite_eq he]; have hlen : (S.write x.1 x.2).pages.length = S.pages.length := rfl; have ih := putS_spec r (S.write x.1 x.2) (fun y hy => by unfold inR; rw [hlen]; exact hl y (List.mem_cons_of_mem _ hy)); refine ⟨ih.er, ih.len.trans hlen, fun h0 => ⟨(ih.good h0).1, fun y hy hn => ?_⟩, fun h0 => ⟨(ih.bad h0).1, fun y hn => ?_⟩⟩
     · have hn' : y ≠ x.1 ∧ y ∉ ids r := by simpa [ids] using hn
       rw [(ih.good h0).2 y (by unfold inR; rw [hlen]; exact hy) hn'.2, write_page, if_neg hn'.1]
     · have hn' : y ≠ x.1 ∧ y ∉ ids r := by simpa [ids] using hn
       rw [(ih.bad h0).2 y hn'.2]; show (if y = x.1 then some x.2 else S.cache y) = _; rw [if_neg hn'.1]
   · rw [if_neg he]; obtain ⟨h1, h2⟩ := writeE_dead hx he; exact ⟨.inr h1, rfl, fun h0 => absurd h0 he, fun _ => ⟨rfl, fun y _ => rfl⟩⟩
theorem putS_has : ∀ (l : List Sheet) (S : St), (∀ x ∈ l, inR S x.1) → (ids l).Nodup → (putS S l).2 = 0 → ∀ x ∈ l, (putS S l).1.page x.1 = x.2
 | [], S, _, _, _ => fun x hx => by cases hx
 | x :: r, S, hl, hn, h0 => by
   have hx := hl x (List.mem_cons_self ..); have hn2 : x.1 ∉ ids r ∧ (ids r).Nodup := by simpa [ids] using hn
   unfold putS at h0 ⊢; by_cases he : writeE S x.1 256 = 0
   · rw [if_pos he] at h0 ⊢; rw [tryWrite_eq he] at h0 ⊢; have hr : ∀ y ∈ r, inR (S.write x.1 x.2) y.1 := fun y hy => hl y (List.mem_cons_of_mem _ hy)
     intro y hy; rcases List.mem_cons.1 hy with rfl | hy
     · rw [((putS_spec r (S.write y.1 y.2) hr).good h0).2 y.1 hx hn2.1, write_page, if_pos rfl]
     · exact putS_has r (S.write x.1 x.2) hr hn2.2 h0 y hy
   · rw [if_neg he] at h0; exact absurd h0 he
theorem addAll_nil {I : List Int} (h : Rising I) : addAll [] I = I := Rising.uniq (Rising.addAll Rising.nil_ _) h fun z => by rw [mem_addAll]; simp
theorem isPg_of {x : Int} {z : Nat} (h : 2 ≤ x ∧ x < (z : Int)) (hz : z ≤ 1024) : isPg x = true := by simp [isPg]; omega
theorem rchain_laid (S : St) (t : Nat) (ht : t < 18446744073709551616) (hz : S.pages.length ≤ 1024) : ∀ (C I C0 I0 : List Int) (k : Nat), (∀ x ∈ layC t C I, S.page x.1 = x.2) → (C0 ++ C).Nodup → (∀ x ∈ C, 2 ≤ x ∧ x < (S.pages.length : Int)) → Rising I → (∀ x ∈ I, isPg x = true) → I.length ≤ 59 * C.length → C.length < k →
 rchain S k (headN C) C0 I0 = (0, C0 ++ C, I0 ++ I)
 | [], I, C0, I0, k, _, _, _, _, _, hl, hk => by
   obtain ⟨k', rfl⟩ : ∃ k', k = k' + 1 := ⟨k - 1, by simp at hk; omega⟩
   have : I = [] := List.eq_nil_of_length_eq_zero (by simpa using hl); subst this; simp [rchain, headN]
 | c :: r, I, C0, I0, k, hp, hn, hb, hr, hi, hl, hk => by
   obtain ⟨k', rfl⟩ : ∃ k', k = k' + 1 := ⟨k - 1, by simp at hk; omega⟩
   have hc := hb c (List.mem_cons_self ..); have hpc : S.page c = sealed (bodyOf (spareP t (headN r) (I.take 59))) := hp _ (by rw [layC]; exact List.mem_cons_self ..); have hrt : rightB (spareP t (headN r) (I.take 59)) = true := right_spare (headN_ok fun x hx => isPg_of (hb x (List.mem_cons_of_mem _ hx)) hz) (hr.sublist (List.take_sublist _ _)) (fun x hx => hi x (List.mem_of_mem_take hx)) (List.length_take_le ..); have hd : decPg (S.page c) = (spareP t (headN r) (I.take 59), 0) := by
    rw [hpc]; exact decPg_sealed hrt (by show (0 : Int) ≤ (t : Int); omega) (by show (t : Int) < _; omega)
   have hnc : c ∉ C0 := fun h => by
    rw [List.nodup_append] at hn; exact hn.2.2 c h c (List.mem_cons_self ..) rfl
   show rchain S (k' + 1) c C0 I0 = _; rw [rchain, if_neg (by omega), if_neg (by simp [finB]; omega), if_neg hnc, hd, if_neg (by simp), if_neg (by simp)]; have ih := rchain_laid S t ht hz r (I.drop 59) (C0 ++ [c]) (I0 ++ I.take 59) k' (fun x hx => hp x (by rw [layC]; exact List.mem_cons_of_mem _ hx)) (by rw [List.append_assoc]; exact hn) (fun x hx => hb x (List.mem_cons_of_mem _ hx)) (hr.sublist (List.drop_sublist _ _)) (fun x hx => hi x (List.mem_of_mem_drop hx)) (by simp at hl ⊢; omega) (by simp at hk; omega); show rchain S k' (headN r) _ _ = _; rw [ih]; simp [List.append_assoc, List.take_append_drop]
structure Bas (z : Nat) (B : PSt) : Prop where
 ok : B.ok z
 z1 : 8 ≤ z
 z2 : z ≤ 1024
 H : B.L.H = []
 ri : Rising B.L.S
 sb : ∀ x ∈ B.L.S, 2 ≤ x ∧ x < (z : Int)
 root : B.root = B.M.root
 sp : B.M.spare = headN B.chain
 none_ : B.add = fun _ => none
 cl : B.L.S.length ≤ 59 * B.chain.length
def ChainOn (S : St) (B : PSt) : Prop := ∃ t : Nat, t < 18446744073709551616 ∧ ∀ x ∈ layC t B.chain B.L.S, S.page x.1 = x.2
theorem open_of {S : St} {B : PSt} (hb : Bas S.pages.length B) (hc : ChainOn S B) (hm : chooseM (S.page 0) (S.page 1) = (B.M, 0)) : openE S = 0 ∧ openS S = B := by
 obtain ⟨t, ht, hp⟩ := hc; have hcl : B.chain.length ≤ 1022 := nodup_short hb.ok.cn hb.ok.cb hb.z2; have hr := rchain_laid S t ht hb.z2 B.chain B.L.S [] [] 1100 hp (by simpa using hb.ok.cn) hb.ok.cb hb.ri (fun x hx => isPg_of (hb.sb x hx) hb.z2) hb.cl (by omega); rw [List.nil_append, List.nil_append] at hr; have hne : newErr (S.pages.length : Int) (B.chain ++ B.L.S) = 0 := by
  unfold newErr; rw [if_neg (by have := hb.z1; have := hb.z2; omega), if_pos (List.all_eq_true.2 (fun x hx => by
   rcases List.mem_append.1 hx with hx | hx
   · have := hb.ok.cb x hx; simp [finB]; omega
   · have := hb.sb x hx; simp [finB]; omega)), if_pos]
  rw [List.nodup_append]; refine ⟨hb.ok.cn, hb.ri.imp fun h => by omega, fun x hx y hy e => (hb.ok.cs x hx).1 (e ▸ hy)⟩
 constructor
 · unfold openE; rw [hm]; simp only; rw [if_neg (by simp), if_neg (by simpa using hb.ok.mz), hb.sp, hr, if_neg (by simp), hb.ok.mz, if_neg (by simpa using hne)]
 · unfold openS; rw [hm]; simp only; rw [hb.sp, hr, addAll_nil hb.ri, hb.ok.mz, ← hb.root]; have h1 := hb.ok.lz; have h2 := hb.H; have h3 := hb.none_; obtain ⟨M, C, root, ⟨lz, lS, lH⟩, add⟩ := B; simp only at h1 h2 h3 ⊢; rw [h1, h2, h3]
theorem choose_two {e l : Mt} (re : rightM e = true) (rl : rightM l = true) (tl : l.txn < 18446744073709551616) (tx : e.txn + 1 = l.txn) :
 (if l.txn % 2 = 0 then chooseM (sealed (bodyM l)) (sealed (bodyM e)) else chooseM (sealed (bodyM e)) (sealed (bodyM l))) = (l, 0) := by
 by_cases hp : l.txn % 2 = 0
 · rw [if_pos hp]; unfold chooseM; rw [stand_yes (by omega) re (k := 1) (by omega), stand_yes tl rl (k := 0) (by omega)]; simp; omega
 · rw [if_neg hp]; unfold chooseM; rw [stand_yes (by omega) re (k := 0) (by omega), stand_yes tl rl (k := 1) (by omega)]; simp; omega
structure OnDisk (S : St) (B : PSt) (el : Mt) : Prop where
 bas : Bas S.pages.length B
 cache : ∀ y, S.cache y = none
 rl : rightM B.M = true
 re : rightM el = true
 tx : el.txn + 1 = B.M.txn
 pl : S.page ((B.M.txn % 2 : Nat) : Int) = sealed (bodyM B.M)
 pe : S.page ((el.txn % 2 : Nat) : Int) = sealed (bodyM el)
 chain : ChainOn S B
theorem choose_pages {S : St} {l e : Mt} (re : rightM e = true) (rl : rightM l = true) (tl : l.txn < 18446744073709551616) (tx : e.txn + 1 = l.txn) (pl : S.page ((l.txn % 2 : Nat) : Int) = sealed (bodyM l)) (pe : S.page ((e.txn % 2 : Nat) : Int) = sealed (bodyM e)) : chooseM (S.page 0) (S.page 1) = (l, 0) := by
 have h := choose_two re rl tl tx; by_cases hp : l.txn % 2 = 0
 · rw [if_pos hp] at h; rw [hp] at pl; rw [show e.txn % 2 = 1 by omega] at pe; rw [show S.page 0 = sealed (bodyM l) from pl, show S.page 1 = sealed (bodyM e) from pe]; exact h
 · rw [if_neg hp] at h; rw [show l.txn % 2 = 1 by omega] at pl; rw [show e.txn % 2 = 0 by omega] at pe; rw [show S.page 1 = sealed (bodyM l) from pl, show S.page 0 = sealed (bodyM e) from pe]; exact h
theorem OnDisk.opens {S : St} {B : PSt} {el : Mt} (h : OnDisk S B el) : openE S = 0 ∧ openS S = B :=
 open_of h.bas h.chain (choose_pages h.re h.rl h.bas.ok.tx h.tx h.pl h.pe)
theorem putS_alive : ∀ (l : List Sheet) (S : St), S.fuse = -1 → (∀ x ∈ l, inR S x.1) → (putS S l).2 = 0 ∧ (putS S l).1.fuse = -1
 | [], S, hf, _ => by
   have e : putS S [] = (S.trySync, syncE S) := rfl; rw [e]; unfold St.trySync syncE; rw [if_neg (by omega), if_neg (by omega)]; refine ⟨rfl, ?_⟩; show (if 0 < S.fuse then S.fuse - 1 else S.fuse) = -1; rw [if_neg (by omega), hf]
 | x :: r, S, hf, hl => by
   have hx := hl x (List.mem_cons_self ..); have he : writeE S x.1 256 = 0 := by
    unfold inR at hx; unfold writeE; rw [if_neg (by omega), if_neg (by omega), if_pos rfl]
   unfold putS; rw [if_pos he, tryWrite_eq he]; refine putS_alive r (S.write x.1 x.2) ?_ (fun y hy => hl y (List.mem_cons_of_mem _ hy)); show (if 0 < S.fuse then S.fuse - 1 else S.fuse) = -1; rw [if_neg (by omega), hf]
theorem ids_layC (t : Nat) : ∀ (C I : List Int), ids (layC t C I) = C
 | [], _ => rfl
 | c :: r, I => by
   show c :: ids (layC t r (I.drop 59)) = _; rw [ids_layC t r]
def baseP (z : Nat) : PSt := ⟨meta1 z, (allIds z).take (needN (z - 2)), 0, ⟨(z : Int), (allIds z).drop (needN (z - 2)), []⟩, fun _ => none⟩
def formatted (z : Nat) : St := (putS (fresh z) (formatL z)).1
theorem allIds_nodup (z : Nat) : (allIds z).Nodup := (allIds_rising z).imp fun h => by omega
theorem formatL_ids (z : Nat) : ids (formatL z) = 0 :: 1 :: (allIds z).take (needN (z - 2)) := by
 unfold formatL; show 0 :: 1 :: ids (layC 1 _ _) = _; rw [ids_layC]
theorem formatL_in (z : Nat) (h1 : 8 ≤ z) : ∀ x ∈ formatL z, inR (fresh z) x.1 := fun x hx => by
 have hm : x.1 ∈ ids (formatL z) := List.mem_map_of_mem hx; rw [formatL_ids] at hm; have hl : ((fresh z).pages.length : Int) = (z : Int) := by rw [fresh_len]
 unfold inR; rw [hl]; rcases List.mem_cons.1 hm with h | hm
 · omega
 · rcases List.mem_cons.1 hm with h | hm
   · omega
   · have := mem_allIds.1 (List.mem_of_mem_take hm); omega
theorem formatted_spec (z : Nat) (h1 : 8 ≤ z) (h2 : z ≤ 1024) : (putS (fresh z) (formatL z)).2 = 0 ∧ (formatted z).fuse = -1 ∧ (formatted z).pages.length = z ∧ (formatted z).done ≤ 2000 ∧ OnDisk (formatted z) (baseP z) (meta0 z) := by
 have hin := formatL_in z h1; have hal := putS_alive (formatL z) (fresh z) rfl hin; have hsp := putS_spec (formatL z) (fresh z) hin; have hlen : (formatted z).pages.length = z := hsp.len.trans (fresh_len z); have hk := needN_le (z - 2) (by omega); have hnd : (ids (formatL z)).Nodup := by
  rw [formatL_ids]; have hb : ∀ x ∈ (allIds z).take (needN (z - 2)), 2 ≤ x := fun x hx => (mem_allIds.1 (List.mem_of_mem_take hx)).1
  refine List.nodup_cons.2 ⟨fun h => ?_, List.nodup_cons.2 ⟨fun h => ?_, (allIds_nodup z).sublist (List.take_sublist _ _)⟩⟩
  · rcases List.mem_cons.1 h with h | h
    · omega
    · have := hb _ h; omega
  · have := hb _ h; omega
 have hhas := putS_has (formatL z) (fresh z) hin hnd hal.1; have hm := meta_right z h1 h2; refine ⟨hal.1, hal.2, hlen, ?_, ⟨?_, (hsp.good hal.1).1, hm.2, hm.1, rfl, ?_, ?_, ⟨1, by omega, fun x hx => hhas x ?_⟩⟩⟩
 · have hd := putS_done (formatL z) (fresh z); have hl : (formatL z).length = 2 + needN (z - 2) := by
    unfold formatL; simp only [List.length_append, layC_length, List.length_take, allIds_length, List.length_cons, List.length_nil]; omega
   have h0 : (fresh z).done = 0 := rfl; show (putS (fresh z) (formatL z)).1.done ≤ _; omega
 · rw [hlen]; have hbd : ∀ x ∈ allIds z, 2 ≤ x ∧ x < (z : Int) := fun x hx => mem_allIds.1 hx
   have hdis : ∀ x ∈ (allIds z).take (needN (z - 2)), x ∉ (allIds z).drop (needN (z - 2)) := fun x hx hy => by
    have h3 := allIds_nodup z; rw [← List.take_append_drop (needN (z - 2)) (allIds z), List.nodup_append] at h3; exact h3.2.2 x hx x hy rfl
   refine ⟨⟨rfl, rfl, by show (1 : Nat) < _; omega, (allIds_nodup z).sublist (List.take_sublist _ _), fun x hx => hbd x (List.mem_of_mem_take hx), fun x hx => ⟨hdis x hx, fun h => (by cases h)⟩, fun x _ h => (by cases h), fun x bs e => (by cases e)⟩, h1, h2, rfl, (allIds_rising z).sublist (List.drop_sublist _ _), fun x hx => hbd x (List.mem_of_mem_drop hx), rfl, ?_, rfl, ?_⟩
   · show (2 : Int) = headN ((allIds z).take (needN (z - 2))); obtain ⟨k, hk'⟩ : ∃ k, needN (z - 2) = k + 1 := ⟨needN (z - 2) - 1, by omega⟩
     obtain ⟨n, hn'⟩ : ∃ n, z - 2 = n + 1 := ⟨z - 3, by omega⟩
     rw [hk']; unfold allIds; rw [hn', List.range_succ_eq_map]; rfl
   · show ((allIds z).drop (needN (z - 2))).length ≤ 59 * ((allIds z).take (needN (z - 2))).length; rw [List.length_drop, List.length_take, allIds_length]; have : needN (z - 2) = (z - 2 + 59) / 60 := rfl; omega
 · exact hhas (1, sealed (bodyM (meta1 z))) (by unfold formatL; simp)
 · exact hhas (0, sealed (bodyM (meta0 z))) (by unfold formatL; simp)
 · unfold formatL; exact List.mem_append_right _ hx
section
variable {B P : PSt} {S : St} {el : Mt} {z : Nat}
end
def PLeftM (w w' : World) (p : Pgl) (P : PSt) (S : St) : Prop := ∃ p' : Pgl, p'.r = p.r ∧ p'.d = p.d ∧ p'.m = p.m ∧ Pgr w' p' P S ∧ Turned w w' p.all ∧ ∀ j, p'.own j → p.own j ∨ w.heap.size ≤ j
section
variable {w w' : World} {p : Pgl} {P : PSt} {S : St}
theorem Pgr.list_stepM (h : Pgr w p P S) {L' : FSt} (k : LLeft w w' p.f L') (hok : PSt.ok { P with L := L' } S.pages.length) : PLeftM w w' p { P with L := L' } S := by
 obtain ⟨f', e, hl, t, ho⟩ := k; refine ⟨{ p with f := f' }, rfl, rfl, rfl, ⟨hok, ?_, h.dsk.turned t fun i hi hf => h.d_own hi (.inr (.inr (.inl hf))), h.chn.turned t h.cf, hl, ⟨h.adm.1.keep (t.block _ h.adm.1.lt h.f_m), h.adm.2.turned t fun g hg hf => ?_⟩, fun g hg hf => ?_, h.md⟩, t.mono fun j _ hj => .inl (.inr (.inr (.inl hj))), fun j hj => ?_⟩
 · have hb := (t.block _ h.blk.lt h.f_r).trans h.blk; show Blk w' p.r _ [.pointer (some ⟨p.d.r, 0, none⟩), .int .u64 (P.M.txn : Int), .int .i64 P.M.root, .int .i64 P.M.spare, .int .i64 P.M.size, .slice p.Ac P.chain.length p.cc, .bool false, .int .i64 P.root, .pointer (some ⟨f'.r, 0, none⟩), .map (some p.m)]; rw [e]; exact hb
 · rcases h.lst.own_cl hf with hc | hc <;> exact absurd (hg.uniq hc) (by decide)
 · rcases ho g hf with h5 | h5
   · exact h.cf g hg h5
   · have := h.chn.lt hg; omega
 · rcases hj with hj | hj | hj | hj
   · exact .inl (.inl hj)
   · exact .inl (.inr (.inl hj))
   · rcases ho j hj with h5 | h5
     · exact .inl (.inr (.inr (.inl h5)))
     · exact .inr h5
   · exact .inl (.inr (.inr (.inr hj)))
theorem Pgr.left_ofM (h : Pgr w' p P S) (hb : Below w.heap.size w w') : PLeftM w w' p P S := ⟨p, rfl, rfl, rfl, h, Turned.of_below hb _, fun _ hj => .inl hj⟩
theorem Pgr.map_stepM (h : Pgr w p P S) {V' : Int → Option Value} {add' : Adds} (hm : Mv w' p.m 1022 V') (hg : w.grownBy w' (some p.m)) (hv : AdV w V' add') (hok : PSt.ok { P with add := add' } S.pages.length) : PLeftM w w' p { P with add := add' } S := by
 have t : Turned w w' (fun j => j = p.m) := Turned.of_grown hg (fun j e => (Option.some.inj e).symm); have nm : ∀ {b : Nat} {ty : TypeId}, Cl w b ty → b ≠ p.m := fun hc e => h.adm.1.not_cl (e ▸ hc)
 refine ⟨{ p with V := V' }, rfl, rfl, rfl, ⟨hok, (t.block _ h.blk.lt (nm h.blk.cl)).trans h.blk, h.dsk.turned t fun i hi e => h.d_own hi (.inr (.inr (.inr e))), h.chn.turned t fun g hg => nm (h.chn.cl hg), h.lst.turned t fun j hj => ?_, ⟨hm, hv.turned t fun g hg => nm hg⟩, h.cf, h.md⟩, t.mono fun j _ hj => .inl (.inr (.inr (.inr hj))), fun j hj => .inl hj⟩; rcases h.lst.own_cl hj with hc | hc <;> exact nm hc
theorem add_fullM (h : Pgr w p P S) (l : Lay) (X : Pg) (hr : RdPg w l X) (hF : Fours w) (ht : P.M.txn + 1 < 18446744073709551616) (hR : rightB (txnP X (P.M.txn + 1)) = true) (hs : P.L.S.length < S.pages.length / 60 + 2) :
 Calls Tryz.prog 105 #[.pointer (some ⟨p.r, 0, none⟩), l.val] w fun e w' => e = .returned (.tuple #[.int .i64 0, .int .i64 9]) ∧ Hid (PLeftM w w' p P S) := by
 obtain ⟨q, hq⟩ : ∃ q : Nat, P.M.txn + 1 = q := ⟨_, rfl⟩
 have hwq : IntKind.u64.wrap ((P.M.txn : Int) + 1) = (q : Int) := by rw [IntKind.wrap_u64]; omega
 rw [hq] at hR ht; have c1 := fun o => ((h.below ((Below.refl _ w).alloc (Nat.le_refl _) o)).c 1 : (w.alloc o).cell? ⟨p.r, 1, none⟩ = some (.int .u64 (P.M.txn : Int)))
 have HA := fun o => kept (palive_any (h.below ((Below.refl _ w).alloc (Nat.le_refl _) o)))
 have HE := kept (fun W (hb : Below w.heap.size w W) => encode_right { l with txn := (q : Int) } _ W ((rd_txn hr q ht).below hb) hR (hF.below hb)); have HP := kept (fun W (hb : Below w.heap.size w W) => h.below hb); have HQ := kept hq; have HSN := kept hs; have hlt := h.blk.lt; have hne : p.r ≠ w.heap.size := by omega
 clear h hr hF hq hR hs; obtain ⟨kind, txn, next, a1, n1, c1', a2, n2, c2, a3, n3, c3, a4, n4, c4⟩ := l; simp only at HE; go_enter Tryz.func105, Tryz.ntmps105; go_wp2_with (first | (go_at_call 37; (with_reducible refine (HA _).out.mono ?_); rintro e w1 ⟨rfl, rfl⟩))
 with_reducible refine (HE.out _ ((Below.refl _ w).alloc (Nat.le_refl _) _)).mono ?_
 rintro e w2 ⟨A2, cc2, rfl, ho2, hb2⟩; have hB2 : Below w.heap.size w w2 := bel_to hb2 ((Below.refl _ w).alloc (Nat.le_refl _) _); have h2 := HP.out w2 hB2; have HB2 := kept hB2; have H2 := kept h2; have HO2 := kept (OwB.of_row ho2); have d8 : w2.cell? ⟨p.r, 8, none⟩ = some (.pointer (some ⟨p.f.r, 0, none⟩)) := h2.c 8; have d4 : w2.cell? ⟨p.r, 4, none⟩ = some (.int .i64 (S.pages.length : Int)) := by rw [← h2.ok.mz]; exact h2.c 4
 have HRM := fun q => kept (froom_any p.f P.L (w2.drewN q) (h2.drewN q).lst)
 have hz1024 : S.pages.length ≤ 1000000 := by have := h2.dsk.1.2.1; omega
 have HLR := fun q => kept (leastRoom_any S.pages.length (w2.drewN q) hz1024)
 generalize hnS : P.L.S.length = nS at HRM HSN; generalize hnZ : S.pages.length / 60 + 2 = nZ at HLR HSN; have HNS := kept hnS; clear ho2 hb2 hB2 h2 c1 HA HE HP hnS hnZ hz1024; have hbb : decide ((nS : Int) < (nZ : Int)) = true := by simpa using HSN.out
 go_wp2
 go_quiet (first | (go_at_call 71; exact Calls.quiet_of_same (turn (HRM _).out)) | (go_at_call 152; exact Calls.quiet_of_same (turn (HLR _).out)))
 go_wp2; go_ret2; exact ⟨rfl, kept ((H2.out.drewN _).left_ofM (below_dn HB2.out _))⟩
theorem add_okM (h : Pgr w p P S) (l : Lay) (X : Pg) (hr : RdPg w l X) (hF : Fours w) (ht : P.M.txn + 1 < 18446744073709551616) (hR : rightB (txnP X (P.M.txn + 1)) = true) (hs : S.pages.length / 60 + 2 ≤ P.L.S.length) (x : Int) (r : List Int) (hx : P.L.S = x :: r) :
 Calls Tryz.prog 105 #[.pointer (some ⟨p.r, 0, none⟩), l.val] w fun e w' => e = .returned (.tuple #[.int .i64 x, .int .i64 0]) ∧ Hid (PLeftM w w' p (addP P x (sealed (bodyOf (txnP X (P.M.txn + 1))))) S) := by
 obtain ⟨q, hq⟩ : ∃ q : Nat, P.M.txn + 1 = q := ⟨_, rfl⟩
 have hwq : IntKind.u64.wrap ((P.M.txn : Int) + 1) = (q : Int) := by rw [IntKind.wrap_u64]; omega
 rw [hq] at hR ht ⊢; have c1 := fun o => ((h.below ((Below.refl _ w).alloc (Nat.le_refl _) o)).c 1 : (w.alloc o).cell? ⟨p.r, 1, none⟩ = some (.int .u64 (P.M.txn : Int)))
 have HA := fun o => kept (palive_any (h.below ((Below.refl _ w).alloc (Nat.le_refl _) o)))
 have HE := kept (fun W (hb : Below w.heap.size w W) => encode_right { l with txn := (q : Int) } _ W ((rd_txn hr q ht).below hb) hR (hF.below hb)); have HP := kept (fun W (hb : Below w.heap.size w W) => h.below hb); have HQ := kept hq; have HSN := kept hs; have hlt := h.blk.lt; have hne : p.r ≠ w.heap.size := by omega
 have HX := kept hx; have HRT := kept hR; clear h hr hF hq hR hs hx; obtain ⟨kind, txn, next, a1, n1, c1', a2, n2, c2, a3, n3, c3, a4, n4, c4⟩ := l; simp only at HE; go_enter Tryz.func105, Tryz.ntmps105; go_wp2_with (first | (go_at_call 37; (with_reducible refine (HA _).out.mono ?_); rintro e w1 ⟨rfl, rfl⟩))
 with_reducible refine (HE.out _ ((Below.refl _ w).alloc (Nat.le_refl _) _)).mono ?_
 rintro e w2 ⟨A2, cc2, rfl, ho2, hb2⟩; have hB2 : Below w.heap.size w w2 := bel_to hb2 ((Below.refl _ w).alloc (Nat.le_refl _) _); have h2 := HP.out w2 hB2; have HB2 := kept hB2; have H2 := kept h2; have HO2 := kept (OwB.of_row ho2); have d8 : w2.cell? ⟨p.r, 8, none⟩ = some (.pointer (some ⟨p.f.r, 0, none⟩)) := h2.c 8; have d4 : w2.cell? ⟨p.r, 4, none⟩ = some (.int .i64 (S.pages.length : Int)) := by rw [← h2.ok.mz]; exact h2.c 4
 have HRM := fun q => kept (froom_any p.f P.L (w2.drewN q) (h2.drewN q).lst)
 have hz1024 : S.pages.length ≤ 1000000 := by have := h2.dsk.1.2.1; omega
 have HLR := fun q => kept (leastRoom_any S.pages.length (w2.drewN q) hz1024)
 generalize hnS : P.L.S.length = nS at HRM HSN; generalize hnZ : S.pages.length / 60 + 2 = nZ at HLR HSN; have HNS := kept hnS; clear ho2 hb2 hB2 h2 c1 HA HE HP hnS hnZ hz1024; have hbb : decide ((nS : Int) < (nZ : Int)) = false := by have := HSN.out; simp; omega
 have hbn : decide (nS < nZ) = false := by have := HSN.out; simp; omega
 have hbz : ¬ nS < nZ := by have := HSN.out; omega
 have HTK := fun q => kept (ftake_any p.f P.L (w2.drewN q) (H2.out.drewN q).lst)
 have hxe : P.L.taken = (x, 0) := by unfold FSt.taken; rw [HX.out]
 rw [hxe] at HTK; clear hxe; go_wp2
 go_quiet (first | (go_at_call 71; exact Calls.quiet_of_same (turn (HRM _).out)) | (go_at_call 152; exact Calls.quiet_of_same (turn (HLR _).out)))
 have d8' : ∀ q, (w2.drewN q).cell? ⟨p.r, 8, none⟩ = some (.pointer (some ⟨p.f.r, 0, none⟩)) := fun q => (H2.out.drewN q).c 8
 have hwx : Wf x ∧ 2 ≤ x ∧ x < 1024 := by
  have h1 := H2.out.lst.1.2.2.2.2.1 x (by rw [HX.out]; exact List.mem_cons_self ..); have h2 := H2.out.lst.1.2.1; exact ⟨⟨by omega, by omega⟩, by omega, by omega⟩
 have HWX := kept hwx; have HST : Hid (∀ W W', Pgr W p P S → LLeft W W' p.f P.L.take → PLeftM W W' p { P with L := P.L.take } S) := kept (fun W W' hp hl => hp.list_stepM hl (ok_take hp.ok hp.lst.1)); clear hwx; go_wp2_with fail
 with_reducible refine (HTK _).out.mono ?_
 rintro e w3 ⟨rfl, h3⟩; obtain ⟨p3, e1, e2, em, hp3, t3, o3⟩ := HST.out _ _ (H2.out.drewN _) h3.out; have HP3 := kept hp3; have HT3 := kept t3; have HO3 := kept o3; have HE1 := kept e1; have HE2 := kept e2; have HEM := kept em; have d9 : w3.cell? ⟨p.r, 9, none⟩ = some (.map (some p3.m)) := by rw [← e1]; exact hp3.c 9
 have HAB : Hid (OwB w3 A2 256 cc2 (sealed (bodyOf (txnP X q)))) := kept ((HO2.out.below (below_dn (Below.refl _ _) nq)).turned t3 (fun g hg => H2.out.not_all (HO2.out.cl hg) (by decide) (by decide) (by decide) (by decide) (by decide))); clear hp3 t3 o3 e1 e2 h3 em; go_wp2_with (first | (at_mapUpdate; go_loud (refine wpList_put_mv rfl 74 46 _ _ _ rfl addU HP3.out.adm.1 (by unfold maxLen; omega) rfl x rfl HWX.out.1 (.slice A2 256 cc2) rfl ?_; intro w4 hm4 hg4; have HM4 := kept hm4; have HG4 := kept hg4; clear hm4 hg4)))
 go_ret2; refine ⟨rfl, kept ?_⟩; have hv := HP3.out.adm.2.put HAB.out HWX.out.2; have hml : p3.m < w3.heap.size := HP3.out.adm.1.lt; have hm := HM4.out.tight (fun y hy => by
  by_cases e : y = x
  · subst e; exact HWX.out.2
  · rw [if_neg e] at hy; exact HP3.out.adm.2.range (by rw [← HP3.out.adm.2.some_]; exact hy))
 have hok : PSt.ok (addP P x (sealed (bodyOf (txnP X q)))) S.pages.length := by
  have h1 := ok_take H2.out.ok H2.out.lst.1; have hxS : x ∈ P.L.S := by rw [HX.out]; exact List.mem_cons_self ..
  have hb := H2.out.lst.1.2.2.2.2.1 x hxS; refine ⟨h1.lz, h1.mz, h1.tx, h1.cn, h1.cb, h1.cs, h1.sh, fun y bs e => ?_⟩; by_cases ey : y = x
  · subst ey; have e : some (sealed (bodyOf (txnP X q))) = some bs := by have := e; simp only [addP, if_true] at this; exact this
    cases e; have h9 : P.L.z = (S.pages.length : Int) := h1.lz; have hri : Rising (y :: r) := by rw [← HX.out]; exact H2.out.lst.1.2.2.1
    have hnr : y ∉ P.L.S.tail := by rw [HX.out]; exact fun hm => by have := (Rising.cons.1 hri).1 y hm; omega
    exact ⟨hb.1, by rw [← h9]; exact hb.2, fun hm => (H2.out.ok.cs y hm).1 hxS, hnr, H2.out.ok.sh y hxS, by rw [sealed_length, bodyOf_length (right_used HRT.out)]⟩
  · exact h1.ab y bs (by have := e; simp only [addP, if_neg ey] at this; exact this)
 have k4 := HP3.out.map_stepM (V' := fun y => if y = x then some (.slice A2 256 cc2) else p3.V y) (add' := fun y => if y = x then some (sealed (bodyOf (txnP X q))) else P.add y) hm HG4.out hv hok; obtain ⟨p4, g1, g2, gm, g3, g4, g5⟩ := k4; refine ⟨p4, g1.trans HE1.out, g2.trans HE2.out, gm.trans HEM.out, g3, ?_, fun j hj => ?_⟩
 · have t23 : Turned w w3 p.all := (Turned.of_below (below_dn HB2.out nq) p.all).trans HT3.out; refine ⟨g4.os.trans t23.os, g4.tape.trans t23.tape, g4.output.trans t23.output, Nat.le_trans t23.size g4.size, fun j hj hn => ?_⟩; refine (g4.block j (Nat.lt_of_lt_of_le hj t23.size) fun hk => ?_).trans (t23.block j hj hn); rcases hk with hk | hk
   · rcases HO3.out j hk with h5 | h5
     · exact hn (.inl h5)
     · have h6 : w2.heap.size ≤ j := h5; have := HB2.out.size; omega
   · exact hn (.inr (HE2.out ▸ hk))
 · rcases g5 j hj with h5 | h5
   · rcases HO3.out j h5 with h6 | h6
     · exact .inl h6
     · exact .inr (Nat.le_trans HB2.out.size h6)
   · exact .inr (Nat.le_trans HB2.out.size (Nat.le_trans HT3.out.size h5))
end
end Go.Proofs.YtblbhhijddcbeaaGreatDoor
end
