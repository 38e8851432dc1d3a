/- Qe -/
import Derived.Test.YtblbhhijddcbeaaGreatDoorBQc
import Derived.Test.YtblbhhijddcbeaaGreatDoorBPg
import Derived.Test.YtblbhhijddcbeaaGreatDoorBWr
section
namespace Go.Proofs.YtblbhhijddcbeaaGreatDoor
open Go.ChangeShapes Go.WideShapes Go.ChangeAt Go.RowKit
set_option linter.unusedVariables false
set_option linter.unusedSimpArgs false
set_option maxRecDepth 100000
set_option maxHeartbeats 16000000
structure LayS where
 id : Int
 a : Option Addr
 c : Nat
def kSh : Sort' LayS Sheet where
 size := 2
 cells L := [.int .i64 L.id, .slice L.a 256 L.c]
 R w L x := x.1 = L.id ∧ OwB w L.a 256 L.c x.2
 apart L g := blkOf L.a ≠ some g
 pos := by decide
 len _ := rfl
 one L u h := by
  simp only [List.mem_cons, List.not_mem_nil, or_false] at h; rcases h with rfl | rfl <;> rfl
 fresh h hg := fun e => by have := (h.2.cl e).lt; omega
 keep h ha hg := ⟨h.1, h.2.keep fun g' hg' => hg.block g' (h.2.cl hg').lt (fun e => ha (by rw [hg', e]))⟩
def OwSh (w : World) (A : Option Addr) (n c : Nat) (l : List Sheet) : Prop :=
 ∃ Ls : List LayS, Ls.length = n ∧ l.length = n ∧ w.ownsRow 0 95 2 (.slice A n c) n (Ls.flatMap kSh.cells) ∧ ∀ k (h1 : k < Ls.length) (h2 : k < l.length), kSh.R w Ls[k] l[k]
theorem sheetInfo : (Tryz.prog.info? 95).map (fun i => (i.zero, i.size, i.bytes)) = some (some (.agg #[.int .i64 0, .slice none 0 0]), 2, 32) := by kernel_rfl
section
variable {w w' : World} {A : Option Addr} {n c : Nat} {l : List Sheet}
theorem OwSh.nil_ (w : World) : OwSh w none 0 0 [] := ⟨[], rfl, rfl, World.ownsRow_nil _ _ _ _, fun k h => absurd h (by simp)⟩
theorem OwSh.cl (h : OwSh w A n c l) {g : Nat} (hg : blkOf A = some g) : Cl w g 95 := by
 obtain ⟨Ls, h1, h2, ho, hr⟩ := h; rcases ho.2 with ⟨h0, _⟩ | ⟨g', cap, cur, hv, hb, hh, _⟩
 · injection h0 with h0; rw [h0] at hg; cases hg
 · injection hv with hA
   rw [hA] at hg; cases hg; exact ⟨_, _, hh⟩
theorem OwSh.reads (h : OwSh w A n c l) : RdSh w A n l := by
 have hcl := fun g => h.cl (g := g)
 obtain ⟨Ls, h1, h2, ho, hr⟩ := h; refine ⟨h2, fun h0 => ?_⟩; rcases ho.2 with ⟨_, h0'⟩ | ⟨g, cap, cur, hv, hbg, hb, _⟩
 · omega
 · injection hv with hA _ _
   subst hA; refine ⟨g, rfl, hcl g rfl, fun k hk => ⟨(Ls[k]'(by omega)).a, (Ls[k]'(by omega)).c, ?_, ?_, ?_⟩⟩
   · have := ho.cells (g := g) rfl (k * 2) _ (by have := flat_at kSh Ls k 0 (by omega) (by decide); exact this); rw [add_at, Nat.zero_add] at this; have hid := (hr k (by omega) hk).1; rw [hid]; exact this
   · have := ho.cells (g := g) rfl (k * 2 + 1) _ (by have := flat_at kSh Ls k 1 (by omega) (by decide); exact this); rw [add_at, Nat.zero_add] at this; exact this
   · exact (hr k (by omega) hk).2
theorem OwSh.turned (h : OwSh w A n c l) {T : Nat → Prop} (t : Turned w w' T) (hn : ∀ b, Cl w b 95 ∨ Cl w b 5 → ¬ T b) : OwSh w' A n c l := by
 have hcl := fun g => h.cl (g := g)
 obtain ⟨Ls, h1, h2, ho, hr⟩ := h; refine ⟨Ls, h1, h2, ⟨ho.1, ?_⟩, fun k k1 k2 => ⟨(hr k k1 k2).1, (hr k k1 k2).2.turned t fun g hg => hn g (.inr ((hr k k1 k2).2.cl hg))⟩⟩; rcases ho.2 with h0 | ⟨g, cap, cur, hv, hb, hh, r⟩
 · exact .inl h0
 · refine .inr ⟨g, cap, cur, hv, hb, ?_, r⟩; injection hv with hA
   have hc := hcl g (by rw [hA]; rfl); rw [t.block g hc.lt (hn g (.inl hc))]; exact hh
theorem OwSh.below (h : OwSh w A n c l) (hb : Below w.heap.size w w') : OwSh w' A n c l := h.turned (Turned.of_below hb (fun _ => False)) fun _ _ h => h
theorem RdSh.lays {g : Nat} (h : RdSh w (some ⟨g, 0, none⟩) n l) : ∃ Ls : List LayS, Ls.length = n ∧ (∀ j u, (Ls.flatMap kSh.cells)[j]? = some u → w.cell? ((⟨g, 0, none⟩ : Addr).add j) = some u) ∧ ∀ k (h1 : k < Ls.length) (h2 : k < l.length), kSh.R w Ls[k] l[k] := by
 rcases Nat.eq_zero_or_pos n with h0 | h0
 · subst h0; exact ⟨[], rfl, fun j u hu => by simp at hu, fun k h => absurd h (by simp)⟩
 obtain ⟨g', e, _, hc⟩ := h.2 h0; cases e; have hl := h.1; have key : ∀ m, m ≤ n → ∃ Ls : List LayS, Ls.length = m ∧ ∀ k (h1 : k < Ls.length) (h2 : k < l.length), kSh.R w Ls[k] l[k] ∧ w.cell? ⟨g, k * 2, none⟩ = some (.int .i64 Ls[k].id) ∧ w.cell? ⟨g, k * 2 + 1, none⟩ = some (.slice Ls[k].a 256 Ls[k].c) := by
  intro m
  induction m with
  | zero => intro _; exact ⟨[], rfl, fun k h => absurd h (by simp)⟩
  | succ m ih =>
    intro hm; obtain ⟨Ls, e1, h1⟩ := ih (by omega); obtain ⟨B, c, k0, k1, k2⟩ := hc m (by omega); refine ⟨Ls ++ [⟨(l[m]'(by omega)).1, B, c⟩], by simp [e1], fun k a1 a2 => ?_⟩; by_cases hk : k < m
    · rw [List.getElem_append_left (by omega)]; exact h1 k (by omega) a2
    · have hkm : k = m := by simp [e1] at a1; omega
      subst hkm; rw [List.getElem_append_right (by omega)]; simp only [e1, Nat.sub_self, List.getElem_cons_zero]; exact ⟨⟨rfl, k2⟩, k0, k1⟩
 obtain ⟨Ls, e1, h1⟩ := key n (Nat.le_refl _); refine ⟨Ls, e1, fun j u hu => ?_, fun k k1 k2 => (h1 k k1 k2).1⟩; have hj : j < Ls.length * 2 := by
  have := (List.getElem?_eq_some_iff.1 hu).1; rw [List.length_flatMap] at this; have e : (Ls.map fun a => (kSh.cells a).length) = List.replicate Ls.length 2 := by
   rw [List.map_congr_left (g := fun _ => 2) (fun a _ => kSh.len a), List.map_const']
  rw [e] at this; simpa using this
 rw [add_at, Nat.zero_add]; have hk : j / 2 < Ls.length := by omega
 rcases Nat.mod_two_eq_zero_or_one j with hm | hm
 · have ej : j = j / 2 * 2 := by omega
   rw [ej] at hu ⊢; have := flat_at kSh Ls (j / 2) 0 hk (by decide); have hs : kSh.size = 2 := rfl; rw [hs, Nat.add_zero] at this; rw [this] at hu; obtain rfl := Option.some.inj hu; exact (h1 _ hk (by omega)).2.1
 · have ej : j = j / 2 * 2 + 1 := by omega
   rw [ej] at hu ⊢; have := flat_at kSh Ls (j / 2) 1 hk (by decide); have hs : kSh.size = 2 := rfl; rw [hs] at this; rw [this] at hu; obtain rfl := Option.some.inj hu; exact (h1 _ hk (by omega)).2.2
end
theorem sheet_u8 : 95 ≠ 5 := by decide
theorem run_append_sh {w : World} {A B : Option Addr} {n c m d : Nat} {X Y : List Sheet} (h : OwSh w A n c X) (hr : RdSh w B m Y) (hm : n + m ≤ 1000000) (ty : TypeId) :
 ∃ A' c' w', (Builtin.append_ #[99, 99] ty #[.slice A n c, .slice B m d]).run Tryz.prog w = .ok (.slice A' (n + m) c') w' ∧ OwSh w' A' (n + m) c' (X ++ Y) ∧ Turned w w' (fun j => blkOf A = some j) ∧ (∀ g, blkOf A' = some g → blkOf A = some g ∨ w.heap.size ≤ g) := by
 obtain ⟨i, hi, hz, hsz, hby⟩ := info_parts sheetInfo; have hcl := fun g => h.cl (g := g)
 obtain ⟨Ls, e1, e2, ho, hrd⟩ := h; rcases Nat.eq_zero_or_pos m with h0 | h0
 · subst h0; obtain rfl : Y = [] := List.eq_nil_of_length_eq_zero hr.1; refine ⟨A, c, w, ?_, by simpa using ⟨Ls, e1, e2, ho, hrd⟩, Turned.refl _ _, fun g hg => .inl hg⟩; have ht := Tryz.underlying99; rcases ho.2 with ⟨hv, hn⟩ | ⟨g, cap, cur, hv, _, _, hnc, _⟩
   · injection hv with e1 e2 e3
     subst e1 e2 e3; cases B <;> simp [Builtin.append_, run_underlying ht, sizeOf, typeInfo, hi, hsz, Builtin.lenOf, Builtin.firstCells, loadCells, loadCellsFrom]
   · injection hv with e1 e2 e3
     subst e1 e3; cases B <;> simp [Builtin.append_, run_underlying ht, sizeOf, typeInfo, hi, hsz, Builtin.lenOf, Builtin.firstCells, loadCells, loadCellsFrom, hnc, storeCells]
 · obtain ⟨g, rfl, hgc, _⟩ := hr.2 h0; obtain ⟨Ms, f1, f2, f3⟩ := hr.lays; have hlen : (Ms.flatMap kSh.cells).length = m * 2 := by
    rw [List.length_flatMap]; have e : (Ms.map fun a => (kSh.cells a).length) = List.replicate Ms.length 2 := by
     rw [List.map_congr_left (g := fun _ => 2) (fun a _ => kSh.len a), List.map_const']
    rw [e, f1]; simp
   obtain ⟨v', w', hrun, hown', hgrow, _, hloc⟩ := run_append_own_at (P := Tryz.prog) (w := w) 0 99 ty 95 i _ 2 32 Tryz.underlying99 hi hz hsz hby rfl (by decide) _ n (Ls.flatMap kSh.cells) ho ⟨g, 0, none⟩ m d (Ms.flatMap kSh.cells) hlen f2 (fun u hu => by
    obtain ⟨L, _, hL⟩ := List.mem_flatMap.1 hu; exact kSh.one L u hL)
    (by unfold maxLen; omega) (by omega) (Nat.zero_le _)
   rw [← List.flatMap_append] at hown'; have hv : ∃ A' c', v' = .slice A' (n + m) c' := by
    rcases hown'.2 with ⟨rfl, h⟩ | ⟨g, cap, cur, rfl, _⟩
    · omega
    · exact ⟨_, _, rfl⟩
   obtain ⟨A', c', rfl⟩ := hv; have eb : ∀ (A : Option Addr) n c, (Value.slice A n c).ownBlock = blkOf A := fun A n c => by cases A <;> rfl
   rw [eb] at hgrow; rw [eb, eb] at hloc; have hk : ∀ {L : LayS} {x : Sheet}, kSh.R w L x → kSh.R w' L x := fun {L x} hR => ⟨hR.1, hR.2.keep fun g' hg' => hgrow.block g' (hR.2.cl hg').lt fun e => by
    have := (hcl g' e.symm).uniq (hR.2.cl hg'); exact sheet_u8 this⟩
   have hYl := hr.1; refine ⟨A', c', w', hrun, ⟨Ls ++ Ms, by simp [e1, f1], by simp [e2, hYl], hown', fun k k1 k2 => ?_⟩, Turned.of_grown hgrow (fun j hj => hj), fun g hg => ?_⟩
   · by_cases hkn : k < n
     · rw [List.getElem_append_left (by omega), List.getElem_append_left (by omega)]; exact hk (hrd k (by omega) (by omega))
     · rw [List.getElem_append_right (by omega), List.getElem_append_right (by omega)]; simp only [e1, e2]; exact hk (f3 (k - n) (by simp at k1; omega) (by simp at k2; omega))
   · rcases hloc with h1 | h1
     · exact .inl (h1 ▸ hg)
     · rw [h1] at hg; cases hg; exact .inr (Nat.le_refl _)
theorem wp_append_sh {w : World} {o : Oper} {a : Act} {K : Act → World → Prop} {Q : Exit → Act → World → Prop} (s x : Operand) (ho : o.op = .call { callee := .builtin .append, args := #[s, x], argTypes := #[99, 99] })
 {A B : Option Addr} {n c m d : Nat} {X Y : List Sheet} (hs : a.eval s = .slice A n c) (hx : a.eval x = .slice B m d) (h : OwSh w A n c X) (hr : RdSh w B m Y) (hm : n + m ≤ 1000000)
 (hK : ∀ A' c' w', OwSh w' A' (n + m) c' (X ++ Y) → Turned w w' (fun j => blkOf A = some j) → (∀ g, blkOf A' = some g → blkOf A = some g ∨ w.heap.size ≤ g) → K (a.put o.dst (.slice A' (n + m) c')) w') : o.wp Tryz.prog a w K Q := by
 obtain ⟨A', c', w', hrun, h2, h3, h4⟩ := run_append_sh h hr hm o.type (d := d); unfold Oper.wp execOp; simp only [ho, resolve, invoke, builtin, Sem.run_bind, Sem.run_pure, Result.andThen_ok, List.map_toArray, List.map_cons, List.map_nil, hs, hx, hrun]; exact hK A' c' w' h2 h3 h4
theorem RdSh.one (w : World) (id : Int) (B : Option Addr) (c : Nat) (xs : List UInt8) (h : OwB w B 256 c xs) : RdSh (w.alloc (.cells #[.int .i64 id, .slice B 256 c] 95)) (some ⟨w.heap.size, 0, none⟩) 1 [(id, xs)] := by
 have hb := Blk.new w 95 #[.int .i64 id, .slice B 256 c]; refine ⟨rfl, fun _ => ⟨_, rfl, hb.cl, fun k hk => ?_⟩⟩; obtain rfl : k = 0 := by simpa using hk
 exact ⟨B, c, hb.cell 0, hb.cell 1, h.below ((Below.refl _ w).alloc (Nat.le_refl _) _)⟩
def SaySh (a w : World) (A : Option Addr) (n c : Nat) (l : List Sheet) : Prop := OwSh w A n c l ∧ Below a.heap.size a w ∧ ∀ g, blkOf A = some g → a.heap.size ≤ g
theorem SaySh.nil_ (w : World) : SaySh w w none 0 0 [] := ⟨OwSh.nil_ w, Below.refl _ _, fun g h => by cases h⟩
theorem SaySh.step {a w w1 w2 : World} {A A' : Option Addr} {n c n' c' : Nat} {X Y : List Sheet} (h : SaySh a w A n c X) (hb : Below w.heap.size w w1) (h2 : OwSh w2 A' n' c' Y) (t : Turned w1 w2 (fun j => blkOf A = some j)) (hg : ∀ g, blkOf A' = some g → blkOf A = some g ∨ w1.heap.size ≤ g) : SaySh a w2 A' n' c' Y := by
 have hB : Below a.heap.size a w1 := h.2.1.trans (hb.mono h.2.1.size); refine ⟨h2, t.only_new hB hB.size (fun i hi => h.2.2 i hi), fun g e => ?_⟩; rcases hg g e with k | k
 · exact h.2.2 g k
 · exact Nat.le_trans hB.size k
end Go.Proofs.YtblbhhijddcbeaaGreatDoor
end
