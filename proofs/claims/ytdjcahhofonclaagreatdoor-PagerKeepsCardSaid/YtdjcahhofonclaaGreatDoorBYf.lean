/-
  Texts laid together: Yf PagerKeepsWalk.
-/
import Derived.Test.YtdjcahhofonclaaGreatDoorBQw
import Derived.ArgAppend
import Derived.Test.YtdjcahhofonclaaGreatDoorBRows2
section
/-
  A slice of kept pages that loses one of them; it is the law's own, or full.
-/
namespace Go.Proofs.YtdjcahhofonclaaGreatDoor
open Go.ChangeShapes Go.WideShapes Go.ChangeAt Go.RowKit
set_option linter.unusedVariables false
set_option linter.unusedSimpArgs false

/-- Its own, or full (then it may lie in the midst of a block). -/
def BK (w : World) (A : Option Addr) (n c : Nat) (l : List Kept) : Prop := (OwK w A n c l ∧ n ≤ c) ∨ (RdK w A n l ∧ c = n ∧ (∃ b o, A = some ⟨b, o, none⟩ ∧ b < w.heap.size) ∧ ∀ g, blkOf A = some g → Cl w g 35)
section
variable {w w' : World} {A : Option Addr} {n c : Nat} {l : List Kept}
theorem OwK.le (h : OwK w A n c l) : n ≤ c := by
  rcases h.2.2 with ⟨hv, h0⟩ | ⟨g, cap, cur, hv, _, _, hc, _⟩
  · omega
  · injection hv with _ _ e; rw [e]; exact hc
theorem BK.reads (h : BK w A n c l) : RdK w A n l := by
  rcases h with h | h
  · exact h.1.reads
  · exact h.1
theorem BK.le (h : BK w A n c l) : n ≤ c := by
  rcases h with h | h
  · exact h.2
  · omega
theorem BK.cl (h : BK w A n c l) {g : Nat} (hg : blkOf A = some g) : Cl w g 35 := by
  rcases h with h | h
  · exact h.1.cl hg
  · exact h.2.2.2 g hg
theorem RdK.turned (h : RdK w A n l) (hc : ∀ g, blkOf A = some g → Cl w g 35) {T : Nat → Prop} (t : Turned w w' T) (hn : ∀ b, Cl w b 35 → ¬ T b) : RdK w' A n l := ⟨h.1, fun h0 => by
  obtain ⟨b, o, e, hx⟩ := h.2 h0
  refine ⟨b, o, e, fun j u hu => ?_⟩
  have h1 := hc b (by rw [e]; rfl)
  have h2 := t.block b h1.lt (hn b h1)
  have h3 := hx j u hu
  unfold World.cell? at h3 ⊢
  rw [h2]
  exact h3⟩
theorem BK.turned (h : BK w A n c l) {T : Nat → Prop} (t : Turned w w' T) (hn : ∀ b, Cl w b 35 → ¬ T b) : BK w' A n c l := by
  have hcl := fun g => h.cl (g := g)
  rcases h with h | h
  · exact .inl ⟨h.1.turned t hn, h.2⟩
  · obtain ⟨h1, h2, ⟨b, o, e, hb⟩, h4⟩ := h
    refine .inr ⟨h1.turned h4 t hn, h2, ⟨b, o, e, Nat.lt_of_lt_of_le hb t.size⟩, fun g hg => ?_⟩
    obtain ⟨cs, q, hh⟩ := h4 g hg
    exact ⟨cs, q, (t.block g (h4 g hg).lt (hn g (h4 g hg))).trans hh⟩
theorem BK.below (h : BK w A n c l) (hb : Below w.heap.size w w') : BK w' A n c l := h.turned (Turned.of_below hb (fun _ => False)) fun _ _ h => h
theorem flat_take (l : List Kept) (i : Nat) (j : Nat) (u : Value) (h : ((l.take i).flatMap kK.cells)[j]? = some u) : (l.flatMap kK.cells)[j]? = some u := by
  have e : l.flatMap kK.cells = (l.take i).flatMap kK.cells ++ (l.drop i).flatMap kK.cells := by rw [← List.flatMap_append, List.take_append_drop]
  rw [e, List.getElem?_append_left (List.getElem?_eq_some_iff.1 h).1]
  exact h
theorem flat_len (l : List Kept) : (l.flatMap kK.cells).length = l.length * 2 := by
  rw [List.length_flatMap]
  have e : (l.map fun a => (kK.cells a).length) = List.replicate l.length 2 := by
    rw [List.map_congr_left (g := fun _ => 2) (fun a _ => kK.len a), List.map_const']
  rw [e]
  simp
theorem RdK.take (h : RdK w A n l) {i : Nat} (hi : i ≤ n) : RdK w A i (l.take i) := ⟨by rw [List.length_take, h.1]; omega, fun h0 => by
  obtain ⟨b, o, e, hx⟩ := h.2 (by omega)
  exact ⟨b, o, e, fun j u hu => hx j u (flat_take l i j u hu)⟩⟩
theorem RdK.drop (h : RdK w A n l) {k : Nat} (hk : k < n) {b o : Nat} (e : A = some ⟨b, o, none⟩) : RdK w (some ⟨b, o + k * 2, none⟩) (n - k) (l.drop k) := ⟨by rw [List.length_drop, h.1], fun _ => by
  obtain ⟨b', o', e', hx⟩ := h.2 (by omega)
  rw [e] at e'
  cases e'
  refine ⟨b, o + k * 2, rfl, fun j u hu => ?_⟩
  have hs : l.flatMap kK.cells = (l.take k).flatMap kK.cells ++ (l.drop k).flatMap kK.cells := by rw [← List.flatMap_append, List.take_append_drop]
  have hl : ((l.take k).flatMap kK.cells).length = k * 2 := by rw [flat_len, List.length_take, h.1]; congr 1; omega
  have := hx (k * 2 + j) u (by rw [hs, List.getElem?_append_right (by omega), hl, Nat.add_sub_cancel_left]; exact hu)
  rw [← Nat.add_assoc] at this
  exact this⟩
end
/-- What is appended onto a full slice. -/
theorem run_append_full {w : World} {b o i : Nat} {B : Option Addr} {m d : Nat} {X Y : List Kept} (h : RdK w (some ⟨b, o, none⟩) i X) (hlt : b < w.heap.size) (hcl : Cl w b 35) (hr : RdK w B m Y) (hm : i + m ≤ 1000000) (ty : TypeId) :
    ∃ A' c' w', (Builtin.append_ #[31, 31] ty #[.slice (some ⟨b, o, none⟩) i i, .slice B m d]).run Tryz.prog w = .ok (.slice A' (i + m) c') w' ∧ BK w' A' (i + m) c' (X ++ Y) ∧ Below w.heap.size w w' ∧ (∀ g, blkOf A' = some g → g = b ∨ w.heap.size ≤ g) := by
  obtain ⟨q, hi, hz, hsz, hby⟩ := info_parts keptInfo
  rcases Nat.eq_zero_or_pos m with h0 | h0
  · subst h0
    obtain rfl : Y = [] := List.eq_nil_of_length_eq_zero hr.1
    refine ⟨some ⟨b, o, none⟩, i, w, ?_, ?_, Below.refl _ _, fun g hg => .inl (by cases hg; rfl)⟩
    · have ht := Tryz.underlying31
      cases B <;> simp [Builtin.append_, run_underlying ht, sizeOf, typeInfo, hi, hsz, Builtin.lenOf, Builtin.firstCells, loadCells, loadCellsFrom, storeCells]
    · rw [List.append_nil]
      exact .inr ⟨h, rfl, ⟨b, o, rfl, hlt⟩, fun g hg => by cases hg; exact hcl⟩
  · obtain ⟨b2, o2, rfl, f2⟩ := hr.2 h0
    obtain ⟨v', w', hrun, hown, hgrow⟩ := Go.run_append_arg_grows (P := Tryz.prog) (w := w) 31 ty 35 q _ 2 24 Tryz.underlying31 hi hz hsz hby rfl (by decide) ⟨b, o, none⟩ i i (X.flatMap kK.cells) (by rw [flat_len, h.1]) (fun j u hu => by
        rcases Nat.eq_zero_or_pos i with hi0 | hi0
        · have : X = [] := List.eq_nil_of_length_eq_zero (by rw [h.1, hi0])
          rw [this] at hu
          simp at hu
        · obtain ⟨b', o', e', hx⟩ := h.2 hi0
          cases e'
          rw [add_at]
          exact hx j u hu) ⟨b2, o2, none⟩ m d (Y.flatMap kK.cells) (by rw [flat_len, hr.1]) (fun j u hu => by rw [add_at]; exact f2 j u hu) (by omega) (by unfold maxLen; omega) (by omega)
    rw [← List.flatMap_append] at hown
    have hbel : Below w.heap.size w w' := ⟨hgrow.os, hgrow.tape, hgrow.output, hgrow.size, fun j hj => hgrow.block j hj (by simp)⟩
    rcases hown.2 with ⟨rfl, h1⟩ | ⟨g, cap, cur, rfl, hg, hh, hrest⟩
    · omega
    · refine ⟨some ⟨g, 0, none⟩, cap, w', hrun, .inl ⟨⟨by rw [List.length_append, h.1, hr.1], hown.1, .inr ⟨g, cap, cur, rfl, Nat.zero_le _, hh, hrest⟩⟩, hrest.1⟩, hbel, fun g' hg' => by cases hg'; exact .inr hg⟩
theorem BK.form {w : World} {A : Option Addr} {n c : Nat} {l : List Kept} (h : BK w A n c l) (h0 : 0 < n) : ∃ b o, A = some ⟨b, o, none⟩ ∧ b < w.heap.size ∧ Cl w b 35 := by
  obtain ⟨b, o, e, _⟩ := h.reads.2 h0
  have hc := h.cl (g := b) (by rw [e]; rfl)
  exact ⟨b, o, e, hc.lt, hc⟩
/-- b[:i:i], then b[i+1:]... -/
theorem run_append_cut {w : World} {b o n c i : Nat} {l : List Kept} (h : BK w (some ⟨b, o, none⟩) n c l) (hi : i < n) (hn : n ≤ 100000) (B : Option Addr) (hB : B = if c = i + 1 then some ⟨b, o, none⟩ else some ⟨b, o + (i + 1) * 2, none⟩) (d : Nat) (ty : TypeId) :
    ∃ A' c' w', (Builtin.append_ #[31, 31] ty #[.slice (some ⟨b, o, none⟩) i i, .slice B (n - (i + 1)) d]).run Tryz.prog w = .ok (.slice A' (n - 1) c') w' ∧ BK w' A' (n - 1) c' (l.take i ++ l.drop (i + 1)) ∧ Below w.heap.size w w' ∧ (∀ g, blkOf A' = some g → g = b ∨ w.heap.size ≤ g) := by
  have hc := h.cl (g := b) rfl
  have hr := h.reads
  have hle := h.le
  have hs : RdK w B (n - (i + 1)) (l.drop (i + 1)) := by
    rcases Nat.eq_zero_or_pos (n - (i + 1)) with h0 | h0
    · rw [h0]
      exact ⟨by rw [List.length_drop, hr.1]; exact h0, fun hx => absurd hx (by omega)⟩
    · rw [hB, if_neg (by omega)]
      exact hr.drop (by omega) rfl
  have := run_append_full (hr.take (Nat.le_of_lt hi)) hc.lt hc hs (by omega) ty (d := d)
  rw [show i + (n - (i + 1)) = n - 1 by omega] at this
  exact this
theorem run_append_bk {w : World} {A B : Option Addr} {n c m d : Nat} {X Y : List Kept} (h : BK w A n c X) (hr : RdK w B m Y) (hm : n + m ≤ 1000000) (ty : TypeId) :
    ∃ A' c' w', (Builtin.append_ #[31, 31] ty #[.slice A n c, .slice B m d]).run Tryz.prog w = .ok (.slice A' (n + m) c') w' ∧ BK w' A' (n + m) c' (X ++ Y) ∧ Turned w w' (fun j => blkOf A = some j) ∧ (∀ g, blkOf A' = some g → blkOf A = some g ∨ w.heap.size ≤ g) := by
  rcases h with h | h
  · obtain ⟨A', c', w', h1, h2, h3, h4⟩ := run_append_k h.1 hr hm ty (d := d)
    exact ⟨A', c', w', h1, .inl ⟨h2, h2.le⟩, h3, h4⟩
  · obtain ⟨h1, rfl, ⟨b, o, rfl, hb⟩, h4⟩ := h
    obtain ⟨A', c', w', k1, k2, k3, k4⟩ := run_append_full h1 hb (h4 b rfl) hr hm ty (d := d)
    exact ⟨A', c', w', k1, k2, Turned.of_below k3 _, fun g hg => by
      rcases k4 g hg with e | e
      · exact .inl (by rw [e]; rfl)
      · exact .inr e⟩
theorem wp_append_run {w w' : World} {o : Oper} {a : Act} {K : Act → World → Prop} {Q : Exit → Act → World → Prop} (s x : Operand) (ho : o.op = .call { callee := .builtin .append, args := #[s, x], argTypes := #[31, 31] })
    {vs vx v : Value} (hs : a.eval s = vs) (hx : a.eval x = vx) (hrun : (Builtin.append_ #[31, 31] o.type #[vs, vx]).run Tryz.prog w = .ok v w') (hK : K (a.put o.dst v) w') : o.wp Tryz.prog a w K Q := by
  unfold Oper.wp execOp
  simp only [ho, resolve, invoke, builtin, Sem.run_bind, Sem.run_pure, Result.andThen_ok, List.map_toArray, List.map_cons, List.map_nil, hs, hx, hrun]
  exact hK
theorem OwK.none_new (w : World) : OwK (w.alloc (.cells #[] 35)) (some ⟨w.heap.size, 0, none⟩) 0 0 [] :=
  ⟨rfl, rfl, .inr ⟨w.heap.size, 0, #[], rfl, Nat.zero_le _, Blk.new w 35 #[], Nat.le_refl _, Nat.zero_le _, rfl, rfl⟩⟩
theorem wpList_append_bk {w : World} {ops : Array Oper} {rest : List Oper} {o : Oper} {a : Act} {Q : Exit → Act → World → Prop} (hgd : o.guard = none) (s x : Operand) (ho : o.op = .call { callee := .builtin .append, args := #[s, x], argTypes := #[31, 31] })
    {A B : Option Addr} {n c m d : Nat} {X Y : List Kept} (hs : a.eval s = .slice A n c) (hx : a.eval x = .slice B m d) (h : BK w A n c X) (hr : RdK w B m Y) (hm : n + m ≤ 1000000)
    (hK : ∀ A' c' w', BK w' A' (n + m) c' (X ++ Y) → Turned w w' (fun j => blkOf A = some j) → (∀ g, blkOf A' = some g → blkOf A = some g ∨ w.heap.size ≤ g) → wpList Tryz.prog ops Q rest (a.put o.dst (.slice A' (n + m) c')) w') : wpList Tryz.prog ops Q (o :: rest) a w :=
  wpList_plain hgd fun _ hK' => by
    obtain ⟨A', c', w', hrun, h2, h3, h4⟩ := run_append_bk h hr hm o.type (d := d)
    exact wp_append_run s x ho hs hx hrun (hK' _ _ (hK A' c' w' h2 h3 h4))
theorem OwK.turned_at {w w' : World} {A : Option Addr} {n c : Nat} {l : List Kept} (h : OwK w A n c l) {T : Nat → Prop} (t : Turned w w' T) (hn : ∀ g, blkOf A = some g → ¬ T g) : OwK w' A n c l := by
  have hcl := fun g => h.cl (g := g)
  obtain ⟨h1, ho⟩ := h
  refine ⟨h1, ho.1, ?_⟩
  rcases ho.2 with h0 | ⟨g, cap, cur, hv, hb, hh, r⟩
  · exact .inl h0
  · refine .inr ⟨g, cap, cur, hv, hb, ?_, r⟩
    injection hv with hA
    have hc := hcl g (by rw [hA]; rfl)
    rw [t.block g hc.lt (hn g (by rw [hA]; rfl))]
    exact hh
theorem Rn.kept_turn {a w w' : World} {p : Pgl} {P : PSt} {S : St} {A : Option Addr} {n c : Nat} {l : List Kept} (h : Rn a w p P S) (hb : BK w A n c l) (hn : ∀ g, blkOf A = some g → a.heap.size ≤ g) (t : Turned w w' (fun j => blkOf A = some j)) : Rn a w' p P S :=
  ⟨h.pg.same t (fun j hj hk => h.pg.not_all (hb.cl hk) (by decide) (by decide) (by decide) (by decide) (by decide) hj) (fun b hc hk => absurd ((hb.cl hk).uniq hc) (by decide)), h.pn, t.only_new h.below h.below.size (fun i hi => hn i hi)⟩
end Go.Proofs.YtdjcahhofonclaaGreatDoor
end

section
/-
  The law PagerKeeps, walked.
-/
namespace Go.Proofs.YtdjcahhofonclaaGreatDoor.pagerKeeps
open Go.ChangeShapes Go.WideShapes Go.ChangeAt Go.RowKit
set_option linter.unusedVariables false
set_option linter.unusedSimpArgs false

theorem kp_below {w w' : World} {A : Option Addr} {n : Nat} {l : List (Int × Int)} (h : Kp w A n l) (hb : Below w.heap.size w w') : Kp w' A n l :=
  ⟨h.1, h.2.1, h.2.2.imp id fun ⟨b, o, e, hc⟩ => ⟨b, o, e, fun i hi => ⟨(hb.cell (World.block_lt_of_cell? w _ (hc i hi).1)).trans (hc i hi).1, (hb.cell (World.block_lt_of_cell? w _ (hc i hi).2)).trans (hc i hi).2⟩⟩⟩
set_option maxRecDepth 100000 in
set_option maxHeartbeats 8000000 in
theorem walk_out (w : World) (hF : Fours w) (a fu : Int) (A1 : Option Addr) (n1 c1 : Nat) (A2 : Option Addr) (n2 c2 : Nat) (A3 : Option Addr) (n3 c3 : Nat) (A5 : Option Addr) (n5 c5 : Nat) (hs : 20 < n1 ∨ 20 < n2 ∨ 40 < n3 ∨ 60 < n5) (h1 : n1 ≤ maxLen) (h2 : n2 ≤ maxLen) (h3 : n3 ≤ maxLen) (h5 : n5 ≤ maxLen) :
    Calls Tryz.prog 3 #[.int .i64 a, .slice A1 n1 c1, .slice A2 n2 c2, .slice A3 n3 c3, .int .i64 fu, .slice A5 n5 c5] w fun e w' => e = .returned (.bool true) ∧ Below w.heap.size w w' := by
  have HLV := kept (fun (W : World) (hb : Below w.heap.size w W) => lives_any W (hF.below hb))
  unfold maxLen at h1 h2 h3 h5
  clear hF
  by_cases k0 : 20 < n1
  · have hy0 : decide ((20 : Int) < (n1 : Int)) = true := by simp; omega
    have hz0 : 20 < n1 := by omega
    go_enter Tryz.func3, Tryz.ntmps3
    go_wp2_with (first | (go_at_call 8; first | ((with_reducible refine (HLV.out w (Below.refl _ _)).mono ?_); rintro e w1 ⟨rfl, hb1⟩; have HB1 := kept hb1; clear hb1) | ((with_reducible refine (HLV.out _ HB1.out).mono ?_); rintro e w2 ⟨rfl, hb2⟩; have HB2 := kept hb2; clear hb2)))
    go_ret
    exact ⟨rfl, HB1.out.trans (HB2.out.mono HB1.out.size)⟩
  · have hx0 : decide ((20 : Int) < (n1 : Int)) = false := by simp; omega
    by_cases k1 : 20 < n2
    · have hy1 : decide ((20 : Int) < (n2 : Int)) = true := by simp; omega
      have hz1 : 20 < n2 := by omega
      go_enter Tryz.func3, Tryz.ntmps3
      go_wp2_with (first | (go_at_call 8; first | ((with_reducible refine (HLV.out w (Below.refl _ _)).mono ?_); rintro e w1 ⟨rfl, hb1⟩; have HB1 := kept hb1; clear hb1) | ((with_reducible refine (HLV.out _ HB1.out).mono ?_); rintro e w2 ⟨rfl, hb2⟩; have HB2 := kept hb2; clear hb2)))
      go_ret
      exact ⟨rfl, HB1.out.trans (HB2.out.mono HB1.out.size)⟩
    · have hx1 : decide ((20 : Int) < (n2 : Int)) = false := by simp; omega
      by_cases k2 : 40 < n3
      · have hy2 : decide ((40 : Int) < (n3 : Int)) = true := by simp; omega
        have hz2 : 40 < n3 := by omega
        go_enter Tryz.func3, Tryz.ntmps3
        go_wp2_with (first | (go_at_call 8; first | ((with_reducible refine (HLV.out w (Below.refl _ _)).mono ?_); rintro e w1 ⟨rfl, hb1⟩; have HB1 := kept hb1; clear hb1) | ((with_reducible refine (HLV.out _ HB1.out).mono ?_); rintro e w2 ⟨rfl, hb2⟩; have HB2 := kept hb2; clear hb2)))
        go_ret
        exact ⟨rfl, HB1.out.trans (HB2.out.mono HB1.out.size)⟩
      · have hx2 : decide ((40 : Int) < (n3 : Int)) = false := by simp; omega
        have hy3 : decide ((60 : Int) < (n5 : Int)) = true := by simp; omega
        have hz3 : 60 < n5 := by omega
        go_enter Tryz.func3, Tryz.ntmps3
        go_wp2_with (first | (go_at_call 8; first | ((with_reducible refine (HLV.out w (Below.refl _ _)).mono ?_); rintro e w1 ⟨rfl, hb1⟩; have HB1 := kept hb1; clear hb1) | ((with_reducible refine (HLV.out _ HB1.out).mono ?_); rintro e w2 ⟨rfl, hb2⟩; have HB2 := kept hb2; clear hb2)))
        go_ret
        exact ⟨rfl, HB1.out.trans (HB2.out.mono HB1.out.size)⟩
set_option maxRecDepth 100000 in
set_option maxHeartbeats 16000000 in
theorem walked_law (w : World) (hF : Fours w) (a fu : Int) (A1 : Option Addr) (n1 c1 : Nat) (X1 : Nat → ByteArray) (r1 : RdVals w A1 n1 (fun i => .string (X1 i))) (x1 : ∀ i, i < n1 → (X1 i).size ≤ maxLen) (A2 : Option Addr) (n2 c2 : Nat) (X2 : Nat → ByteArray) (r2 : RdVals w A2 n2 (fun i => .string (X2 i))) (x2 : ∀ i, i < n2 → (X2 i).size ≤ maxLen)
    (A3 : Option Addr) (n3 c3 : Nat) (Z : Nat → Int) (r3 : RdVals w A3 n3 (fun i => .int .i64 (Z i))) (A5 : Option Addr) (n5 c5 : Nat) (kl : List (Int × Int)) (r5 : Kp w A5 n5 kl) (h1 : n1 ≤ 20) (h2 : n2 ≤ 20) (h3 : n3 ≤ 40) (h5 : n5 ≤ 60) :
    Calls Tryz.prog 3 #[.int .i64 a, .slice A1 n1 c1, .slice A2 n2 c2, .slice A3 n3 c3, .int .i64 fu, .slice A5 n5 c5] w fun e w' => e = .returned (.bool true) ∧ Below w.heap.size w w' := by
  have HLV := kept (lives_any w hF)
  have HFW := kept (fun (W : World) (hb : Below w.heap.size w W) => (hF.below hb : Fours W))
  have hb1 : decide ((20 : Int) < (n1 : Int)) = false := by simp; omega
  have hb2 : decide ((20 : Int) < (n2 : Int)) = false := by simp; omega
  have hb3 : decide ((40 : Int) < (n3 : Int)) = false := by simp; omega
  have hb5 : decide ((60 : Int) < (n5 : Int)) = false := by simp; omega
  obtain ⟨r, hr, hat0⟩ := placed7 a 100 (by omega) (by omega)
  have hat : wrap64 ((IntKind.u64.wrap a).tmod 100) = (r : Int) := hat0
  obtain ⟨z, hz⟩ : ∃ z, 8 + r = z := ⟨_, rfl⟩
  have hatz : wrap64 (8 + (r : Int)) = (z : Int) := by rw [IntWalk.wrap64_in _ ⟨by omega, by omega⟩]; omega
  have hz8 : 8 ≤ z ∧ z ≤ 108 := by omega
  obtain ⟨fq, hfq, hatf0⟩ := placed7 fu 60 (by omega) (by omega)
  have HATF : Hid (wrap64 ((IntKind.u64.wrap fu).tmod 60) = (fq : Int)) := kept hatf0
  have HMD := kept (fun (W : World) (hb : Below w.heap.size w W) => made_any z W (by omega) (by omega) (hF.below hb))
  have HR3 := kept (fun (W : World) (hb : Below w.heap.size w W) => (show RdVals W A3 n3 (fun i => .int .i64 (Z i)) from r3.below hb))
  have HKP5 := kept (fun (W : World) (hb : Below w.heap.size w W) => (show Kp W A5 n5 kl from kp_below r5 hb))
  have HAK1 := kept (fun (W : World) (p : Pgl) (B P : PSt) (S : St) (el : Mt) (h : Rn w W p P S) (hs : Ses S B P el) (ht : P.M.txn + 1 < 18446744073709551616) => addk_any h hs ht hF A1 n1 c1 X1 r1 x1 (by omega))
  have HAK2 := kept (fun (W : World) (p : Pgl) (B P : PSt) (S : St) (el : Mt) (h : Rn w W p P S) (hs : Ses S B P el) (ht : P.M.txn + 1 < 18446744073709551616) => addk_any h hs ht hF A2 n2 c2 X2 r2 x2 (by omega))
  clear hF hat0 hatf0 hz hr r1 r2 r3 r5 x1 x2
  go_enter Tryz.func3, Tryz.ntmps3
  go_wp2_with (first | (go_at_call 8; (with_reducible refine (HLV.out).mono ?_); rintro e w1 ⟨rfl, hb1⟩; have HB1 := kept hb1 ; clear hb1) | (go_at_call 9; (with_reducible refine ((HMD.out _ HB1.out)).mono ?_); rintro e w2 ⟨p0, rfl, h2⟩))
  obtain ⟨f1, f2, f3, f4, f5⟩ := formatted_spec z hz8.1 (by omega)
  have HR2 : Hid (Rn w w2 p0 (baseP z) (formatted z)) := kept ⟨h2.out.1, fun j hj => Nat.le_trans HB1.out.size (h2.out.2.2 j hj), HB1.out.trans (h2.out.2.1.mono HB1.out.size)⟩
  have HSE0 := kept (base_ses z hz8.1 (by omega : z ≤ 1024))
  have HFU := kept f2
  have HLN := kept f3
  have HDN := kept f4
  have HTX : Hid ((baseP z).M.txn = 1 ∧ (baseP z).root = 0) := kept ⟨rfl, rfl⟩
  clear h2 f1 f2 f3 f4 f5 HLV HMD hat hatz
  generalize baseP z = B0 at HR2 HSE0 HTX
  generalize formatted z = S0 at HR2 HSE0 HFU HLN HDN
  generalize meta0 z = el0 at HSE0
  generalize (IntKind.u64.wrap a).tmod 100 = rr1
  generalize IntKind.u64.wrap a = rr2
  obtain ⟨q0, hq0⟩ : ∃ q, p0.r = q := ⟨_, rfl⟩
  obtain ⟨dq, hdq⟩ : ∃ q, p0.d.r = q := ⟨_, rfl⟩
  have HAD := kept (HAK1.out w2 p0 B0 B0 S0 el0 HR2.out HSE0.out (by rw [HTX.out.1]; decide))
  have HQ0 := kept hq0
  have HDQ := kept hdq
  rw [hq0] at HAD
  rw [hq0, hdq]
  clear hq0 hdq
  go_wp2_with fail
  with_reducible refine HAD.out.mono ?_
  rintro e w3 ⟨A4, n4, c4, l4, P1, rfl, h3⟩
  obtain ⟨p1, e1, d1, hrn⟩ := HR2.out.step h3.out.1
  have HP1 : Hid (p1.r = q0 ∧ p1.d.r = dq) := kept ⟨e1.trans HQ0.out, by rw [d1]; exact HDQ.out⟩
  have HRN := kept hrn
  have HAD1 := kept h3.out.2.1
  have HKP3 := kept h3.out.2.2.1
  have HN4 : Hid (n4 ≤ 20) := kept (by have := h3.out.2.2.2.2; omega)
  have hn4b := HN4.out
  clear h3 hrn e1 d1 HAD HR2 HSE0 HAK1 HB1 HQ0 HDQ
  rcases Nat.eq_zero_or_pos n4 with hn4 | hn4
  · subst hn4
    have HSS := kept HAD1.out.ses
    have HE2 : Hid (P1.M.txn = 1 ∧ P1.root = 0) := kept ⟨by rw [HAD1.out.M, HTX.out.1], by rw [HAD1.out.root, HTX.out.2]⟩
    have HBS := kept HAD1.out.new
    have HND := kept HAD1.out.nd
    clear HAD1
    go_wp2_with fail
    have HRT := kept (root_any HRN.out.pg)
    have HCM := kept (commit_ses HRN.out.pg HSS.out HFU.out (by rw [HE2.out.1]; decide) (by have := HDN.out; omega) (HFW.out _ HRN.out.below))
    rw [HP1.out.1] at HCM HRT
    have hkb : 0 + 0 ≤ 1000000 := by omega
    go_wp2_with (first | (go_at_call 12; (with_reducible refine (HRT.out).mono ?_); rintro e w5 ⟨rfl, rfl⟩) | (go_at_call 13; (with_reducible refine (HCM.out).mono ?_); rintro e w5 ⟨rfl, h5⟩; obtain ⟨p5, e5, d5, k5⟩ := HRN.out.step h5.out; have HR5 := kept k5; have HP5 : Hid (p5.r = q0 ∧ p5.d.r = dq) := kept ⟨e5.trans HP1.out.1, by rw [d5]; exact HP1.out.2⟩; have HK5 := kept (HKP3.out.turned h5.out.choose_spec.2.2.2.1 (fun b hb hj => HRN.out.pg.not_all hb (by decide) (by decide) (by decide) (by decide) (by decide) hj)); have HTN := kept (txn_any k5.pg); rw [HP5.out.1] at HTN; clear h5 k5 e5 d5) | (go_at_call 14; (with_reducible refine (HTN.out).mono ?_); rintro e w6 ⟨rfl, rfl⟩) | (at_builtin; refine wpList_append_k rfl _ _ rfl rfl rfl (OwK.none_new w5) (HK5.out.below ((Below.refl _ w5).alloc (Nat.le_refl _) _)).reads hkb ?_; intro A7 c7 w7 h7 t7 g7; have HB7 : Hid (Below w5.heap.size w5 w7) := kept (t7.only_new ((Below.refl _ w5).alloc (Nat.le_refl _) _) (by simp) (fun i hi => by cases hi; exact Nat.le_refl _)); have H7 := kept h7; have HG7 : Hid (∀ g, blkOf A7 = some g → w.heap.size ≤ g ∧ ¬ blkOf A4 = some g) := kept (fun g hg => by have h0 : w5.heap.size ≤ g := (by rcases g7 g hg with e | e; cases e; exact Nat.le_refl _; exact Nat.le_trans (by simp) e); exact ⟨Nat.le_trans HR5.out.below.size h0, fun e => by have := (HK5.out.cl e).lt; omega⟩); clear h7 t7 g7))
    have hok2 := HRN.out.pg.ok
    have hlo2 := HRN.out.pg.lst.1
    obtain ⟨u1, u2, u3, u4, u5, u6⟩ := HSS.out.commit hok2 hlo2 (by rw [HE2.out.1]; decide) HFU.out
    have HSE1 : Hid (Ses (commitR P1 S0).1 (nextP P1) (nextP P1) B0.M ∧ (nextP P1).M = (nextP P1).M ∧ (l4.map (·.1)).Nodup ∧ ∀ x ∈ l4, Bears (nextP P1) (commitR P1 S0).1 x) := kept ⟨u3, rfl, HND.out, fun x hx => (HBS.out x hx).commit hok2 (by rw [HLN.out]; omega) u4 u5⟩
    have HFU1 := kept u2
    have HLN1 : Hid ((commitR P1 S0).1.pages.length = z) := kept (u5.trans HLN.out)
    have HDN1 : Hid ((commitR P1 S0).1.done ≤ 4100) := kept (by have := HDN.out; omega)
    have HQ1 : Hid ((nextP P1).M.txn = 2 ∧ (nextP P1).root = (0 : Int) ∧ (nextP P1).add = fun _ => none) := kept ⟨by show (P1).M.txn + 1 = 2; rw [HE2.out.1], HE2.out.2, rfl⟩
    have htx2 : (nextP P1).M.txn = 2 := HQ1.out.1
    have hrt2 : (P1).root = (0 : Int) := HE2.out.2
    have HR7 := kept (HR5.out.on HB7.out)
    have HK7 := kept (HK5.out.below HB7.out)
    have HBK : Hid (BK w7 A7 (0 + 0) c7 l4) := kept (.inl ⟨H7.out, H7.out.le⟩)
    rw [Nat.zero_add] at HBK
    have HBE := kept HSE1.out.2.2.2
    rw [htx2, hrt2, show ((2 : Nat) : Int) = 2 from rfl]
    clear hok2 hlo2 u1 u2 u3 u4 u5 u6 htx2 hrt2 HRT HCM HTN HR5 HK5 H7 HB7 HSS HE2 HBS HND HFU HLN HDN
    generalize (commitR P1 S0).1 = S1 at HSE1 HFU1 HLN1 HDN1 HR7 HBE
    generalize nextP P1 = Q at HSE1 HQ1 HR7 HBE
    generalize B0.M = el1 at HSE1
    go_loopw [18, 84] (fun bv i wr => ∃ (j m c : Nat) (A : Option Addr) (lb : List Kept) (P : PSt) (p : Pgl), j ≤ n3 ∧ m ≤ 20 ∧ i = .int .i64 (j : Int) ∧ bv = .slice A m c ∧ p.r = q0 ∧ p.d.r = dq ∧ Hid (Rn w wr p P S1 ∧ BK wr A m c lb ∧ OwK wr A4 0 c4 l4 ∧ ∀ g, blkOf A = some g → w.heap.size ≤ g ∧ ¬ blkOf A4 = some g) ∧ Hid (Ses S1 Q P el1 ∧ P.M = Q.M ∧ (lb.map (·.1)).Nodup ∧ ∀ x ∈ lb, Bears P S1 x)) (fun _ i _ => n3 - (intOf i).toNat)
    case atStart => exact ⟨0, 0, c7, A7, l4, Q, p5, Nat.zero_le _, by omega, rfl, rfl, HP5.out.1, HP5.out.2, kept ⟨HR7.out, HBK.out, HK7.out, HG7.out⟩, HSE1⟩
    case round =>
      obtain ⟨j, m, c, A, lb, P, p, hj, hm, rfl, rfl, hp, hpd, HG, HS⟩ := hrel
      clear HR7 HK7 HBK HSE1 HP5
      by_cases hlt : j < n3
      · obtain ⟨b3, o3, hA3, hc3⟩ := (HR3.out wr HG.out.1.below).there hlt
        subst hA3
        by_cases hm0 : m = 0
        · subst hm0
          go_wp2
          go_roundw
          case rel => exact ⟨j + 1, 0, c, A, lb, P, p, by omega, by omega, by go_num, rfl, hp, hpd, HG, HS⟩
          case measure => simp [intOf]; omega
        · have hmp : 0 < m := by omega
          obtain ⟨ix, hix, hati⟩ := placed7 (Z j) m hmp (by omega)
          obtain ⟨b, o, hA, hbl, hbc⟩ := HG.out.2.1.form hmp
          subst hA
          have hll := HG.out.2.1.reads.1
          obtain ⟨b', o', he, k0', k1'⟩ := HG.out.2.1.reads.at_ hix (by omega)
          cases he
          have hbx := HS.out.2.2.2 (lb[ix]'(by omega)) (List.getElem_mem _)
          have HDR := kept (drop_any HG.out.1.pg (lb[ix]'(by omega)).1)
          have hdr0 := hbx.may_drop HG.out.1.pg.ok
          rw [hdr0, hp] at HDR
          have HSN : Hid (Ses S1 Q (dropP P (lb[ix]'(by omega)).1).1 el1 ∧ (dropP P (lb[ix]'(by omega)).1).1.M = Q.M ∧ ((lb.take ix ++ lb.drop (ix + 1)).map (·.1)).Nodup ∧ ∀ x ∈ lb.take ix ++ lb.drop (ix + 1), Bears (dropP P (lb[ix]'(by omega)).1).1 S1 x) := kept (by
            have hcut : lb = lb.take ix ++ lb[ix]'(by omega) :: lb.drop (ix + 1) := by
              rw [List.getElem_cons_drop, List.take_append_drop]
            have hnd := HS.out.2.2.1
            have hnd2 : (lb.map (·.1)) = (lb.take ix).map (·.1) ++ (lb[ix]'(by omega)).1 :: (lb.drop (ix + 1)).map (·.1) := by
              conv => lhs; rw [hcut]
              rw [List.map_append, List.map_cons]
            rw [hnd2, List.nodup_append, List.nodup_cons] at hnd
            obtain ⟨g1, ⟨g2, g3⟩, g5⟩ := hnd
            refine ⟨HS.out.1.drop_ _, by rw [(dropP_same P _).1]; exact HS.out.2.1, ?_, fun x hx => ?_⟩
            · rw [List.map_append, List.nodup_append]
              exact ⟨g1, g3, fun x hx y hy => g5 x hx y (List.mem_cons_of_mem _ hy)⟩
            · rcases List.mem_append.1 hx with hx | hx
              · refine (HS.out.2.2.2 x (List.mem_of_mem_take hx)).drop_ fun e => ?_
                exact g5 x.1 (List.mem_map_of_mem hx) _ (List.mem_cons_self ..) e
              · refine (HS.out.2.2.2 x (List.mem_of_mem_drop hx)).drop_ fun e => ?_
                exact g2 (e ▸ List.mem_map_of_mem hx))
          generalize (dropP P (lb[ix]'(by omega)).1).1 = PN at HDR HSN
          generalize (lb[ix]'(by omega)).1 = id at k0' HDR
          have hcm : m ≤ c := HG.out.2.1.le
          clear hbx hdr0 k1' hll
          go_wp2_with (first | (go_at_call 15; (with_reducible refine (HDR.out).mono ?_); rintro e w8 ⟨rfl, h8⟩))
          obtain ⟨p8, e8, d8, k8⟩ := HG.out.1.step h8.out
          have HR8 := kept k8
          have HP8 : Hid (p8.r = q0 ∧ p8.d.r = dq) := kept ⟨e8.trans hp, by rw [d8]; exact hpd⟩
          have hbk8 := HG.out.2.1.turned h8.out.choose_spec.2.2.2.1 (fun b hb hj => HG.out.1.pg.not_all hb (by decide) (by decide) (by decide) (by decide) (by decide) hj)
          have HK8 := kept (HG.out.2.2.1.turned h8.out.choose_spec.2.2.2.1 (fun b hb hj => HG.out.1.pg.not_all hb (by decide) (by decide) (by decide) (by decide) (by decide) hj))
          obtain ⟨PB, hPB⟩ : ∃ PB : Option Addr, (if c = ix + 1 then some (⟨b, o, none⟩ : Addr) else some ⟨b, o + (ix + 1) * 2, none⟩) = PB := ⟨_, rfl⟩
          have hrun := run_append_cut (hbk8.below (Below.refl w8.heap.size w8).drew) hix (by omega) PB hPB.symm (c - (ix + 1)) 31
          obtain ⟨i1, hi1⟩ : ∃ i1, ix + 1 = i1 := ⟨_, rfl⟩
          have hwi : IntKind.i64.wrap ((ix : Int) + 1) = (i1 : Int) := by rw [IntKind.wrap_i64]; omega
          rw [hi1] at hrun HSN hPB
          have HRUN := kept hrun
          have hk0 : (0 : Int) ≤ (ix : Int) := by omega
          have hk1 : (ix : Int) ≤ (m : Int) := by omega
          have hk2 : (ix : Int) ≤ (c : Int) := by omega
          have hk3 : (m : Int) ≤ (c : Int) := by omega
          have hk4 : (i1 : Int) ≤ (m : Int) := by omega
          have hk5 : (0 : Int) ≤ (i1 : Int) := by omega
          have hkc : ix ≤ c := by omega
          have hkm1 : i1 ≤ m := by omega
          clear hrun h8 k8 e8 d8 hbk8 hbl hbc
          refine wp_region_held_drew (S := (fun _ => True)) (by kernel_rfl) ?_ (fun hHeld => ?_)
          · ((try dsimp only); (try trivial))
          refine hand_take 0 (some 106) ?_ (by kernel_rfl) (by kernel_rfl) (by kernel_rfl) (by kernel_rfl) (by kernel_rfl) (fun _ _ _ h => h) ?_ (by assumption) ?_
          rotate_left
          · (intro o ho w hSw; (simp only [List.getElem?_toArray, List.getElem?_cons_succ, List.getElem?_cons_zero, Option.some.injEq] at ho); subst ho; (try dsimp only at hSw); go_simp; (first | done | with_reducible rfl))
          (try simp only [Act.put, List.setIfInBounds_toArray, List.set_cons_zero, List.set_cons_succ])
          refine hand_take 1 (some 107) ?_ (by kernel_rfl) (by kernel_rfl) (by kernel_rfl) (by kernel_rfl) (by kernel_rfl) (fun _ _ _ h => h) ?_ (by assumption) ?_
          rotate_left
          · (intro o ho w hSw; (simp only [List.getElem?_toArray, List.getElem?_cons_succ, List.getElem?_cons_zero, Option.some.injEq] at ho); subst ho; (try dsimp only at hSw); go_simp; (first | done | with_reducible rfl))
          (try simp only [Act.put, List.setIfInBounds_toArray, List.set_cons_zero, List.set_cons_succ])
          refine hand_take 2 (some 108) ?_ (by kernel_rfl) (by kernel_rfl) (by kernel_rfl) (by kernel_rfl) (by kernel_rfl) (fun _ _ _ h => h) ?_ (by assumption) ?_
          rotate_left
          · (intro o ho w hSw; (simp only [List.getElem?_toArray, List.getElem?_cons_succ, List.getElem?_cons_zero, Option.some.injEq] at ho); subst ho; (try dsimp only at hSw); go_simp; (first | done | with_reducible rfl))
          (try simp only [Act.put, List.setIfInBounds_toArray, List.set_cons_zero, List.set_cons_succ])
          refine hand_take 3 (some 109) ?_ (by kernel_rfl) (by kernel_rfl) (by kernel_rfl) (by kernel_rfl) (by kernel_rfl) (fun _ _ _ h => h) ?_ (by assumption) ?_
          rotate_left
          · (intro o ho w hSw; (simp only [List.getElem?_toArray, List.getElem?_cons_succ, List.getElem?_cons_zero, Option.some.injEq] at ho); subst ho; (try dsimp only at hSw); go_simp; (first | done | with_reducible rfl))
          (try simp only [Act.put, List.setIfInBounds_toArray, List.set_cons_zero, List.set_cons_succ])
          refine hand_take 4 (some 110) ?_ (by kernel_rfl) (by kernel_rfl) (by kernel_rfl) (by kernel_rfl) (by kernel_rfl) (fun _ _ _ h => h) ?_ (by assumption) ?_
          rotate_left
          · (intro o ho w hSw; (simp only [List.getElem?_toArray, List.getElem?_cons_succ, List.getElem?_cons_zero, Option.some.injEq] at ho); subst ho; (try dsimp only at hSw); go_simp; (first | done | with_reducible rfl))
          (try simp only [Act.put, List.setIfInBounds_toArray, List.set_cons_zero, List.set_cons_succ])
          refine hand_take 5 (some 111) ?_ (by kernel_rfl) (by kernel_rfl) (by kernel_rfl) (by kernel_rfl) (by kernel_rfl) (fun _ _ _ h => h) ?_ (by assumption) ?_
          rotate_left
          · (intro o ho w hSw; (simp only [List.getElem?_toArray, List.getElem?_cons_succ, List.getElem?_cons_zero, Option.some.injEq] at ho); subst ho; (try dsimp only at hSw); go_simp; (first | done | with_reducible rfl))
          (try simp only [Act.put, List.setIfInBounds_toArray, List.set_cons_zero, List.set_cons_succ])
          refine hand_take 6 (some 112) ?_ (by kernel_rfl) (by kernel_rfl) (by kernel_rfl) (by kernel_rfl) (by kernel_rfl) (fun _ _ _ h => h) ?_ (by assumption) ?_
          rotate_left
          · (intro o ho w hSw; (simp only [List.getElem?_toArray, List.getElem?_cons_succ, List.getElem?_cons_zero, Option.some.injEq] at ho); subst ho; (try dsimp only at hSw); go_simp; (first | done | with_reducible rfl))
          (try simp only [Act.put, List.setIfInBounds_toArray, List.set_cons_zero, List.set_cons_succ])
          refine hand_take 7 (some 113) ?_ (by kernel_rfl) (by kernel_rfl) (by kernel_rfl) (by kernel_rfl) (by kernel_rfl) (fun _ _ _ h => h) ?_ (by assumption) ?_
          rotate_left
          · (intro o ho w hSw; (simp only [List.getElem?_toArray, List.getElem?_cons_succ, List.getElem?_cons_zero, Option.some.injEq] at ho); subst ho; (try dsimp only at hSw); go_simp; (first | done | with_reducible rfl))
          (try simp only [Act.put, List.setIfInBounds_toArray, List.set_cons_zero, List.set_cons_succ])
          refine hand_ready 8 (by kernel_rfl) (by kernel_rfl) (fun o ho K hK => ?_)
          (simp only [List.getElem?_toArray, List.getElem?_cons_succ, List.getElem?_cons_zero, Option.some.injEq] at ho)
          subst ho
          (obtain ⟨A9, c9, w9, hrun9, hbk9, hb9, hg9⟩ := HRUN.out; refine wp_append_run (.tmp 109) (.tmp 113) rfl rfl rfl hrun9 ?_; have HB9 : Hid (Below w8.heap.size w8 w9) := kept (below_from_drew hb9); have HBK9 := kept hbk9; have HG9 : Hid (∀ g, blkOf A9 = some g → w.heap.size ≤ g ∧ ¬ blkOf A4 = some g) := kept (fun g hg => by rcases hg9 g hg with e | e; subst e; exact HG.out.2.2.2 _ rfl; exact ⟨Nat.le_trans HR8.out.below.size e, fun e2 => by have h5 := (HK8.out.cl e2).lt; have h6 : w8.heap.size ≤ g := e; omega⟩); clear hrun9 hbk9 hb9 hg9)
          refine hK.out _ _ ?_ (fun hHeld => ?_)
          · ((try dsimp only); (try trivial))
          clear hK K
          (try simp only [Act.put, List.setIfInBounds_toArray, List.set_cons_zero, List.set_cons_succ])
          refine hand_take 9 (some 18) ?_ (by kernel_rfl) (by kernel_rfl) (by kernel_rfl) (by kernel_rfl) (by kernel_rfl) (fun _ _ _ h => h) ?_ (by assumption) ?_
          rotate_left
          · (intro o ho w hSw; (simp only [List.getElem?_toArray, List.getElem?_cons_succ, List.getElem?_cons_zero, Option.some.injEq] at ho); subst ho; (try dsimp only at hSw); go_simp; (first | done | with_reducible rfl))
          (try simp only [Act.put, List.setIfInBounds_toArray, List.set_cons_zero, List.set_cons_succ])
          refine wpAnyH_done (by kernel_rfl) ?_ _
          go_wp2
          go_roundw
          case rel => exact ⟨j + 1, m - 1, c9, A9, _, PN, p8, by omega, by omega, by go_num, rfl, HP8.out.1, HP8.out.2, kept ⟨HR8.out.on HB9.out, HBK9.out, HK8.out.below HB9.out, HG9.out⟩, HSN⟩
          case measure => simp [intOf]; omega
      · obtain rfl : j = n3 := by omega
        have HAD2 := kept (HAK2.out wr p Q P S1 el1 HG.out.1 HS.out.1 (by rw [HS.out.2.1, HQ1.out.1]; decide))
        rw [hp] at HAD2
        go_wp2_with fail
        with_reducible refine HAD2.out.mono ?_
        rintro e w10 ⟨A10, m10, c10, l10, P3, rfl, h10⟩
        obtain ⟨p10, e10, d10, k10⟩ := HG.out.1.step h10.out.1
        have HR10 := kept k10
        have HP10 : Hid (p10.r = q0 ∧ p10.d.r = dq) := kept ⟨e10.trans hp, by rw [d10]; exact hpd⟩
        have HBK10 := kept (HG.out.2.1.turned h10.out.1.choose_spec.2.2.2.1 (fun b hb hj => HG.out.1.pg.not_all hb (by decide) (by decide) (by decide) (by decide) (by decide) hj))
        have HK10 := kept (HG.out.2.2.1.turned h10.out.1.choose_spec.2.2.2.1 (fun b hb hj => HG.out.1.pg.not_all hb (by decide) (by decide) (by decide) (by decide) (by decide) hj))
        have HS3 := kept h10.out.2.1.ses
        have HM3 : Hid (P3.M.txn = 2) := kept (by rw [h10.out.2.1.M, HS.out.2.1, HQ1.out.1])
        have HB3 : Hid (∀ x ∈ lb ++ l10, Bears P3 S1 x) := kept (fun x hx => by
          rcases List.mem_append.1 hx with hx | hx
          · exact h10.out.2.1.old x (HS.out.2.2.2 x hx)
          · exact h10.out.2.1.new x hx)
        have HO10 := kept h10.out.2.2.1
        have HA10 := kept HG.out.2.2.2
        have hm10 : m10 ≤ 20 := by have := h10.out.2.2.2.2; omega
        have hmm10 : m + m10 ≤ 1000000 := by omega
        clear h10 k10 e10 d10 HAD2 HG HS
        obtain ⟨N, hN⟩ : ∃ N, m + m10 = N := ⟨_, rfl⟩
        rcases Nat.eq_zero_or_pos N with hN0 | hN0
        · subst hN0
          go_wp2_with (first | (at_builtin; refine wpList_append_bk rfl _ _ rfl rfl rfl HBK10.out HO10.out.reads hmm10 ?_; intro A11 c11 w11 h11 t11 g11; rw [hN] at h11 ⊢; have HBK11 := kept h11; have HR11 := kept (HR10.out.kept_turn HBK10.out (fun g hg => (HA10.out g hg).1) t11); have HK11 := kept (HK10.out.turned_at t11 (fun g hg hb => (HA10.out g hb).2 hg)); clear h11 t11 g11))
          have HRTN : Hid ((0 : Int) = 0 ∨ (2 ≤ (0 : Int) ∧ (0 : Int) < (S1.pages.length : Int))) := kept (.inl rfl)
          have HSR := kept (setRoot_any HR11.out.pg (0 : Int))
          have HS4 := kept (HS3.out.root_ HRTN.out)
          obtain ⟨P4, hP4⟩ : ∃ P4 : PSt, ({ P3 with root := (0 : Int) } : PSt) = P4 := ⟨_, rfl⟩
          have HE4 : Hid (P4.M.txn = 2 ∧ P4.root = (0 : Int)) := kept (by subst hP4; exact ⟨HM3.out, rfl⟩)
          have HB4 : Hid (∀ x ∈ lb ++ l10, Bears P4 S1 x) := kept (fun x hx => by subst hP4; exact (HB3.out x hx).root_ _)
          rw [hP4, HP10.out.1] at HSR
          rw [hP4] at HS4
          clear hP4
          go_wp2_with (first | (go_at_call 11; (with_reducible refine (HSR.out).mono ?_); rintro e w12 ⟨rfl, h12⟩))
          obtain ⟨p12, e12, d12, k12⟩ := HR11.out.step h12.out
          have HR12 := kept k12
          have HP12 : Hid (p12.r = q0 ∧ p12.d.r = dq) := kept ⟨e12.trans HP10.out.1, by rw [d12]; exact HP10.out.2⟩
          have HBK12 := kept (HBK11.out.turned h12.out.choose_spec.2.2.2.1 (fun b hb hj => HR11.out.pg.not_all hb (by decide) (by decide) (by decide) (by decide) (by decide) hj))
          have HK12 := kept (HK11.out.turned h12.out.choose_spec.2.2.2.1 (fun b hb hj => HR11.out.pg.not_all hb (by decide) (by decide) (by decide) (by decide) (by decide) hj))
          have hatf := HATF.out
          simp only [hatf]
          clear hatf
          generalize (IntKind.u64.wrap fu).tmod 60 = rr3
          generalize IntKind.u64.wrap fu = rr4
          have HFS := kept (pfuse_any HR12.out.pg (fq : Int) (by omega))
          rw [HP12.out.2] at HFS
          clear h12 k12 e12 d12
          go_wp2_with (first | (go_at_call 16; (with_reducible refine (HFS.out).mono ?_); rintro e w13 ⟨rfl, h13⟩))
          obtain ⟨p13, e13, d13, k13⟩ := HR12.out.step h13.out
          have HR13 := kept k13
          have HP13 : Hid (p13.r = q0 ∧ p13.d.r = dq) := kept ⟨e13.trans HP12.out.1, by rw [d13]; exact HP12.out.2⟩
          have HBK13 := kept (HBK12.out.turned h13.out.choose_spec.2.2.2.1 (fun b hb hj => HR12.out.pg.not_all hb (by decide) (by decide) (by decide) (by decide) (by decide) hj))
          have HK13 := kept (HK12.out.turned h13.out.choose_spec.2.2.2.1 (fun b hb hj => HR12.out.pg.not_all hb (by decide) (by decide) (by decide) (by decide) (by decide) hj))
          have HS5 := kept (HS4.out.tryFuse (fq : Int))
          have HB5 : Hid (∀ x ∈ lb ++ l10, Bears P4 (S1.tryFuse (fq : Int)) x) := kept (fun x hx => (HB4.out x hx).fused _)
          have HBE5 : Hid (∀ x ∈ l4, Bears Q (S1.tryFuse (fq : Int)) x) := kept (fun x hx => (HBE.out x hx).fused _)
          have HLN5 : Hid ((S1.tryFuse (fq : Int)).pages.length = z) := kept ((tryFuse_len S1 _).1.trans HLN1.out)
          have HDN5 : Hid ((S1.tryFuse (fq : Int)).done ≤ 4100) := kept (by rw [(tryFuse_len S1 _).2]; exact HDN1.out)
          clear h13 k13 e13 d13 HFS HS4 HB4
          generalize S1.tryFuse (fq : Int) = S2 at HR13 HS5 HB5 HBE5 HLN5 HDN5
          have HCC := kept (commit_cuts HR13.out.pg HS5.out (by rw [HE4.out.1]; decide) (by have := HDN5.out; omega) (HFW.out _ HR13.out.below) kl)
          rw [HP13.out.1] at HCC
          generalize commitR P4 S2 = R at HCC
          obtain ⟨R1, er⟩ := R
          go_wp2_with (first | (go_at_call 13; (with_reducible refine (HCC.out).mono ?_); rintro e w14 ⟨rfl, h14⟩))
          have HB14 : Hid (Below w.heap.size w w14) := kept (h14.out.2.1.only_new HR13.out.below HR13.out.below.size HR13.out.pn)
          have HBK14 := kept (HBK13.out.turned h14.out.2.1 (fun b hb hj => HR13.out.pg.not_all hb (by decide) (by decide) (by decide) (by decide) (by decide) hj))
          have HK14 := kept (HK13.out.turned h14.out.2.1 (fun b hb hj => HR13.out.pg.not_all hb (by decide) (by decide) (by decide) (by decide) (by decide) hj))
          have HCR := kept (crash_any p13.d R1 A5 n5 c5 kl w14 h14.out.1 (HKP5.out _ HB14.out) (by omega))
          rw [HP13.out.2] at HCR
          go_wp2_with (first | (go_at_call 17; (with_reducible refine (HCR.out).mono ?_); rintro e w15 ⟨rfl, h15⟩))
          have HCUT : Hid (Cut S2 Q P4 (R1, er) (R1.crash kl)) := kept h14.out.2.2
          have HB15 : Hid (Below w.heap.size w w15) := kept (h15.out.2.only_new HB14.out HB14.out.size (fun i hi => HR13.out.pn i (.inr hi)))
          have HBK15 := kept (HBK14.out.turned h15.out.2 (fun b hb hj => h14.out.1.own_cl hb (by decide) (by decide) hj))
          have HK15 := kept (HK14.out.turned h15.out.2 (fun b hb hj => h14.out.1.own_cl hb (by decide) (by decide) hj))
          have HD15 := kept h15.out.1
          clear h14 h15 HCR HCC HBK14 HK14 HBK13 HK13 HBK12 HK12 HBK11 HK11
          generalize R1.crash kl = C at HCUT HD15
          have HOP := kept (open_ok p13.d C w15 HD15.out (by rw [HCUT.out.fuse]; decide) (HFW.out _ HB15.out) HCUT.out.op)
          rw [HP13.out.2] at HOP
          have her : er = 0 ∨ er = 10 := HCUT.out.er
          have HN15 : Hid (0 ≤ 1000) := kept (by omega)
          have hcl := HCUT.out.len
          rcases HCUT.out.way with ⟨wA, hAf⟩ | ⟨hne, wB, hpg⟩
          · have HBN : Hid (∀ x ∈ lb ++ l10, Bears (nextP P4) C x) := kept (fun x hx => (HB5.out x hx).commit HR13.out.pg.ok (by rw [HLN5.out]; omega) hAf hcl)
            have htn : (nextP P4).M.txn = 3 := by show P4.M.txn + 1 = 3; rw [HE4.out.1]
            have hrn : (nextP P4).root = (0 : Int) := HE4.out.2
            have HTN3 := kept htn
            have HRN3 := kept hrn
            rw [wA] at HOP
            clear wA hAf hcl htn hrn
            rcases her with her | her
            · subst her
              go_wp2_with (first | (go_at_call 18; (with_reducible refine (HOP.out).mono ?_); rintro e w16 ⟨q, rfl, h16⟩; have HQ16 := kept h16.out.2.1; have HB16 := kept (HB15.out.trans (h16.out.2.2.1.mono HB15.out.size)); have HBK16 := kept (HBK15.out.below h16.out.2.2.1); have HTQ := kept (txn_any HQ16.out); rw [HTN3.out, show ((3 : Nat) : Int) = 3 from rfl] at HTQ; have HRQ := kept (root_any HQ16.out); rw [HRN3.out] at HRQ; have HSH := kept (showsk_any HQ16.out (by rw [HCUT.out.fuse]; decide) (HFW.out _ HB16.out) A11 0 c11 (lb ++ l10) HBK16.out.reads HN15.out HBN.out); clear h16) | (go_at_call 14; (with_reducible refine (HTQ.out).mono ?_); rintro e w17 ⟨rfl, rfl⟩) | (go_at_call 12; (with_reducible refine (HRQ.out).mono ?_); rintro e w18 ⟨rfl, rfl⟩) | (go_at_call 19; (with_reducible refine (HSH.out).mono ?_); rintro e w19 ⟨rfl, hb19⟩))
              go_ret
              exact ⟨rfl, HB16.out.trans (hb19.mono HB16.out.size)⟩
            · subst her
              go_wp2_with (first | (go_at_call 18; (with_reducible refine (HOP.out).mono ?_); rintro e w16 ⟨q, rfl, h16⟩; have HQ16 := kept h16.out.2.1; have HB16 := kept (HB15.out.trans (h16.out.2.2.1.mono HB15.out.size)); have HBK16 := kept (HBK15.out.below h16.out.2.2.1); have HTQ := kept (txn_any HQ16.out); rw [HTN3.out, show ((3 : Nat) : Int) = 3 from rfl] at HTQ; have HRQ := kept (root_any HQ16.out); rw [HRN3.out] at HRQ; have HSH := kept (showsk_any HQ16.out (by rw [HCUT.out.fuse]; decide) (HFW.out _ HB16.out) A11 0 c11 (lb ++ l10) HBK16.out.reads HN15.out HBN.out); clear h16) | (go_at_call 14; (with_reducible refine (HTQ.out).mono ?_); rintro e w17 ⟨rfl, rfl⟩) | (go_at_call 12; (with_reducible refine (HRQ.out).mono ?_); rintro e w18 ⟨rfl, rfl⟩) | (go_at_call 19; (with_reducible refine (HSH.out).mono ?_); rintro e w19 ⟨rfl, hb19⟩))
              go_ret
              exact ⟨rfl, HB16.out.trans (hb19.mono HB16.out.size)⟩
          · have HBQ : Hid (∀ x ∈ l4, Bears Q C x) := kept (fun x hx => (HBE5.out x hx).cut_elder HQ1.out.2.2 hcl hpg)
            rw [wB] at HOP
            have her10 : er = 10 := by rcases her with e | e; exact absurd e hne; exact e
            subst her10
            clear wB hpg hcl hne her
            go_wp2_with (first | (go_at_call 18; (with_reducible refine (HOP.out).mono ?_); rintro e w16 ⟨q, rfl, h16⟩; have HQ16 := kept h16.out.2.1; have HB16 := kept (HB15.out.trans (h16.out.2.2.1.mono HB15.out.size)); have HK16 := kept (HK15.out.below h16.out.2.2.1); have HTQ := kept (txn_any HQ16.out); rw [HQ1.out.1, show ((2 : Nat) : Int) = 2 from rfl] at HTQ; have HRQ := kept (root_any HQ16.out); rw [HQ1.out.2.1] at HRQ; have HSH := kept (showsk_any HQ16.out (by rw [HCUT.out.fuse]; decide) (HFW.out _ HB16.out) A4 0 c4 l4 HK16.out.reads (by omega) HBQ.out); clear h16) | (go_at_call 14; (with_reducible refine (HTQ.out).mono ?_); rintro e w17 ⟨rfl, rfl⟩) | (go_at_call 12; (with_reducible refine (HRQ.out).mono ?_); rintro e w18 ⟨rfl, rfl⟩) | (go_at_call 19; (with_reducible refine (HSH.out).mono ?_); rintro e w19 ⟨rfl, hb19⟩))
            go_ret
            exact ⟨rfl, HB16.out.trans (hb19.mono HB16.out.size)⟩
        · obtain ⟨N1, rfl⟩ : ∃ N1, N = N1 + 1 := ⟨N - 1, by omega⟩
          go_wp2_with (first | (at_builtin; refine wpList_append_bk rfl _ _ rfl rfl rfl HBK10.out HO10.out.reads hmm10 ?_; intro A11 c11 w11 h11 t11 g11; rw [hN] at h11 ⊢; obtain ⟨b11, o11, hA11, _, _⟩ := h11.form (by omega); subst hA11; have hll11 := h11.reads.1; obtain ⟨b', o', he, q0', q1'⟩ := h11.reads.at_ (k := N1) (by omega) (by omega); cases he; have HBX := kept (HB3.out _ (List.getElem_mem (l := lb ++ l10) (n := N1) (by omega))).away.1; generalize ((lb ++ l10)[N1]'(by omega)).1 = nx at q0' HBX; have HBK11 := kept h11; have HR11 := kept (HR10.out.kept_turn HBK10.out (fun g hg => (HA10.out g hg).1) t11); have HK11 := kept (HK10.out.turned_at t11 (fun g hg hb => (HA10.out g hb).2 hg)); clear h11 t11 g11 q1'))
          have HRTN : Hid (nx = 0 ∨ (2 ≤ nx ∧ nx < (S1.pages.length : Int))) := kept (.inr HBX.out)
          have HSR := kept (setRoot_any HR11.out.pg nx)
          have HS4 := kept (HS3.out.root_ HRTN.out)
          obtain ⟨P4, hP4⟩ : ∃ P4 : PSt, ({ P3 with root := nx } : PSt) = P4 := ⟨_, rfl⟩
          have HE4 : Hid (P4.M.txn = 2 ∧ P4.root = nx) := kept (by subst hP4; exact ⟨HM3.out, rfl⟩)
          have HB4 : Hid (∀ x ∈ lb ++ l10, Bears P4 S1 x) := kept (fun x hx => by subst hP4; exact (HB3.out x hx).root_ _)
          rw [hP4, HP10.out.1] at HSR
          rw [hP4] at HS4
          clear hP4
          go_wp2_with (first | (go_at_call 11; (with_reducible refine (HSR.out).mono ?_); rintro e w12 ⟨rfl, h12⟩))
          obtain ⟨p12, e12, d12, k12⟩ := HR11.out.step h12.out
          have HR12 := kept k12
          have HP12 : Hid (p12.r = q0 ∧ p12.d.r = dq) := kept ⟨e12.trans HP10.out.1, by rw [d12]; exact HP10.out.2⟩
          have HBK12 := kept (HBK11.out.turned h12.out.choose_spec.2.2.2.1 (fun b hb hj => HR11.out.pg.not_all hb (by decide) (by decide) (by decide) (by decide) (by decide) hj))
          have HK12 := kept (HK11.out.turned h12.out.choose_spec.2.2.2.1 (fun b hb hj => HR11.out.pg.not_all hb (by decide) (by decide) (by decide) (by decide) (by decide) hj))
          have hatf := HATF.out
          simp only [hatf]
          clear hatf
          generalize (IntKind.u64.wrap fu).tmod 60 = rr3
          generalize IntKind.u64.wrap fu = rr4
          have HFS := kept (pfuse_any HR12.out.pg (fq : Int) (by omega))
          rw [HP12.out.2] at HFS
          clear h12 k12 e12 d12
          go_wp2_with (first | (go_at_call 16; (with_reducible refine (HFS.out).mono ?_); rintro e w13 ⟨rfl, h13⟩))
          obtain ⟨p13, e13, d13, k13⟩ := HR12.out.step h13.out
          have HR13 := kept k13
          have HP13 : Hid (p13.r = q0 ∧ p13.d.r = dq) := kept ⟨e13.trans HP12.out.1, by rw [d13]; exact HP12.out.2⟩
          have HBK13 := kept (HBK12.out.turned h13.out.choose_spec.2.2.2.1 (fun b hb hj => HR12.out.pg.not_all hb (by decide) (by decide) (by decide) (by decide) (by decide) hj))
          have HK13 := kept (HK12.out.turned h13.out.choose_spec.2.2.2.1 (fun b hb hj => HR12.out.pg.not_all hb (by decide) (by decide) (by decide) (by decide) (by decide) hj))
          have HS5 := kept (HS4.out.tryFuse (fq : Int))
          have HB5 : Hid (∀ x ∈ lb ++ l10, Bears P4 (S1.tryFuse (fq : Int)) x) := kept (fun x hx => (HB4.out x hx).fused _)
          have HBE5 : Hid (∀ x ∈ l4, Bears Q (S1.tryFuse (fq : Int)) x) := kept (fun x hx => (HBE.out x hx).fused _)
          have HLN5 : Hid ((S1.tryFuse (fq : Int)).pages.length = z) := kept ((tryFuse_len S1 _).1.trans HLN1.out)
          have HDN5 : Hid ((S1.tryFuse (fq : Int)).done ≤ 4100) := kept (by rw [(tryFuse_len S1 _).2]; exact HDN1.out)
          clear h13 k13 e13 d13 HFS HS4 HB4
          generalize S1.tryFuse (fq : Int) = S2 at HR13 HS5 HB5 HBE5 HLN5 HDN5
          have HCC := kept (commit_cuts HR13.out.pg HS5.out (by rw [HE4.out.1]; decide) (by have := HDN5.out; omega) (HFW.out _ HR13.out.below) kl)
          rw [HP13.out.1] at HCC
          generalize commitR P4 S2 = R at HCC
          obtain ⟨R1, er⟩ := R
          go_wp2_with (first | (go_at_call 13; (with_reducible refine (HCC.out).mono ?_); rintro e w14 ⟨rfl, h14⟩))
          have HB14 : Hid (Below w.heap.size w w14) := kept (h14.out.2.1.only_new HR13.out.below HR13.out.below.size HR13.out.pn)
          have HBK14 := kept (HBK13.out.turned h14.out.2.1 (fun b hb hj => HR13.out.pg.not_all hb (by decide) (by decide) (by decide) (by decide) (by decide) hj))
          have HK14 := kept (HK13.out.turned h14.out.2.1 (fun b hb hj => HR13.out.pg.not_all hb (by decide) (by decide) (by decide) (by decide) (by decide) hj))
          have HCR := kept (crash_any p13.d R1 A5 n5 c5 kl w14 h14.out.1 (HKP5.out _ HB14.out) (by omega))
          rw [HP13.out.2] at HCR
          go_wp2_with (first | (go_at_call 17; (with_reducible refine (HCR.out).mono ?_); rintro e w15 ⟨rfl, h15⟩))
          have HCUT : Hid (Cut S2 Q P4 (R1, er) (R1.crash kl)) := kept h14.out.2.2
          have HB15 : Hid (Below w.heap.size w w15) := kept (h15.out.2.only_new HB14.out HB14.out.size (fun i hi => HR13.out.pn i (.inr hi)))
          have HBK15 := kept (HBK14.out.turned h15.out.2 (fun b hb hj => h14.out.1.own_cl hb (by decide) (by decide) hj))
          have HK15 := kept (HK14.out.turned h15.out.2 (fun b hb hj => h14.out.1.own_cl hb (by decide) (by decide) hj))
          have HD15 := kept h15.out.1
          clear h14 h15 HCR HCC HBK14 HK14 HBK13 HK13 HBK12 HK12 HBK11 HK11
          generalize R1.crash kl = C at HCUT HD15
          have HOP := kept (open_ok p13.d C w15 HD15.out (by rw [HCUT.out.fuse]; decide) (HFW.out _ HB15.out) HCUT.out.op)
          rw [HP13.out.2] at HOP
          have her : er = 0 ∨ er = 10 := HCUT.out.er
          have HN15 : Hid ((N1 + 1) ≤ 1000) := kept (by omega)
          have hcl := HCUT.out.len
          rcases HCUT.out.way with ⟨wA, hAf⟩ | ⟨hne, wB, hpg⟩
          · have HBN : Hid (∀ x ∈ lb ++ l10, Bears (nextP P4) C x) := kept (fun x hx => (HB5.out x hx).commit HR13.out.pg.ok (by rw [HLN5.out]; omega) hAf hcl)
            have htn : (nextP P4).M.txn = 3 := by show P4.M.txn + 1 = 3; rw [HE4.out.1]
            have hrn : (nextP P4).root = nx := HE4.out.2
            have HTN3 := kept htn
            have HRN3 := kept hrn
            rw [wA] at HOP
            clear wA hAf hcl htn hrn
            rcases her with her | her
            · subst her
              go_wp2_with (first | (go_at_call 18; (with_reducible refine (HOP.out).mono ?_); rintro e w16 ⟨q, rfl, h16⟩; have HQ16 := kept h16.out.2.1; have HB16 := kept (HB15.out.trans (h16.out.2.2.1.mono HB15.out.size)); have HBK16 := kept (HBK15.out.below h16.out.2.2.1); have HTQ := kept (txn_any HQ16.out); rw [HTN3.out, show ((3 : Nat) : Int) = 3 from rfl] at HTQ; have HRQ := kept (root_any HQ16.out); rw [HRN3.out] at HRQ; have HSH := kept (showsk_any HQ16.out (by rw [HCUT.out.fuse]; decide) (HFW.out _ HB16.out) (some ⟨b11, o11, none⟩) (N1 + 1) c11 (lb ++ l10) HBK16.out.reads HN15.out HBN.out); clear h16) | (go_at_call 14; (with_reducible refine (HTQ.out).mono ?_); rintro e w17 ⟨rfl, rfl⟩) | (go_at_call 12; (with_reducible refine (HRQ.out).mono ?_); rintro e w18 ⟨rfl, rfl⟩) | (go_at_call 19; (with_reducible refine (HSH.out).mono ?_); rintro e w19 ⟨rfl, hb19⟩))
              go_ret
              exact ⟨rfl, HB16.out.trans (hb19.mono HB16.out.size)⟩
            · subst her
              go_wp2_with (first | (go_at_call 18; (with_reducible refine (HOP.out).mono ?_); rintro e w16 ⟨q, rfl, h16⟩; have HQ16 := kept h16.out.2.1; have HB16 := kept (HB15.out.trans (h16.out.2.2.1.mono HB15.out.size)); have HBK16 := kept (HBK15.out.below h16.out.2.2.1); have HTQ := kept (txn_any HQ16.out); rw [HTN3.out, show ((3 : Nat) : Int) = 3 from rfl] at HTQ; have HRQ := kept (root_any HQ16.out); rw [HRN3.out] at HRQ; have HSH := kept (showsk_any HQ16.out (by rw [HCUT.out.fuse]; decide) (HFW.out _ HB16.out) (some ⟨b11, o11, none⟩) (N1 + 1) c11 (lb ++ l10) HBK16.out.reads HN15.out HBN.out); clear h16) | (go_at_call 14; (with_reducible refine (HTQ.out).mono ?_); rintro e w17 ⟨rfl, rfl⟩) | (go_at_call 12; (with_reducible refine (HRQ.out).mono ?_); rintro e w18 ⟨rfl, rfl⟩) | (go_at_call 19; (with_reducible refine (HSH.out).mono ?_); rintro e w19 ⟨rfl, hb19⟩))
              go_ret
              exact ⟨rfl, HB16.out.trans (hb19.mono HB16.out.size)⟩
          · have HBQ : Hid (∀ x ∈ l4, Bears Q C x) := kept (fun x hx => (HBE5.out x hx).cut_elder HQ1.out.2.2 hcl hpg)
            rw [wB] at HOP
            have her10 : er = 10 := by rcases her with e | e; exact absurd e hne; exact e
            subst her10
            clear wB hpg hcl hne her
            go_wp2_with (first | (go_at_call 18; (with_reducible refine (HOP.out).mono ?_); rintro e w16 ⟨q, rfl, h16⟩; have HQ16 := kept h16.out.2.1; have HB16 := kept (HB15.out.trans (h16.out.2.2.1.mono HB15.out.size)); have HK16 := kept (HK15.out.below h16.out.2.2.1); have HTQ := kept (txn_any HQ16.out); rw [HQ1.out.1, show ((2 : Nat) : Int) = 2 from rfl] at HTQ; have HRQ := kept (root_any HQ16.out); rw [HQ1.out.2.1] at HRQ; have HSH := kept (showsk_any HQ16.out (by rw [HCUT.out.fuse]; decide) (HFW.out _ HB16.out) A4 0 c4 l4 HK16.out.reads (by omega) HBQ.out); clear h16) | (go_at_call 14; (with_reducible refine (HTQ.out).mono ?_); rintro e w17 ⟨rfl, rfl⟩) | (go_at_call 12; (with_reducible refine (HRQ.out).mono ?_); rintro e w18 ⟨rfl, rfl⟩) | (go_at_call 19; (with_reducible refine (HSH.out).mono ?_); rintro e w19 ⟨rfl, hb19⟩))
            go_ret
            exact ⟨rfl, HB16.out.trans (hb19.mono HB16.out.size)⟩
  · obtain ⟨g4, hg4⟩ := HKP3.out.head hn4
    subst hg4
    have hll := HKP3.out.1
    obtain ⟨bb, o, he, k0, k1⟩ := HKP3.out.reads.at_ (k := 0) hn4 (by omega)
    cases he
    have hbr := (HAD1.out.new (l4[0]'(by omega)) (List.getElem_mem _)).away.1
    obtain ⟨rt, hrt⟩ : ∃ rt, (l4[0]'(by omega)).1 = rt := ⟨_, rfl⟩
    rw [hrt] at k0 hbr
    have HRT0 : Hid (rt = 0 ∨ (2 ≤ rt ∧ rt < (S0.pages.length : Int))) := kept (.inr hbr)
    clear hbr hrt k1
    have HSR := kept (setRoot_any HRN.out.pg rt)
    have HSS := kept (HAD1.out.ses.root_ HRT0.out)
    obtain ⟨P2, hP2⟩ : ∃ P2 : PSt, ({ P1 with root := rt } : PSt) = P2 := ⟨_, rfl⟩
    have HE2 : Hid (P2.M.txn = 1 ∧ P2.root = rt) := kept (by
      subst hP2
      exact ⟨by show P1.M.txn = 1; rw [HAD1.out.M, HTX.out.1], rfl⟩)
    have HBS : Hid (∀ x ∈ l4, Bears P2 S0 x) := kept (fun x hx => by subst hP2; exact (HAD1.out.new x hx).root_ _)
    have HND := kept HAD1.out.nd
    rw [hP2, HP1.out.1] at HSR
    rw [hP2] at HSS
    clear hP2 HAD1
    go_wp2_with (first | (go_at_call 11; (with_reducible refine (HSR.out).mono ?_); rintro e w4 ⟨rfl, h4⟩))
    obtain ⟨p4, e4, d4, k4⟩ := HRN.out.step h4.out
    have HR4 := kept k4
    have HP4 : Hid (p4.r = q0 ∧ p4.d.r = dq) := kept ⟨e4.trans HP1.out.1, by rw [d4]; exact HP1.out.2⟩
    have HK4 := kept (HKP3.out.turned h4.out.choose_spec.2.2.2.1 (fun b hb hj => HRN.out.pg.not_all hb (by decide) (by decide) (by decide) (by decide) (by decide) hj))
    clear h4 k4 e4 d4 HRN HP1 HKP3 HSR
    have HRT := kept (root_any HR4.out.pg)
    have HCM := kept (commit_ses HR4.out.pg HSS.out HFU.out (by rw [HE2.out.1]; decide) (by have := HDN.out; omega) (HFW.out _ HR4.out.below))
    rw [HP4.out.1] at HCM HRT
    have hkb : 0 + n4 ≤ 1000000 := by omega
    go_wp2_with (first | (go_at_call 12; (with_reducible refine (HRT.out).mono ?_); rintro e w5 ⟨rfl, rfl⟩) | (go_at_call 13; (with_reducible refine (HCM.out).mono ?_); rintro e w5 ⟨rfl, h5⟩; obtain ⟨p5, e5, d5, k5⟩ := HR4.out.step h5.out; have HR5 := kept k5; have HP5 : Hid (p5.r = q0 ∧ p5.d.r = dq) := kept ⟨e5.trans HP4.out.1, by rw [d5]; exact HP4.out.2⟩; have HK5 := kept (HK4.out.turned h5.out.choose_spec.2.2.2.1 (fun b hb hj => HR4.out.pg.not_all hb (by decide) (by decide) (by decide) (by decide) (by decide) hj)); have HTN := kept (txn_any k5.pg); rw [HP5.out.1] at HTN; clear h5 k5 e5 d5) | (go_at_call 14; (with_reducible refine (HTN.out).mono ?_); rintro e w6 ⟨rfl, rfl⟩) | (at_builtin; refine wpList_append_k rfl _ _ rfl rfl rfl (OwK.none_new w5) (HK5.out.below ((Below.refl _ w5).alloc (Nat.le_refl _) _)).reads hkb ?_; intro A7 c7 w7 h7 t7 g7; have HB7 : Hid (Below w5.heap.size w5 w7) := kept (t7.only_new ((Below.refl _ w5).alloc (Nat.le_refl _) _) (by simp) (fun i hi => by cases hi; exact Nat.le_refl _)); have H7 := kept h7; have HG7 : Hid (∀ g, blkOf A7 = some g → w.heap.size ≤ g ∧ ¬ blkOf (some ⟨g4, 0, none⟩) = some g) := kept (fun g hg => by have h0 : w5.heap.size ≤ g := (by rcases g7 g hg with e | e; cases e; exact Nat.le_refl _; exact Nat.le_trans (by simp) e); exact ⟨Nat.le_trans HR5.out.below.size h0, fun e => by have := (HK5.out.cl e).lt; omega⟩); clear h7 t7 g7))
    have hok2 := HR4.out.pg.ok
    have hlo2 := HR4.out.pg.lst.1
    obtain ⟨u1, u2, u3, u4, u5, u6⟩ := HSS.out.commit hok2 hlo2 (by rw [HE2.out.1]; decide) HFU.out
    have HSE1 : Hid (Ses (commitR P2 S0).1 (nextP P2) (nextP P2) B0.M ∧ (nextP P2).M = (nextP P2).M ∧ (l4.map (·.1)).Nodup ∧ ∀ x ∈ l4, Bears (nextP P2) (commitR P2 S0).1 x) := kept ⟨u3, rfl, HND.out, fun x hx => (HBS.out x hx).commit hok2 (by rw [HLN.out]; omega) u4 u5⟩
    have HFU1 := kept u2
    have HLN1 : Hid ((commitR P2 S0).1.pages.length = z) := kept (u5.trans HLN.out)
    have HDN1 : Hid ((commitR P2 S0).1.done ≤ 4100) := kept (by have := HDN.out; omega)
    have HQ1 : Hid ((nextP P2).M.txn = 2 ∧ (nextP P2).root = rt ∧ (nextP P2).add = fun _ => none) := kept ⟨by show (P2).M.txn + 1 = 2; rw [HE2.out.1], HE2.out.2, rfl⟩
    have htx2 : (nextP P2).M.txn = 2 := HQ1.out.1
    have hrt2 : (P2).root = rt := HE2.out.2
    have HR7 := kept (HR5.out.on HB7.out)
    have HK7 := kept (HK5.out.below HB7.out)
    have HBK : Hid (BK w7 A7 (0 + n4) c7 l4) := kept (.inl ⟨H7.out, H7.out.le⟩)
    rw [Nat.zero_add] at HBK
    have HBE := kept HSE1.out.2.2.2
    rw [htx2, hrt2, show ((2 : Nat) : Int) = 2 from rfl]
    clear hok2 hlo2 u1 u2 u3 u4 u5 u6 htx2 hrt2 HRT HCM HTN HR5 HK5 H7 HB7 HSS HE2 HBS HND HFU HLN HDN
    generalize (commitR P2 S0).1 = S1 at HSE1 HFU1 HLN1 HDN1 HR7 HBE
    generalize nextP P2 = Q at HSE1 HQ1 HR7 HBE
    generalize B0.M = el1 at HSE1
    go_loopw [18, 84] (fun bv i wr => ∃ (j m c : Nat) (A : Option Addr) (lb : List Kept) (P : PSt) (p : Pgl), j ≤ n3 ∧ m ≤ 20 ∧ i = .int .i64 (j : Int) ∧ bv = .slice A m c ∧ p.r = q0 ∧ p.d.r = dq ∧ Hid (Rn w wr p P S1 ∧ BK wr A m c lb ∧ OwK wr (some ⟨g4, 0, none⟩) n4 c4 l4 ∧ ∀ g, blkOf A = some g → w.heap.size ≤ g ∧ ¬ blkOf (some ⟨g4, 0, none⟩) = some g) ∧ Hid (Ses S1 Q P el1 ∧ P.M = Q.M ∧ (lb.map (·.1)).Nodup ∧ ∀ x ∈ lb, Bears P S1 x)) (fun _ i _ => n3 - (intOf i).toNat)
    case atStart => exact ⟨0, n4, c7, A7, l4, Q, p5, Nat.zero_le _, by omega, rfl, rfl, HP5.out.1, HP5.out.2, kept ⟨HR7.out, HBK.out, HK7.out, HG7.out⟩, HSE1⟩
    case round =>
      obtain ⟨j, m, c, A, lb, P, p, hj, hm, rfl, rfl, hp, hpd, HG, HS⟩ := hrel
      clear HR7 HK7 HBK HSE1 HP5
      by_cases hlt : j < n3
      · obtain ⟨b3, o3, hA3, hc3⟩ := (HR3.out wr HG.out.1.below).there hlt
        subst hA3
        by_cases hm0 : m = 0
        · subst hm0
          go_wp2
          go_roundw
          case rel => exact ⟨j + 1, 0, c, A, lb, P, p, by omega, by omega, by go_num, rfl, hp, hpd, HG, HS⟩
          case measure => simp [intOf]; omega
        · have hmp : 0 < m := by omega
          obtain ⟨ix, hix, hati⟩ := placed7 (Z j) m hmp (by omega)
          obtain ⟨b, o, hA, hbl, hbc⟩ := HG.out.2.1.form hmp
          subst hA
          have hll := HG.out.2.1.reads.1
          obtain ⟨b', o', he, k0', k1'⟩ := HG.out.2.1.reads.at_ hix (by omega)
          cases he
          have hbx := HS.out.2.2.2 (lb[ix]'(by omega)) (List.getElem_mem _)
          have HDR := kept (drop_any HG.out.1.pg (lb[ix]'(by omega)).1)
          have hdr0 := hbx.may_drop HG.out.1.pg.ok
          rw [hdr0, hp] at HDR
          have HSN : Hid (Ses S1 Q (dropP P (lb[ix]'(by omega)).1).1 el1 ∧ (dropP P (lb[ix]'(by omega)).1).1.M = Q.M ∧ ((lb.take ix ++ lb.drop (ix + 1)).map (·.1)).Nodup ∧ ∀ x ∈ lb.take ix ++ lb.drop (ix + 1), Bears (dropP P (lb[ix]'(by omega)).1).1 S1 x) := kept (by
            have hcut : lb = lb.take ix ++ lb[ix]'(by omega) :: lb.drop (ix + 1) := by
              rw [List.getElem_cons_drop, List.take_append_drop]
            have hnd := HS.out.2.2.1
            have hnd2 : (lb.map (·.1)) = (lb.take ix).map (·.1) ++ (lb[ix]'(by omega)).1 :: (lb.drop (ix + 1)).map (·.1) := by
              conv => lhs; rw [hcut]
              rw [List.map_append, List.map_cons]
            rw [hnd2, List.nodup_append, List.nodup_cons] at hnd
            obtain ⟨g1, ⟨g2, g3⟩, g5⟩ := hnd
            refine ⟨HS.out.1.drop_ _, by rw [(dropP_same P _).1]; exact HS.out.2.1, ?_, fun x hx => ?_⟩
            · rw [List.map_append, List.nodup_append]
              exact ⟨g1, g3, fun x hx y hy => g5 x hx y (List.mem_cons_of_mem _ hy)⟩
            · rcases List.mem_append.1 hx with hx | hx
              · refine (HS.out.2.2.2 x (List.mem_of_mem_take hx)).drop_ fun e => ?_
                exact g5 x.1 (List.mem_map_of_mem hx) _ (List.mem_cons_self ..) e
              · refine (HS.out.2.2.2 x (List.mem_of_mem_drop hx)).drop_ fun e => ?_
                exact g2 (e ▸ List.mem_map_of_mem hx))
          generalize (dropP P (lb[ix]'(by omega)).1).1 = PN at HDR HSN
          generalize (lb[ix]'(by omega)).1 = id at k0' HDR
          have hcm : m ≤ c := HG.out.2.1.le
          clear hbx hdr0 k1' hll
          go_wp2_with (first | (go_at_call 15; (with_reducible refine (HDR.out).mono ?_); rintro e w8 ⟨rfl, h8⟩))
          obtain ⟨p8, e8, d8, k8⟩ := HG.out.1.step h8.out
          have HR8 := kept k8
          have HP8 : Hid (p8.r = q0 ∧ p8.d.r = dq) := kept ⟨e8.trans hp, by rw [d8]; exact hpd⟩
          have hbk8 := HG.out.2.1.turned h8.out.choose_spec.2.2.2.1 (fun b hb hj => HG.out.1.pg.not_all hb (by decide) (by decide) (by decide) (by decide) (by decide) hj)
          have HK8 := kept (HG.out.2.2.1.turned h8.out.choose_spec.2.2.2.1 (fun b hb hj => HG.out.1.pg.not_all hb (by decide) (by decide) (by decide) (by decide) (by decide) hj))
          obtain ⟨PB, hPB⟩ : ∃ PB : Option Addr, (if c = ix + 1 then some (⟨b, o, none⟩ : Addr) else some ⟨b, o + (ix + 1) * 2, none⟩) = PB := ⟨_, rfl⟩
          have hrun := run_append_cut (hbk8.below (Below.refl w8.heap.size w8).drew) hix (by omega) PB hPB.symm (c - (ix + 1)) 31
          obtain ⟨i1, hi1⟩ : ∃ i1, ix + 1 = i1 := ⟨_, rfl⟩
          have hwi : IntKind.i64.wrap ((ix : Int) + 1) = (i1 : Int) := by rw [IntKind.wrap_i64]; omega
          rw [hi1] at hrun HSN hPB
          have HRUN := kept hrun
          have hk0 : (0 : Int) ≤ (ix : Int) := by omega
          have hk1 : (ix : Int) ≤ (m : Int) := by omega
          have hk2 : (ix : Int) ≤ (c : Int) := by omega
          have hk3 : (m : Int) ≤ (c : Int) := by omega
          have hk4 : (i1 : Int) ≤ (m : Int) := by omega
          have hk5 : (0 : Int) ≤ (i1 : Int) := by omega
          have hkc : ix ≤ c := by omega
          have hkm1 : i1 ≤ m := by omega
          clear hrun h8 k8 e8 d8 hbk8 hbl hbc
          refine wp_region_held_drew (S := (fun _ => True)) (by kernel_rfl) ?_ (fun hHeld => ?_)
          · ((try dsimp only); (try trivial))
          refine hand_take 0 (some 106) ?_ (by kernel_rfl) (by kernel_rfl) (by kernel_rfl) (by kernel_rfl) (by kernel_rfl) (fun _ _ _ h => h) ?_ (by assumption) ?_
          rotate_left
          · (intro o ho w hSw; (simp only [List.getElem?_toArray, List.getElem?_cons_succ, List.getElem?_cons_zero, Option.some.injEq] at ho); subst ho; (try dsimp only at hSw); go_simp; (first | done | with_reducible rfl))
          (try simp only [Act.put, List.setIfInBounds_toArray, List.set_cons_zero, List.set_cons_succ])
          refine hand_take 1 (some 107) ?_ (by kernel_rfl) (by kernel_rfl) (by kernel_rfl) (by kernel_rfl) (by kernel_rfl) (fun _ _ _ h => h) ?_ (by assumption) ?_
          rotate_left
          · (intro o ho w hSw; (simp only [List.getElem?_toArray, List.getElem?_cons_succ, List.getElem?_cons_zero, Option.some.injEq] at ho); subst ho; (try dsimp only at hSw); go_simp; (first | done | with_reducible rfl))
          (try simp only [Act.put, List.setIfInBounds_toArray, List.set_cons_zero, List.set_cons_succ])
          refine hand_take 2 (some 108) ?_ (by kernel_rfl) (by kernel_rfl) (by kernel_rfl) (by kernel_rfl) (by kernel_rfl) (fun _ _ _ h => h) ?_ (by assumption) ?_
          rotate_left
          · (intro o ho w hSw; (simp only [List.getElem?_toArray, List.getElem?_cons_succ, List.getElem?_cons_zero, Option.some.injEq] at ho); subst ho; (try dsimp only at hSw); go_simp; (first | done | with_reducible rfl))
          (try simp only [Act.put, List.setIfInBounds_toArray, List.set_cons_zero, List.set_cons_succ])
          refine hand_take 3 (some 109) ?_ (by kernel_rfl) (by kernel_rfl) (by kernel_rfl) (by kernel_rfl) (by kernel_rfl) (fun _ _ _ h => h) ?_ (by assumption) ?_
          rotate_left
          · (intro o ho w hSw; (simp only [List.getElem?_toArray, List.getElem?_cons_succ, List.getElem?_cons_zero, Option.some.injEq] at ho); subst ho; (try dsimp only at hSw); go_simp; (first | done | with_reducible rfl))
          (try simp only [Act.put, List.setIfInBounds_toArray, List.set_cons_zero, List.set_cons_succ])
          refine hand_take 4 (some 110) ?_ (by kernel_rfl) (by kernel_rfl) (by kernel_rfl) (by kernel_rfl) (by kernel_rfl) (fun _ _ _ h => h) ?_ (by assumption) ?_
          rotate_left
          · (intro o ho w hSw; (simp only [List.getElem?_toArray, List.getElem?_cons_succ, List.getElem?_cons_zero, Option.some.injEq] at ho); subst ho; (try dsimp only at hSw); go_simp; (first | done | with_reducible rfl))
          (try simp only [Act.put, List.setIfInBounds_toArray, List.set_cons_zero, List.set_cons_succ])
          refine hand_take 5 (some 111) ?_ (by kernel_rfl) (by kernel_rfl) (by kernel_rfl) (by kernel_rfl) (by kernel_rfl) (fun _ _ _ h => h) ?_ (by assumption) ?_
          rotate_left
          · (intro o ho w hSw; (simp only [List.getElem?_toArray, List.getElem?_cons_succ, List.getElem?_cons_zero, Option.some.injEq] at ho); subst ho; (try dsimp only at hSw); go_simp; (first | done | with_reducible rfl))
          (try simp only [Act.put, List.setIfInBounds_toArray, List.set_cons_zero, List.set_cons_succ])
          refine hand_take 6 (some 112) ?_ (by kernel_rfl) (by kernel_rfl) (by kernel_rfl) (by kernel_rfl) (by kernel_rfl) (fun _ _ _ h => h) ?_ (by assumption) ?_
          rotate_left
          · (intro o ho w hSw; (simp only [List.getElem?_toArray, List.getElem?_cons_succ, List.getElem?_cons_zero, Option.some.injEq] at ho); subst ho; (try dsimp only at hSw); go_simp; (first | done | with_reducible rfl))
          (try simp only [Act.put, List.setIfInBounds_toArray, List.set_cons_zero, List.set_cons_succ])
          refine hand_take 7 (some 113) ?_ (by kernel_rfl) (by kernel_rfl) (by kernel_rfl) (by kernel_rfl) (by kernel_rfl) (fun _ _ _ h => h) ?_ (by assumption) ?_
          rotate_left
          · (intro o ho w hSw; (simp only [List.getElem?_toArray, List.getElem?_cons_succ, List.getElem?_cons_zero, Option.some.injEq] at ho); subst ho; (try dsimp only at hSw); go_simp; (first | done | with_reducible rfl))
          (try simp only [Act.put, List.setIfInBounds_toArray, List.set_cons_zero, List.set_cons_succ])
          refine hand_ready 8 (by kernel_rfl) (by kernel_rfl) (fun o ho K hK => ?_)
          (simp only [List.getElem?_toArray, List.getElem?_cons_succ, List.getElem?_cons_zero, Option.some.injEq] at ho)
          subst ho
          (obtain ⟨A9, c9, w9, hrun9, hbk9, hb9, hg9⟩ := HRUN.out; refine wp_append_run (.tmp 109) (.tmp 113) rfl rfl rfl hrun9 ?_; have HB9 : Hid (Below w8.heap.size w8 w9) := kept (below_from_drew hb9); have HBK9 := kept hbk9; have HG9 : Hid (∀ g, blkOf A9 = some g → w.heap.size ≤ g ∧ ¬ blkOf (some ⟨g4, 0, none⟩) = some g) := kept (fun g hg => by rcases hg9 g hg with e | e; subst e; exact HG.out.2.2.2 _ rfl; exact ⟨Nat.le_trans HR8.out.below.size e, fun e2 => by have h5 := (HK8.out.cl e2).lt; have h6 : w8.heap.size ≤ g := e; omega⟩); clear hrun9 hbk9 hb9 hg9)
          refine hK.out _ _ ?_ (fun hHeld => ?_)
          · ((try dsimp only); (try trivial))
          clear hK K
          (try simp only [Act.put, List.setIfInBounds_toArray, List.set_cons_zero, List.set_cons_succ])
          refine hand_take 9 (some 18) ?_ (by kernel_rfl) (by kernel_rfl) (by kernel_rfl) (by kernel_rfl) (by kernel_rfl) (fun _ _ _ h => h) ?_ (by assumption) ?_
          rotate_left
          · (intro o ho w hSw; (simp only [List.getElem?_toArray, List.getElem?_cons_succ, List.getElem?_cons_zero, Option.some.injEq] at ho); subst ho; (try dsimp only at hSw); go_simp; (first | done | with_reducible rfl))
          (try simp only [Act.put, List.setIfInBounds_toArray, List.set_cons_zero, List.set_cons_succ])
          refine wpAnyH_done (by kernel_rfl) ?_ _
          go_wp2
          go_roundw
          case rel => exact ⟨j + 1, m - 1, c9, A9, _, PN, p8, by omega, by omega, by go_num, rfl, HP8.out.1, HP8.out.2, kept ⟨HR8.out.on HB9.out, HBK9.out, HK8.out.below HB9.out, HG9.out⟩, HSN⟩
          case measure => simp [intOf]; omega
      · obtain rfl : j = n3 := by omega
        have HAD2 := kept (HAK2.out wr p Q P S1 el1 HG.out.1 HS.out.1 (by rw [HS.out.2.1, HQ1.out.1]; decide))
        rw [hp] at HAD2
        go_wp2_with fail
        with_reducible refine HAD2.out.mono ?_
        rintro e w10 ⟨A10, m10, c10, l10, P3, rfl, h10⟩
        obtain ⟨p10, e10, d10, k10⟩ := HG.out.1.step h10.out.1
        have HR10 := kept k10
        have HP10 : Hid (p10.r = q0 ∧ p10.d.r = dq) := kept ⟨e10.trans hp, by rw [d10]; exact hpd⟩
        have HBK10 := kept (HG.out.2.1.turned h10.out.1.choose_spec.2.2.2.1 (fun b hb hj => HG.out.1.pg.not_all hb (by decide) (by decide) (by decide) (by decide) (by decide) hj))
        have HK10 := kept (HG.out.2.2.1.turned h10.out.1.choose_spec.2.2.2.1 (fun b hb hj => HG.out.1.pg.not_all hb (by decide) (by decide) (by decide) (by decide) (by decide) hj))
        have HS3 := kept h10.out.2.1.ses
        have HM3 : Hid (P3.M.txn = 2) := kept (by rw [h10.out.2.1.M, HS.out.2.1, HQ1.out.1])
        have HB3 : Hid (∀ x ∈ lb ++ l10, Bears P3 S1 x) := kept (fun x hx => by
          rcases List.mem_append.1 hx with hx | hx
          · exact h10.out.2.1.old x (HS.out.2.2.2 x hx)
          · exact h10.out.2.1.new x hx)
        have HO10 := kept h10.out.2.2.1
        have HA10 := kept HG.out.2.2.2
        have hm10 : m10 ≤ 20 := by have := h10.out.2.2.2.2; omega
        have hmm10 : m + m10 ≤ 1000000 := by omega
        clear h10 k10 e10 d10 HAD2 HG HS
        obtain ⟨N, hN⟩ : ∃ N, m + m10 = N := ⟨_, rfl⟩
        rcases Nat.eq_zero_or_pos N with hN0 | hN0
        · subst hN0
          go_wp2_with (first | (at_builtin; refine wpList_append_bk rfl _ _ rfl rfl rfl HBK10.out HO10.out.reads hmm10 ?_; intro A11 c11 w11 h11 t11 g11; rw [hN] at h11 ⊢; have HBK11 := kept h11; have HR11 := kept (HR10.out.kept_turn HBK10.out (fun g hg => (HA10.out g hg).1) t11); have HK11 := kept (HK10.out.turned_at t11 (fun g hg hb => (HA10.out g hb).2 hg)); clear h11 t11 g11))
          have HRTN : Hid ((0 : Int) = 0 ∨ (2 ≤ (0 : Int) ∧ (0 : Int) < (S1.pages.length : Int))) := kept (.inl rfl)
          have HSR := kept (setRoot_any HR11.out.pg (0 : Int))
          have HS4 := kept (HS3.out.root_ HRTN.out)
          obtain ⟨P4, hP4⟩ : ∃ P4 : PSt, ({ P3 with root := (0 : Int) } : PSt) = P4 := ⟨_, rfl⟩
          have HE4 : Hid (P4.M.txn = 2 ∧ P4.root = (0 : Int)) := kept (by subst hP4; exact ⟨HM3.out, rfl⟩)
          have HB4 : Hid (∀ x ∈ lb ++ l10, Bears P4 S1 x) := kept (fun x hx => by subst hP4; exact (HB3.out x hx).root_ _)
          rw [hP4, HP10.out.1] at HSR
          rw [hP4] at HS4
          clear hP4
          go_wp2_with (first | (go_at_call 11; (with_reducible refine (HSR.out).mono ?_); rintro e w12 ⟨rfl, h12⟩))
          obtain ⟨p12, e12, d12, k12⟩ := HR11.out.step h12.out
          have HR12 := kept k12
          have HP12 : Hid (p12.r = q0 ∧ p12.d.r = dq) := kept ⟨e12.trans HP10.out.1, by rw [d12]; exact HP10.out.2⟩
          have HBK12 := kept (HBK11.out.turned h12.out.choose_spec.2.2.2.1 (fun b hb hj => HR11.out.pg.not_all hb (by decide) (by decide) (by decide) (by decide) (by decide) hj))
          have HK12 := kept (HK11.out.turned h12.out.choose_spec.2.2.2.1 (fun b hb hj => HR11.out.pg.not_all hb (by decide) (by decide) (by decide) (by decide) (by decide) hj))
          have hatf := HATF.out
          simp only [hatf]
          clear hatf
          generalize (IntKind.u64.wrap fu).tmod 60 = rr3
          generalize IntKind.u64.wrap fu = rr4
          have HFS := kept (pfuse_any HR12.out.pg (fq : Int) (by omega))
          rw [HP12.out.2] at HFS
          clear h12 k12 e12 d12
          go_wp2_with (first | (go_at_call 16; (with_reducible refine (HFS.out).mono ?_); rintro e w13 ⟨rfl, h13⟩))
          obtain ⟨p13, e13, d13, k13⟩ := HR12.out.step h13.out
          have HR13 := kept k13
          have HP13 : Hid (p13.r = q0 ∧ p13.d.r = dq) := kept ⟨e13.trans HP12.out.1, by rw [d13]; exact HP12.out.2⟩
          have HBK13 := kept (HBK12.out.turned h13.out.choose_spec.2.2.2.1 (fun b hb hj => HR12.out.pg.not_all hb (by decide) (by decide) (by decide) (by decide) (by decide) hj))
          have HK13 := kept (HK12.out.turned h13.out.choose_spec.2.2.2.1 (fun b hb hj => HR12.out.pg.not_all hb (by decide) (by decide) (by decide) (by decide) (by decide) hj))
          have HS5 := kept (HS4.out.tryFuse (fq : Int))
          have HB5 : Hid (∀ x ∈ lb ++ l10, Bears P4 (S1.tryFuse (fq : Int)) x) := kept (fun x hx => (HB4.out x hx).fused _)
          have HBE5 : Hid (∀ x ∈ l4, Bears Q (S1.tryFuse (fq : Int)) x) := kept (fun x hx => (HBE.out x hx).fused _)
          have HLN5 : Hid ((S1.tryFuse (fq : Int)).pages.length = z) := kept ((tryFuse_len S1 _).1.trans HLN1.out)
          have HDN5 : Hid ((S1.tryFuse (fq : Int)).done ≤ 4100) := kept (by rw [(tryFuse_len S1 _).2]; exact HDN1.out)
          clear h13 k13 e13 d13 HFS HS4 HB4
          generalize S1.tryFuse (fq : Int) = S2 at HR13 HS5 HB5 HBE5 HLN5 HDN5
          have HCC := kept (commit_cuts HR13.out.pg HS5.out (by rw [HE4.out.1]; decide) (by have := HDN5.out; omega) (HFW.out _ HR13.out.below) kl)
          rw [HP13.out.1] at HCC
          generalize commitR P4 S2 = R at HCC
          obtain ⟨R1, er⟩ := R
          go_wp2_with (first | (go_at_call 13; (with_reducible refine (HCC.out).mono ?_); rintro e w14 ⟨rfl, h14⟩))
          have HB14 : Hid (Below w.heap.size w w14) := kept (h14.out.2.1.only_new HR13.out.below HR13.out.below.size HR13.out.pn)
          have HBK14 := kept (HBK13.out.turned h14.out.2.1 (fun b hb hj => HR13.out.pg.not_all hb (by decide) (by decide) (by decide) (by decide) (by decide) hj))
          have HK14 := kept (HK13.out.turned h14.out.2.1 (fun b hb hj => HR13.out.pg.not_all hb (by decide) (by decide) (by decide) (by decide) (by decide) hj))
          have HCR := kept (crash_any p13.d R1 A5 n5 c5 kl w14 h14.out.1 (HKP5.out _ HB14.out) (by omega))
          rw [HP13.out.2] at HCR
          go_wp2_with (first | (go_at_call 17; (with_reducible refine (HCR.out).mono ?_); rintro e w15 ⟨rfl, h15⟩))
          have HCUT : Hid (Cut S2 Q P4 (R1, er) (R1.crash kl)) := kept h14.out.2.2
          have HB15 : Hid (Below w.heap.size w w15) := kept (h15.out.2.only_new HB14.out HB14.out.size (fun i hi => HR13.out.pn i (.inr hi)))
          have HBK15 := kept (HBK14.out.turned h15.out.2 (fun b hb hj => h14.out.1.own_cl hb (by decide) (by decide) hj))
          have HK15 := kept (HK14.out.turned h15.out.2 (fun b hb hj => h14.out.1.own_cl hb (by decide) (by decide) hj))
          have HD15 := kept h15.out.1
          clear h14 h15 HCR HCC HBK14 HK14 HBK13 HK13 HBK12 HK12 HBK11 HK11
          generalize R1.crash kl = C at HCUT HD15
          have HOP := kept (open_ok p13.d C w15 HD15.out (by rw [HCUT.out.fuse]; decide) (HFW.out _ HB15.out) HCUT.out.op)
          rw [HP13.out.2] at HOP
          have her : er = 0 ∨ er = 10 := HCUT.out.er
          have HN15 : Hid (0 ≤ 1000) := kept (by omega)
          have hcl := HCUT.out.len
          rcases HCUT.out.way with ⟨wA, hAf⟩ | ⟨hne, wB, hpg⟩
          · have HBN : Hid (∀ x ∈ lb ++ l10, Bears (nextP P4) C x) := kept (fun x hx => (HB5.out x hx).commit HR13.out.pg.ok (by rw [HLN5.out]; omega) hAf hcl)
            have htn : (nextP P4).M.txn = 3 := by show P4.M.txn + 1 = 3; rw [HE4.out.1]
            have hrn : (nextP P4).root = (0 : Int) := HE4.out.2
            have HTN3 := kept htn
            have HRN3 := kept hrn
            rw [wA] at HOP
            clear wA hAf hcl htn hrn
            rcases her with her | her
            · subst her
              go_wp2_with (first | (go_at_call 18; (with_reducible refine (HOP.out).mono ?_); rintro e w16 ⟨q, rfl, h16⟩; have HQ16 := kept h16.out.2.1; have HB16 := kept (HB15.out.trans (h16.out.2.2.1.mono HB15.out.size)); have HBK16 := kept (HBK15.out.below h16.out.2.2.1); have HTQ := kept (txn_any HQ16.out); rw [HTN3.out, show ((3 : Nat) : Int) = 3 from rfl] at HTQ; have HRQ := kept (root_any HQ16.out); rw [HRN3.out] at HRQ; have HSH := kept (showsk_any HQ16.out (by rw [HCUT.out.fuse]; decide) (HFW.out _ HB16.out) A11 0 c11 (lb ++ l10) HBK16.out.reads HN15.out HBN.out); clear h16) | (go_at_call 14; (with_reducible refine (HTQ.out).mono ?_); rintro e w17 ⟨rfl, rfl⟩) | (go_at_call 12; (with_reducible refine (HRQ.out).mono ?_); rintro e w18 ⟨rfl, rfl⟩) | (go_at_call 19; (with_reducible refine (HSH.out).mono ?_); rintro e w19 ⟨rfl, hb19⟩))
              go_ret
              exact ⟨rfl, HB16.out.trans (hb19.mono HB16.out.size)⟩
            · subst her
              go_wp2_with (first | (go_at_call 18; (with_reducible refine (HOP.out).mono ?_); rintro e w16 ⟨q, rfl, h16⟩; have HQ16 := kept h16.out.2.1; have HB16 := kept (HB15.out.trans (h16.out.2.2.1.mono HB15.out.size)); have HBK16 := kept (HBK15.out.below h16.out.2.2.1); have HTQ := kept (txn_any HQ16.out); rw [HTN3.out, show ((3 : Nat) : Int) = 3 from rfl] at HTQ; have HRQ := kept (root_any HQ16.out); rw [HRN3.out] at HRQ; have HSH := kept (showsk_any HQ16.out (by rw [HCUT.out.fuse]; decide) (HFW.out _ HB16.out) A11 0 c11 (lb ++ l10) HBK16.out.reads HN15.out HBN.out); clear h16) | (go_at_call 14; (with_reducible refine (HTQ.out).mono ?_); rintro e w17 ⟨rfl, rfl⟩) | (go_at_call 12; (with_reducible refine (HRQ.out).mono ?_); rintro e w18 ⟨rfl, rfl⟩) | (go_at_call 19; (with_reducible refine (HSH.out).mono ?_); rintro e w19 ⟨rfl, hb19⟩))
              go_ret
              exact ⟨rfl, HB16.out.trans (hb19.mono HB16.out.size)⟩
          · have HBQ : Hid (∀ x ∈ l4, Bears Q C x) := kept (fun x hx => (HBE5.out x hx).cut_elder HQ1.out.2.2 hcl hpg)
            rw [wB] at HOP
            have her10 : er = 10 := by rcases her with e | e; exact absurd e hne; exact e
            subst her10
            clear wB hpg hcl hne her
            go_wp2_with (first | (go_at_call 18; (with_reducible refine (HOP.out).mono ?_); rintro e w16 ⟨q, rfl, h16⟩; have HQ16 := kept h16.out.2.1; have HB16 := kept (HB15.out.trans (h16.out.2.2.1.mono HB15.out.size)); have HK16 := kept (HK15.out.below h16.out.2.2.1); have HTQ := kept (txn_any HQ16.out); rw [HQ1.out.1, show ((2 : Nat) : Int) = 2 from rfl] at HTQ; have HRQ := kept (root_any HQ16.out); rw [HQ1.out.2.1] at HRQ; have HSH := kept (showsk_any HQ16.out (by rw [HCUT.out.fuse]; decide) (HFW.out _ HB16.out) (some ⟨g4, 0, none⟩) n4 c4 l4 HK16.out.reads (by omega) HBQ.out); clear h16) | (go_at_call 14; (with_reducible refine (HTQ.out).mono ?_); rintro e w17 ⟨rfl, rfl⟩) | (go_at_call 12; (with_reducible refine (HRQ.out).mono ?_); rintro e w18 ⟨rfl, rfl⟩) | (go_at_call 19; (with_reducible refine (HSH.out).mono ?_); rintro e w19 ⟨rfl, hb19⟩))
            go_ret
            exact ⟨rfl, HB16.out.trans (hb19.mono HB16.out.size)⟩
        · obtain ⟨N1, rfl⟩ : ∃ N1, N = N1 + 1 := ⟨N - 1, by omega⟩
          go_wp2_with (first | (at_builtin; refine wpList_append_bk rfl _ _ rfl rfl rfl HBK10.out HO10.out.reads hmm10 ?_; intro A11 c11 w11 h11 t11 g11; rw [hN] at h11 ⊢; obtain ⟨b11, o11, hA11, _, _⟩ := h11.form (by omega); subst hA11; have hll11 := h11.reads.1; obtain ⟨b', o', he, q0', q1'⟩ := h11.reads.at_ (k := N1) (by omega) (by omega); cases he; have HBX := kept (HB3.out _ (List.getElem_mem (l := lb ++ l10) (n := N1) (by omega))).away.1; generalize ((lb ++ l10)[N1]'(by omega)).1 = nx at q0' HBX; have HBK11 := kept h11; have HR11 := kept (HR10.out.kept_turn HBK10.out (fun g hg => (HA10.out g hg).1) t11); have HK11 := kept (HK10.out.turned_at t11 (fun g hg hb => (HA10.out g hb).2 hg)); clear h11 t11 g11 q1'))
          have HRTN : Hid (nx = 0 ∨ (2 ≤ nx ∧ nx < (S1.pages.length : Int))) := kept (.inr HBX.out)
          have HSR := kept (setRoot_any HR11.out.pg nx)
          have HS4 := kept (HS3.out.root_ HRTN.out)
          obtain ⟨P4, hP4⟩ : ∃ P4 : PSt, ({ P3 with root := nx } : PSt) = P4 := ⟨_, rfl⟩
          have HE4 : Hid (P4.M.txn = 2 ∧ P4.root = nx) := kept (by subst hP4; exact ⟨HM3.out, rfl⟩)
          have HB4 : Hid (∀ x ∈ lb ++ l10, Bears P4 S1 x) := kept (fun x hx => by subst hP4; exact (HB3.out x hx).root_ _)
          rw [hP4, HP10.out.1] at HSR
          rw [hP4] at HS4
          clear hP4
          go_wp2_with (first | (go_at_call 11; (with_reducible refine (HSR.out).mono ?_); rintro e w12 ⟨rfl, h12⟩))
          obtain ⟨p12, e12, d12, k12⟩ := HR11.out.step h12.out
          have HR12 := kept k12
          have HP12 : Hid (p12.r = q0 ∧ p12.d.r = dq) := kept ⟨e12.trans HP10.out.1, by rw [d12]; exact HP10.out.2⟩
          have HBK12 := kept (HBK11.out.turned h12.out.choose_spec.2.2.2.1 (fun b hb hj => HR11.out.pg.not_all hb (by decide) (by decide) (by decide) (by decide) (by decide) hj))
          have HK12 := kept (HK11.out.turned h12.out.choose_spec.2.2.2.1 (fun b hb hj => HR11.out.pg.not_all hb (by decide) (by decide) (by decide) (by decide) (by decide) hj))
          have hatf := HATF.out
          simp only [hatf]
          clear hatf
          generalize (IntKind.u64.wrap fu).tmod 60 = rr3
          generalize IntKind.u64.wrap fu = rr4
          have HFS := kept (pfuse_any HR12.out.pg (fq : Int) (by omega))
          rw [HP12.out.2] at HFS
          clear h12 k12 e12 d12
          go_wp2_with (first | (go_at_call 16; (with_reducible refine (HFS.out).mono ?_); rintro e w13 ⟨rfl, h13⟩))
          obtain ⟨p13, e13, d13, k13⟩ := HR12.out.step h13.out
          have HR13 := kept k13
          have HP13 : Hid (p13.r = q0 ∧ p13.d.r = dq) := kept ⟨e13.trans HP12.out.1, by rw [d13]; exact HP12.out.2⟩
          have HBK13 := kept (HBK12.out.turned h13.out.choose_spec.2.2.2.1 (fun b hb hj => HR12.out.pg.not_all hb (by decide) (by decide) (by decide) (by decide) (by decide) hj))
          have HK13 := kept (HK12.out.turned h13.out.choose_spec.2.2.2.1 (fun b hb hj => HR12.out.pg.not_all hb (by decide) (by decide) (by decide) (by decide) (by decide) hj))
          have HS5 := kept (HS4.out.tryFuse (fq : Int))
          have HB5 : Hid (∀ x ∈ lb ++ l10, Bears P4 (S1.tryFuse (fq : Int)) x) := kept (fun x hx => (HB4.out x hx).fused _)
          have HBE5 : Hid (∀ x ∈ l4, Bears Q (S1.tryFuse (fq : Int)) x) := kept (fun x hx => (HBE.out x hx).fused _)
          have HLN5 : Hid ((S1.tryFuse (fq : Int)).pages.length = z) := kept ((tryFuse_len S1 _).1.trans HLN1.out)
          have HDN5 : Hid ((S1.tryFuse (fq : Int)).done ≤ 4100) := kept (by rw [(tryFuse_len S1 _).2]; exact HDN1.out)
          clear h13 k13 e13 d13 HFS HS4 HB4
          generalize S1.tryFuse (fq : Int) = S2 at HR13 HS5 HB5 HBE5 HLN5 HDN5
          have HCC := kept (commit_cuts HR13.out.pg HS5.out (by rw [HE4.out.1]; decide) (by have := HDN5.out; omega) (HFW.out _ HR13.out.below) kl)
          rw [HP13.out.1] at HCC
          generalize commitR P4 S2 = R at HCC
          obtain ⟨R1, er⟩ := R
          go_wp2_with (first | (go_at_call 13; (with_reducible refine (HCC.out).mono ?_); rintro e w14 ⟨rfl, h14⟩))
          have HB14 : Hid (Below w.heap.size w w14) := kept (h14.out.2.1.only_new HR13.out.below HR13.out.below.size HR13.out.pn)
          have HBK14 := kept (HBK13.out.turned h14.out.2.1 (fun b hb hj => HR13.out.pg.not_all hb (by decide) (by decide) (by decide) (by decide) (by decide) hj))
          have HK14 := kept (HK13.out.turned h14.out.2.1 (fun b hb hj => HR13.out.pg.not_all hb (by decide) (by decide) (by decide) (by decide) (by decide) hj))
          have HCR := kept (crash_any p13.d R1 A5 n5 c5 kl w14 h14.out.1 (HKP5.out _ HB14.out) (by omega))
          rw [HP13.out.2] at HCR
          go_wp2_with (first | (go_at_call 17; (with_reducible refine (HCR.out).mono ?_); rintro e w15 ⟨rfl, h15⟩))
          have HCUT : Hid (Cut S2 Q P4 (R1, er) (R1.crash kl)) := kept h14.out.2.2
          have HB15 : Hid (Below w.heap.size w w15) := kept (h15.out.2.only_new HB14.out HB14.out.size (fun i hi => HR13.out.pn i (.inr hi)))
          have HBK15 := kept (HBK14.out.turned h15.out.2 (fun b hb hj => h14.out.1.own_cl hb (by decide) (by decide) hj))
          have HK15 := kept (HK14.out.turned h15.out.2 (fun b hb hj => h14.out.1.own_cl hb (by decide) (by decide) hj))
          have HD15 := kept h15.out.1
          clear h14 h15 HCR HCC HBK14 HK14 HBK13 HK13 HBK12 HK12 HBK11 HK11
          generalize R1.crash kl = C at HCUT HD15
          have HOP := kept (open_ok p13.d C w15 HD15.out (by rw [HCUT.out.fuse]; decide) (HFW.out _ HB15.out) HCUT.out.op)
          rw [HP13.out.2] at HOP
          have her : er = 0 ∨ er = 10 := HCUT.out.er
          have HN15 : Hid ((N1 + 1) ≤ 1000) := kept (by omega)
          have hcl := HCUT.out.len
          rcases HCUT.out.way with ⟨wA, hAf⟩ | ⟨hne, wB, hpg⟩
          · have HBN : Hid (∀ x ∈ lb ++ l10, Bears (nextP P4) C x) := kept (fun x hx => (HB5.out x hx).commit HR13.out.pg.ok (by rw [HLN5.out]; omega) hAf hcl)
            have htn : (nextP P4).M.txn = 3 := by show P4.M.txn + 1 = 3; rw [HE4.out.1]
            have hrn : (nextP P4).root = nx := HE4.out.2
            have HTN3 := kept htn
            have HRN3 := kept hrn
            rw [wA] at HOP
            clear wA hAf hcl htn hrn
            rcases her with her | her
            · subst her
              go_wp2_with (first | (go_at_call 18; (with_reducible refine (HOP.out).mono ?_); rintro e w16 ⟨q, rfl, h16⟩; have HQ16 := kept h16.out.2.1; have HB16 := kept (HB15.out.trans (h16.out.2.2.1.mono HB15.out.size)); have HBK16 := kept (HBK15.out.below h16.out.2.2.1); have HTQ := kept (txn_any HQ16.out); rw [HTN3.out, show ((3 : Nat) : Int) = 3 from rfl] at HTQ; have HRQ := kept (root_any HQ16.out); rw [HRN3.out] at HRQ; have HSH := kept (showsk_any HQ16.out (by rw [HCUT.out.fuse]; decide) (HFW.out _ HB16.out) (some ⟨b11, o11, none⟩) (N1 + 1) c11 (lb ++ l10) HBK16.out.reads HN15.out HBN.out); clear h16) | (go_at_call 14; (with_reducible refine (HTQ.out).mono ?_); rintro e w17 ⟨rfl, rfl⟩) | (go_at_call 12; (with_reducible refine (HRQ.out).mono ?_); rintro e w18 ⟨rfl, rfl⟩) | (go_at_call 19; (with_reducible refine (HSH.out).mono ?_); rintro e w19 ⟨rfl, hb19⟩))
              go_ret
              exact ⟨rfl, HB16.out.trans (hb19.mono HB16.out.size)⟩
            · subst her
              go_wp2_with (first | (go_at_call 18; (with_reducible refine (HOP.out).mono ?_); rintro e w16 ⟨q, rfl, h16⟩; have HQ16 := kept h16.out.2.1; have HB16 := kept (HB15.out.trans (h16.out.2.2.1.mono HB15.out.size)); have HBK16 := kept (HBK15.out.below h16.out.2.2.1); have HTQ := kept (txn_any HQ16.out); rw [HTN3.out, show ((3 : Nat) : Int) = 3 from rfl] at HTQ; have HRQ := kept (root_any HQ16.out); rw [HRN3.out] at HRQ; have HSH := kept (showsk_any HQ16.out (by rw [HCUT.out.fuse]; decide) (HFW.out _ HB16.out) (some ⟨b11, o11, none⟩) (N1 + 1) c11 (lb ++ l10) HBK16.out.reads HN15.out HBN.out); clear h16) | (go_at_call 14; (with_reducible refine (HTQ.out).mono ?_); rintro e w17 ⟨rfl, rfl⟩) | (go_at_call 12; (with_reducible refine (HRQ.out).mono ?_); rintro e w18 ⟨rfl, rfl⟩) | (go_at_call 19; (with_reducible refine (HSH.out).mono ?_); rintro e w19 ⟨rfl, hb19⟩))
              go_ret
              exact ⟨rfl, HB16.out.trans (hb19.mono HB16.out.size)⟩
          · have HBQ : Hid (∀ x ∈ l4, Bears Q C x) := kept (fun x hx => (HBE5.out x hx).cut_elder HQ1.out.2.2 hcl hpg)
            rw [wB] at HOP
            have her10 : er = 10 := by rcases her with e | e; exact absurd e hne; exact e
            subst her10
            clear wB hpg hcl hne her
            go_wp2_with (first | (go_at_call 18; (with_reducible refine (HOP.out).mono ?_); rintro e w16 ⟨q, rfl, h16⟩; have HQ16 := kept h16.out.2.1; have HB16 := kept (HB15.out.trans (h16.out.2.2.1.mono HB15.out.size)); have HK16 := kept (HK15.out.below h16.out.2.2.1); have HTQ := kept (txn_any HQ16.out); rw [HQ1.out.1, show ((2 : Nat) : Int) = 2 from rfl] at HTQ; have HRQ := kept (root_any HQ16.out); rw [HQ1.out.2.1] at HRQ; have HSH := kept (showsk_any HQ16.out (by rw [HCUT.out.fuse]; decide) (HFW.out _ HB16.out) (some ⟨g4, 0, none⟩) n4 c4 l4 HK16.out.reads (by omega) HBQ.out); clear h16) | (go_at_call 14; (with_reducible refine (HTQ.out).mono ?_); rintro e w17 ⟨rfl, rfl⟩) | (go_at_call 12; (with_reducible refine (HRQ.out).mono ?_); rintro e w18 ⟨rfl, rfl⟩) | (go_at_call 19; (with_reducible refine (HSH.out).mono ?_); rintro e w19 ⟨rfl, hb19⟩))
            go_ret
            exact ⟨rfl, HB16.out.trans (hb19.mono HB16.out.size)⟩
theorem kp_of {w : World} {A : Option Addr} {n : Nat} {K N : Nat → Int} (h : RdPairs w A n K N) : Kp w A n ((List.range n).map fun i => (K i, N i)) := by
  refine ⟨by simp, fun q hq => ?_, ?_⟩
  · obtain ⟨i, hi, rfl⟩ := List.mem_map.1 hq
    obtain ⟨f1, f2⟩ := h.fits i (List.mem_range.1 hi)
    simp [Lit.wf, IntKind.min, IntKind.max, IntKind.signed, IntKind.bits] at f1 f2
    exact ⟨⟨by show _ ≤ K i; omega, by show K i ≤ _; omega⟩, ⟨by show _ ≤ N i; omega, by show N i ≤ _; omega⟩⟩
  · rcases Nat.eq_zero_or_pos n with h0 | h0
    · exact .inl h0
    · obtain ⟨⟨b, o, s⟩, e, hc⟩ := h.cell h0
      have hs : s = none := by
        have := World.cell?_spot (hc 0 h0).1
        simpa [Addr.add] using this
      subst hs
      refine .inr ⟨b, o, e, fun i hi => ?_⟩
      have hi2 : i < n := by simpa using hi
      have := hc i hi2
      rw [add_at, add_at] at this
      simpa [Nat.add_assoc] using this
theorem walk (w : World) (hF : Fours w) (a : Int) (ha : (Lit.int .i64 a).wf = true) (A1 : Option Addr) (n1 c1 : Nat) (nc1 : n1 ≤ c1) (cm1 : c1 ≤ maxLen) (X1 : Nat → ByteArray) (r1 : RdVals w A1 n1 (fun i => .string (X1 i)) ∧ ∀ i, i < n1 → (X1 i).size ≤ maxLen) (A2 : Option Addr) (n2 c2 : Nat) (nc2 : n2 ≤ c2) (cm2 : c2 ≤ maxLen) (X2 : Nat → ByteArray) (r2 : RdVals w A2 n2 (fun i => .string (X2 i)) ∧ ∀ i, i < n2 → (X2 i).size ≤ maxLen)
    (A3 : Option Addr) (n3 c3 : Nat) (nc3 : n3 ≤ c3) (cm3 : c3 ≤ maxLen) (Z : Nat → Int) (r3 : RdVals w A3 n3 (fun i => .int .i64 (Z i))) (w3 : ∀ i, i < n3 → (Lit.int .i64 (Z i)).wf = true) (fu : Int) (hfu : (Lit.int .i64 fu).wf = true) (A5 : Option Addr) (n5 c5 : Nat) (nc5 : n5 ≤ c5) (cm5 : c5 ≤ maxLen) (K N : Nat → Int) (r5 : RdPairs w A5 n5 K N) :
    Calls Tryz.prog 3 #[.int .i64 a, .slice A1 n1 c1, .slice A2 n2 c2, .slice A3 n3 c3, .int .i64 fu, .slice A5 n5 c5] w fun e w' => e = .returned (.bool true) ∧ Below w.heap.size w w' := by
  by_cases h : n1 ≤ 20 ∧ n2 ≤ 20 ∧ n3 ≤ 40 ∧ n5 ≤ 60
  · exact walked_law w hF a fu A1 n1 c1 X1 r1.1 r1.2 A2 n2 c2 X2 r2.1 r2.2 A3 n3 c3 Z r3 A5 n5 c5 _ (kp_of r5) h.1 h.2.1 h.2.2.1 h.2.2.2
  · exact walk_out w hF a fu A1 n1 c1 A2 n2 c2 A3 n3 c3 A5 n5 c5 (by omega) (by omega) (by omega) (by omega) (by omega)
end Go.Proofs.YtdjcahhofonclaaGreatDoor.pagerKeeps
end
