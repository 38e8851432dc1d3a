/- Rfg Rfn -/
import Derived.Test.YtcapcobkildmcaaGreatDoorBRfc
import Derived.Test.YtcapcobkildmcaaGreatDoorBDq
section
namespace Go.Proofs.YtcapcobkildmcaaGreatDoor
open Go.ChangeShapes Go.WideShapes Go.ChangeAt Go.RowKit
set_option linter.unusedVariables false
set_option linter.unusedSimpArgs false
set_option maxRecDepth 100000
set_option maxHeartbeats 16000000
theorem Sim.clear {S : St} {R : RSt} (h : Sim S R) (ho : S.ok) (F : Int → List UInt8 → List UInt8 → List UInt8) (new : Nat → List UInt8) (hF : ∀ i xs, S.cache (i : Nat) = some xs → F i xs (S.pages.getD i []) = new i) :
 Sim { S with pages := S.laidAll new, cache := fun _ => none } { R with pages := layAll F R.cache R.pages, cache := [] } :=
 ⟨layAll_laid h ho F new hF, h.done, List.nodup_nil, fun _ => rfl, h.dead, h.fuse, h.lo, h.hi, Nat.zero_le _⟩
theorem Sim.sync {S : St} {R : RSt} (h : Sim S R) (ho : S.ok) (hf : S.fuse ≠ 0) : Sim S.sync ({ R with pages := layAll F0 R.cache R.pages, cache := [] } : RSt).did :=
 Sim.did (h.clear ho F0 (fun i => S.page (i : Int)) (fun i xs e => by
  show xs = (S.cache (i : Int)).getD _; rw [e]; rfl)) hf
theorem rsync_any (base r : Nat) (S : St) (R : RSt) (w : World) (h : RefD w base r R) (hs : Sim S R) (ho : S.ok) (hd : S.done ≤ 10000) :
 Calls Tryz.prog 40 #[.pointer (some ⟨r, 0, none⟩)] w fun e w' => e = .returned (.int .i64 (syncE S)) ∧ Hid (RLeft w base r S.trySync w') := by
 unfold syncE St.trySync; by_cases hf : S.fuse = 0
 · rw [if_pos hf, if_pos hf]; exact (rsync_no base r R w h (by rw [hs.dead, hf]; rfl)).mono fun e w' ⟨h1, h2⟩ => by subst h2; exact ⟨h1, kept ⟨R, h, hs, Turned.refl _ _⟩⟩
 · rw [if_neg hf, if_neg hf]; exact (rsync_ok base r S R w h hs ho (by rw [hs.dead]; simp [hf]) hd).mono fun e w' ⟨h1, h2⟩ => ⟨h1, kept ⟨_, h2.out.1, hs.sync ho hf, h2.out.2⟩⟩
def NewR (w : World) (r k : Nat) (v : Value) (wr : World) : Prop :=
 ∃ ps, Blk wr r 188 [v, .slice none 0 0, .int .i64 (-1), .bool false, .int .i64 0] ∧ w.heap.size ≤ r ∧ wr.ownsRow w.heap.size 46 1 v k ps ∧ RowsP wr ps (List.replicate k noughts) ∧ Below w.heap.size w wr
theorem noughts_made : cellsOf noughts = List.replicate 256 (Value.int .u8 0) := by rw [noughts_cells]; rfl
theorem rowV_new (w : World) : RowV (w.alloc (.cells (List.replicate 256 (Value.int .u8 0)).toArray 5)) (.slice (some ⟨w.heap.size, 0, none⟩) 256 256) noughts := by
 have hb : Blk (w.alloc (.cells (List.replicate 256 (Value.int .u8 0)).toArray 5)) w.heap.size 5 (cellsOf noughts) := by
  rw [noughts_made]; exact Blk.new w 5 _
 exact ⟨_, _, _, _, rfl, Nat.le_refl _, hb, hb.rd noughts_length⟩
theorem NewR.done {w wr : World} {r k : Nat} {v : Value} (h : NewR w r k v wr) (h8 : 8 ≤ k) : RefD wr w.heap.size r ⟨List.replicate k noughts, [], -1, false, 0⟩ ∧ Sim (fresh k) ⟨List.replicate k noughts, [], -1, false, 0⟩ ∧ Below w.heap.size w wr := by
 obtain ⟨ps, hb, hr, ho, hrp, hbl⟩ := h; refine ⟨?_, ⟨rfl, rfl, List.nodup_nil, fun _ => rfl, (by simp [fresh]), fun _ => rfl, Int.le_refl _, (by show (-1 : Int) ≤ _; omega), Nat.le_refl _⟩, hbl⟩; rcases ho.2 with ⟨_, h0⟩ | ⟨g, cap, cur, hv, _⟩
 · omega
 · subst hv; refine ⟨g, cap, none, 0, ps, [], ?_, hr, ?_, hrp, ⟨rfl, .inl ⟨rfl, rfl⟩⟩, ⟨rfl, fun j h1 => absurd h1 (by simp)⟩⟩
   · simpa using hb
   · simpa using ho
theorem NewR.more {w wr w1 w2 : World} {r k : Nat} {v v' : Value} {ps : List Value} {u : Value} (hb : Blk wr r 188 [v, .slice none 0 0, .int .i64 (-1), .bool false, .int .i64 0]) (hr : w.heap.size ≤ r) (ho : wr.ownsRow w.heap.size 46 1 v k ps) (hrp : RowsP wr ps (List.replicate k noughts)) (hbl : Below w.heap.size w wr)
 (h1 : Below wr.heap.size wr w1) (hu : RowV w1 u noughts) (ho2 : w2.ownsRow w.heap.size 46 1 v' (k + 1) (ps ++ [u])) (hg : w1.grownBy w2 v.ownBlock) :
 NewR w r (k + 1) v' (w2.setCell ⟨r, 0, none⟩ v') ∧ w2.cell? ⟨r, 0, none⟩ = some v ∧ w2.frozen? ⟨r, 0, none⟩ = false := by
 have hown : ∀ j, v.ownBlock = some j → ∃ cur, w1.heap[j]? = some (.cells cur 46 (0, 0)) ∧ w.heap.size ≤ j := fun j hj => by
  rcases ho.2 with ⟨hv, _⟩ | ⟨g, cap, cur, hv, hb', hg', _⟩
  · subst hv; simp [Value.ownBlock] at hj
  · subst hv; have e : g = j := by simpa [Value.ownBlock] using hj
    subst e; exact ⟨cur, (h1.block g (Array.getElem?_eq_some_iff.1 hg').1).trans hg', hb'⟩
 have hT : Turned w1 w2 (fun j => v.ownBlock = some j) := Turned.of_grown hg (fun j e => e); have hb1 : Blk w1 r 188 [v, .slice none 0 0, .int .i64 (-1), .bool false, .int .i64 0] := (Turned.of_below h1 (fun _ => False)).blk hb id; have hb2 := hT.blk hb1 (fun e => by
  obtain ⟨cur, hc, _⟩ := hown r e; unfold Blk at hb1; rw [hb1] at hc; simp at hc)
 have t : Turned w2 (w2.setCell ⟨r, 0, none⟩ v') (fun j => j = r) := (Turned.refl w2 _).cell_r 0 v'; have hne : ∀ j c ty fr, w2.heap[j]? = some (.cells c ty fr) → ty ≠ 188 → ¬ j = r := fun j c ty fr hj hty e => by
  subst e; unfold Blk at hb2; rw [hb2] at hj; simp at hj; exact hty hj.2.1.symm
 refine ⟨⟨ps ++ [u], ?_, hr, own_turned ho2 t (fun j c fr hj => hne j c _ fr hj (by decide)), ?_, ?_⟩, hb2.cell 0, hb2.frozen 0⟩
 · simpa using hb2.set_ 0 v'
 · have hp1 : RowsP w1 ps (List.replicate k noughts) := hrp.turned (Turned.of_below h1 (fun _ => False)) (fun _ _ _ _ => id); have n8 : ∀ i c fr, w1.heap[i]? = some (.cells c 5 fr) → ¬ v.ownBlock = some i := fun i c fr hi e => by
    obtain ⟨cur, hc, _⟩ := hown i e; rw [hc] at hi; simp at hi
   have hp2 := hp1.turned hT n8; have hu2 := hu.turned hT n8; refine RowsP.turned ?_ t (fun j c fr hj => hne j c _ fr hj (by decide)); refine ⟨by simp [hp2.1], fun i h1 h2 => ?_⟩; by_cases hi : i < ps.length
   · have hik : i < (List.replicate k noughts).length := by rw [← hp2.1]; exact hi
     have := hp2.2 i hi hik; rw [List.getElem_append_left hi]; simpa using this
   · have e : i = ps.length := by simp at h1; omega
     subst e; rw [List.getElem_append_right (Nat.le_refl _)]; simpa using hu2
 · have hbw : Below w.heap.size w w1 := below_on h1 hbl; have hbw2 : Below w.heap.size w w2 := Turned.only_new hbw hT hbw.size (fun j e => (hown j e).choose_spec.2); exact Turned.only_new hbw2 t hbw2.size (fun j e => by subst e; exact hr)
def NewA (w : World) (r k : Nat) (wr : World) : Prop := ∃ A c, NewR w r k (.slice A k c) wr
theorem rnew_any (n : Nat) (w : World) (h1 : 8 ≤ n) (h2 : n ≤ 1024) :
 Calls Tryz.prog 35 #[.int .i64 (n : Int)] w fun e w' => e = .returned (.pointer (some ⟨w.heap.size, 0, none⟩)) ∧ Hid (RefD w' w.heap.size w.heap.size ⟨List.replicate n noughts, [], -1, false, 0⟩ ∧ Sim (fresh n) ⟨List.replicate n noughts, [], -1, false, 0⟩ ∧ Below w.heap.size w w') := by
 obtain ⟨Z, hz⟩ : ∃ Z, Obj.cells (List.replicate 256 (Value.int .u8 0)).toArray 5 (0, 0) = Z := ⟨_, rfl⟩
 have hmk : ∀ W : World, (Instr.makeSlice 46 (.int .i64 256) (.int .i64 256)).run Tryz.prog W = .ok (.slice (some ⟨W.heap.size, 0, none⟩) 256 256) (W.alloc Z) := fun W => by rw [← hz]; exact make_bytes W
 have HZ : Hid (∀ W : World, RowV (W.alloc Z) (.slice (some ⟨W.heap.size, 0, none⟩) 256 256) noughts) := kept (fun W => by rw [← hz]; exact rowV_new W); clear hz; have H0 : Hid (NewA w w.heap.size 0 (w.alloc (.cells #[.slice none 0 0, .slice none 0 0, .int .i64 (-1), .bool false, .int .i64 0] 188))) := kept ⟨none, 0, [], Blk.new w 188 _, Nat.le_refl _, ⟨rfl, .inl ⟨rfl, rfl⟩⟩, ⟨rfl, fun i h => absurd h (by simp)⟩, (Below.refl _ w).alloc (Nat.le_refl _) _⟩; go_enter Tryz.func35, Tryz.ntmps35; go_wp2; go_loopw [4] (fun i wr => ∃ k : Nat, k ≤ n ∧ i = .int .i64 (k : Int) ∧ Hid (NewA w w.heap.size k wr)) (fun i _ => n - (intOf i).toNat)
 case atStart => exact ⟨0, Nat.zero_le _, rfl, H0⟩
 case round =>
  obtain ⟨k, hkn, rfl, HR⟩ := hrel; by_cases hlt : k < n
  · obtain ⟨A, c, ps, hb, hr, ho, hrp, hbl⟩ := HR.out; have d1 : wr.cell? ⟨w.heap.size, 0, none⟩ = some (.slice A k c) := hb.cell 0; have hrl : w.heap.size < wr.heap.size := hb.lt; have d2 : ∀ o, (wr.alloc o).cell? ⟨w.heap.size, 0, none⟩ = some (.slice A k c) := fun o => (World.cell?_alloc_lt wr o ⟨w.heap.size, 0, none⟩ hrl).trans d1
    have d3 : ∀ o o', ((wr.alloc o).alloc o').cell? ⟨w.heap.size, 0, none⟩ = some (.slice A k c) := fun o o' => (World.cell?_alloc_lt (wr.alloc o) o' ⟨w.heap.size, 0, none⟩ (Nat.lt_of_lt_of_le hrl (alloc_le _ _))).trans (d2 o)
    have HB := kept hb; have HRR := kept hr; have HO := kept ho; have HRP := kept hrp; have HBL := kept hbl; have HBA : Hid (∀ o o', Below wr.heap.size wr ((wr.alloc o).alloc o')) := kept (fun o o' => (((Below.refl _ wr).alloc (Nat.le_refl _) o).alloc (alloc_le _ _) o')); have hk1 : (k : Int) < (n : Int) := by omega
    clear hb hr ho hrp hbl HR H0 hrl; go_wp2
    go_region_law (first
     | (refine step_append_mine rfl _ _ 185 rfl w.heap.size 46 1 24 Tryz.underlying185 (z := .slice none 0 0) (by kernel_rfl) rfl (by omega) A k c ps rfl (own_turned HO.out (Turned.of_below (HBA.out _ _).drew (fun _ => False)) (fun _ _ _ _ => id)) ⟨wr.heap.size + 1, 0, none⟩ 1 1 [.slice (some ⟨wr.heap.size, 0, none⟩) 256 256] rfl rfl (by omega) (by have := new_cells (wr.alloc Z) 46 [.slice (some ⟨wr.heap.size, 0, none⟩) 256 256]; rw [World.size_alloc] at this; exact this) (fun u hu => by simp at hu; subst hu; rfl) (by unfold maxLen; omega) (by omega) (Nat.le_trans HBL.out.size (HBA.out _ _).size) ?_; intro A2 c2 w2 hown2 hg2; have HP : Hid (NewR w w.heap.size (k + 1) (.slice A2 (k + 1) c2) (w2.setCell ⟨w.heap.size, 0, none⟩ (.slice A2 (k + 1) c2)) ∧ w2.cell? ⟨w.heap.size, 0, none⟩ = some (.slice A k c) ∧ w2.frozen? ⟨w.heap.size, 0, none⟩ = false) := kept (NewR.more HB.out HRR.out HO.out HRP.out HBL.out (HBA.out _ _).drew ((HZ.out wr).turned (Turned.of_below ((Below.refl _ _).alloc (Nat.le_refl _) _).drew (fun _ => False)) (fun _ _ _ _ => id)) hown2 hg2); have y1 := HP.out.2.1; have y2 := HP.out.2.2; clear hown2 hg2))
    all_goals
     go_wp2; go_roundw
     case rel => exact ⟨k + 1, by omega, by go_num, kept ⟨_, _, HP.out.1⟩⟩
     case measure => simp [intOf]; omega
  · obtain rfl : k = n := by omega
    have HE : Hid (RefD wr w.heap.size w.heap.size ⟨List.replicate k noughts, [], -1, false, 0⟩ ∧ Sim (fresh k) ⟨List.replicate k noughts, [], -1, false, 0⟩ ∧ Below w.heap.size w wr) := kept (by obtain ⟨A, c, hN⟩ := HR.out; exact hN.done h1); clear HR; go_wp2; go_ret; exact ⟨rfl, HE⟩
end Go.Proofs.YtcapcobkildmcaaGreatDoor
end
