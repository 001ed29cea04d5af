/- The statement SetBoth, walked. The statement SetPoints, walked: its pieces. -/
import Derived.Test.YtdfllifjbabfjaaGreatDoorGM11
import Derived.Deep.RegionHeld3
import Derived.Deep.DeepCutAuto
namespace Go.Proofs.YtdfllifjbabfjaaGreatDoor
open Go.RowKit Go.Joins

/-- 256 flags in a block. -/
def flagsA (g : Nat → Bool) : Array Value := (boolsV g).toArray
theorem flagsA_get (g : Nat → Bool) (p : Nat) (h : p < 256) : (flagsA g)[p]? = some (.bool (g p)) := by unfold flagsA; simpa using boolsV_get g p h
theorem flagsA_set (g g' : Nat → Bool) (q : Nat) (u : Bool) (hq : g' q = u) (hne : ∀ p, p ≠ q → g' p = g p) : (flagsA g).setIfInBounds q (.bool u) = flagsA g' := by
  unfold flagsA
  rw [List.setIfInBounds_toArray, boolsV_set g g' q u hq hne]
theorem flagsA_made : madeCells #[Value.bool false] 256 = flagsA (fun _ => false) := by
  unfold flagsA
  rw [← boolsV_made]
theorem make256 (w : World) : (Instr.makeSlice 38 (.int .i64 256) (.int .i64 256)).run Tryz.prog w = .ok (.slice (some ⟨w.heap.size, 0, none⟩) 256 256) (w.alloc (.cells (flagsA (fun _ => false)) 4)) := by
  obtain ⟨ib, jb, kb0, kb1, kb2⟩ := info_parts Tryz.infoBool
  have h := run_makeSlice (P := Tryz.prog) w 38 4 ib (.bool false) Tryz.underlying38 jb kb0 .i64 .i64 256 256 (by decide) (by decide) (by rw [kb1]; decide) (by rw [kb2]; decide) (by decide)
  rw [kb1] at h
  rw [h, ← flagsA_made]
  rfl

/-- What stands in the round: the flags of both sets, three rows of flags that are made up to k, and the sets themselves. -/
structure BothInv (S T : BitVec 256) (w wr : World) (bx by' bo ba bl k : Nat) : Prop where
  x : ∀ p, p < 256 → wr.cell? ⟨bx, p, none⟩ = some (.bool (S.getLsbD p))
  y : ∀ p, p < 256 → wr.cell? ⟨by', p, none⟩ = some (.bool (T.getLsbD p))
  o : wr.heap[bo]? = some (.cells (flagsA (fun p => decide (p < k) && (S.getLsbD p || T.getLsbD p))) 4 (0, 0))
  a : wr.heap[ba]? = some (.cells (flagsA (fun p => decide (p < k) && (S.getLsbD p && T.getLsbD p))) 4 (0, 0))
  l : wr.heap[bl]? = some (.cells (flagsA (fun p => decide (p < k) && (S.getLsbD p && !T.getLsbD p))) 4 (0, 0))
  box1 : wr.heap[w.heap.size]? = some (.cells (sa S) 50 (0, 0))
  box2 : wr.heap[w.heap.size + 1]? = some (.cells (sa T) 50 (0, 0))
  below : Below w.heap.size w wr
  hx : bx ≠ bo ∧ bx ≠ ba ∧ bx ≠ bl
  hy : by' ≠ bo ∧ by' ≠ ba ∧ by' ≠ bl
  ho : bo ≠ ba ∧ bo ≠ bl ∧ ba ≠ bl
  hb : w.heap.size + 2 ≤ bo ∧ w.heap.size + 2 ≤ ba ∧ w.heap.size + 2 ≤ bl
theorem step_flags (f : Nat → Bool) (k : Nat) : (flagsA (fun p => decide (p < k) && f p)).setIfInBounds k (.bool (f k)) = flagsA (fun p => decide (p < k + 1) && f p) :=
  flagsA_set _ _ k (f k) (by simp) (fun p hp => by
    by_cases h : p < k
    · have : p < k + 1 := by omega
      simp [h, this]
    · have : ¬ p < k + 1 := by omega
      simp [h, this])
theorem heap_set3 (w : World) (b1 b2 b3 j : Nat) (u1 u2 u3 : Value) (b : Nat) (h1 : b ≠ b1) (h2 : b ≠ b2) (h3 : b ≠ b3) : (((w.setCell ⟨b1, j, none⟩ u1).setCell ⟨b2, j, none⟩ u2).setCell ⟨b3, j, none⟩ u3).heap[b]? = w.heap[b]? := by
  rw [Below.heap_setCell _ _ _ _ h3, Below.heap_setCell _ _ _ _ h2, Below.heap_setCell _ _ _ _ h1]
theorem BothInv.next {S T : BitVec 256} {w wr : World} {bx by' bo ba bl k : Nat} (h : BothInv S T w wr bx by' bo ba bl k) :
    BothInv S T w (((wr.setCell ⟨bo, k, none⟩ (.bool (S.getLsbD k || T.getLsbD k))).setCell ⟨ba, k, none⟩ (.bool (S.getLsbD k && T.getLsbD k))).setCell ⟨bl, k, none⟩ (.bool (S.getLsbD k && !T.getLsbD k))) bx by' bo ba bl (k + 1) where
  x := fun p hp => by rw [World.cell?_of_block (w := wr) (a := ⟨bx, p, none⟩) (heap_set3 _ _ _ _ _ _ _ _ _ h.hx.1 h.hx.2.1 h.hx.2.2)]; exact h.x p hp
  y := fun p hp => by rw [World.cell?_of_block (w := wr) (a := ⟨by', p, none⟩) (heap_set3 _ _ _ _ _ _ _ _ _ h.hy.1 h.hy.2.1 h.hy.2.2)]; exact h.y p hp
  o := by
    rw [Below.heap_setCell _ _ _ _ h.ho.2.1, Below.heap_setCell _ _ _ _ h.ho.1, block_setCell h.o, step_flags]
  a := by
    rw [Below.heap_setCell _ _ _ _ h.ho.2.2, block_setCell ((Below.heap_setCell _ _ _ _ (Ne.symm h.ho.1)).trans h.a), step_flags]
  l := by
    rw [block_setCell ((Below.heap_setCell _ _ _ _ (Ne.symm h.ho.2.2)).trans ((Below.heap_setCell _ _ _ _ (Ne.symm h.ho.2.1)).trans h.l)), step_flags]
  box1 := by rw [heap_set3 _ _ _ _ _ _ _ _ _ (by have := h.hb; omega) (by have := h.hb; omega) (by have := h.hb; omega)]; exact h.box1
  box2 := by rw [heap_set3 _ _ _ _ _ _ _ _ _ (by have := h.hb; omega) (by have := h.hb; omega) (by have := h.hb; omega)]; exact h.box2
  below := ((h.below.setCell (by have := h.hb; show w.heap.size ≤ bo; omega) _).setCell (by have := h.hb; show w.heap.size ≤ ba; omega) _).setCell (by have := h.hb; show w.heap.size ≤ bl; omega) _
  hx := h.hx
  hy := h.hy
  ho := h.ho
  hb := h.hb

theorem three_new (w : World) (o : Obj) (b : Nat) (h0 : w.heap.size ≤ b) (h1 : b < w.heap.size + 3) : (((w.alloc o).alloc o).alloc o).drew.heap[b]? = some o := by
  show (((w.alloc o).alloc o).alloc o).heap[b]? = some o
  have h : b = w.heap.size ∨ b = w.heap.size + 1 ∨ b = w.heap.size + 2 := by omega
  rcases h with rfl | rfl | rfl
  · rw [Below.heap_alloc _ _ _ (by simp; omega), heap_alloc2_old]
  · rw [Below.heap_alloc _ _ _ (by simp), heap_alloc2_new]
  · have e : w.heap.size + 2 = ((w.alloc o).alloc o).heap.size := by simp
    rw [e, heap_alloc_new]
theorem three_old (w : World) (o : Obj) (b : Nat) (h : b < w.heap.size) : (((w.alloc o).alloc o).alloc o).drew.heap[b]? = w.heap[b]? := by
  show (((w.alloc o).alloc o).alloc o).heap[b]? = w.heap[b]?
  rw [Below.heap_alloc _ _ _ (by simp; omega), Below.heap_alloc _ _ _ (by simp; omega), Below.heap_alloc _ _ _ h]
theorem flagsA_zero (f : Nat → Bool) : flagsA (fun p => decide (p < 0) && f p) = flagsA (fun _ => false) := by
  have e : (fun p => decide (p < 0) && f p) = fun _ => false := funext fun p => by simp
  rw [e]
theorem both_start {S T : BitVec 256} {w wc : World} {bx by' : Nat} (hbx : bx < wc.heap.size) (hby : by' < wc.heap.size) (hsz : w.heap.size + 2 ≤ wc.heap.size)
    (hX : ∀ p, p < 256 → wc.cell? ⟨bx, p, none⟩ = some (.bool (S.getLsbD p))) (hY : ∀ p, p < 256 → wc.cell? ⟨by', p, none⟩ = some (.bool (T.getLsbD p)))
    (hbox1 : wc.heap[w.heap.size]? = some (.cells (sa S) 50 (0, 0))) (hbox2 : wc.heap[w.heap.size + 1]? = some (.cells (sa T) 50 (0, 0))) (hB : Below w.heap.size w wc)
    (bo ba bl : Nat) (h1 : wc.heap.size ≤ bo ∧ bo < wc.heap.size + 3) (h2 : wc.heap.size ≤ ba ∧ ba < wc.heap.size + 3) (h3 : wc.heap.size ≤ bl ∧ bl < wc.heap.size + 3) (h4 : bo ≠ ba ∧ bo ≠ bl ∧ ba ≠ bl) :
    BothInv S T w (((wc.alloc (.cells (flagsA (fun _ => false)) 4)).alloc (.cells (flagsA (fun _ => false)) 4)).alloc (.cells (flagsA (fun _ => false)) 4)).drew bx by' bo ba bl 0 where
  x := fun p hp => by rw [World.cell?_of_block (w := wc) (a := ⟨bx, p, none⟩) (three_old wc _ _ hbx)]; exact hX p hp
  y := fun p hp => by rw [World.cell?_of_block (w := wc) (a := ⟨by', p, none⟩) (three_old wc _ _ hby)]; exact hY p hp
  o := by rw [flagsA_zero]; exact three_new wc _ bo h1.1 h1.2
  a := by rw [flagsA_zero]; exact three_new wc _ ba h2.1 h2.2
  l := by rw [flagsA_zero]; exact three_new wc _ bl h3.1 h3.2
  box1 := by rw [three_old wc _ _ (by omega)]; exact hbox1
  box2 := by rw [three_old wc _ _ (by omega)]; exact hbox2
  below := (((hB.alloc (by omega) _).alloc (by simp; omega) _).alloc (by simp; omega) _).drew
  hx := by omega
  hy := by omega
  ho := h4
  hb := by omega
theorem flags_any2 (S : BitVec 256) (w : World) :
    Calls Tryz.prog 47 #[sv S] w fun e w' => ∃ b cap : Nat, e = .returned (.slice (some ⟨b, 0, none⟩) 256 cap) ∧ w.heap.size ≤ b ∧ b < w'.heap.size ∧ (∀ p, p < 256 → w'.cell? ⟨b, p, none⟩ = some (.bool (S.getLsbD p))) ∧ Below w.heap.size w w' :=
  (flags_any S w).mono fun e w' ⟨v, he, hown, hb⟩ => by
    obtain ⟨b, cap, rfl, h1, h2, h3⟩ := flags_form hown
    exact ⟨b, cap, he, h1, h2, h3, hb⟩

theorem BothInv.set {wr : World} {b : Nat} {f : Nat → Bool} {R : BitVec 256} (h : wr.heap[b]? = some (.cells (flagsA (fun p => decide (p < 256) && f p)) 4 (0, 0))) (hR : ∀ p, p < 256 → (decide (p < 256) && f p) = R.getLsbD p) (x : After wr) :
    Calls Tryz.prog 36 #[.slice (some ⟨b, 0, none⟩) 256 256] x.1 fun e w' => e = .returned (sv R) ∧ Below x.1.heap.size x.1 w' := by
  have h1 := refset_any (fun p => decide (p < 256) && f p) b 256 x.1 (Nat.lt_of_lt_of_le (size_of_block h) x.2.size) (fun p hp => After.cell x (by rw [cell_of_block h, flagsA_get _ p hp]))
  rw [bvOf_eq R _ hR] at h1
  exact h1
theorem less_zero (S T : BitVec 256) : S &&& ~~~T = 0 ↔ ∀ p, p < 256 → (S.getLsbD p && !T.getLsbD p) = false := by
  constructor
  · intro h p hp
    have h1 := congrArg (fun x => x.getLsbD p) h
    simp only [BitVec.getLsbD_and, BitVec.getLsbD_not, hp, decide_true, Bool.true_and] at h1
    rw [h1]
    exact BitVec.getLsbD_zero
  · intro h
    apply BitVec.eq_of_getLsbD_eq
    intro p hp
    rw [BitVec.getLsbD_and, BitVec.getLsbD_not]
    have := h p hp
    simp only [hp, decide_true, Bool.true_and, this]
    exact BitVec.getLsbD_zero.symm
set_option maxHeartbeats 1000000 in
set_option maxRecDepth 1000000 in
theorem refwithin_any (S T : BitVec 256) (w : World) :
    Calls Tryz.prog 35 #[sv S, sv T] w fun e w' => e = .returned (.bool (decide (S &&& ~~~T = 0))) ∧ Below w.heap.size w w' := by
  have HF := fun w => flags_any2 S w
  have HG := fun w => flags_any2 T w
  unfold sv wv at *
  go_enter Tryz.func35, Tryz.ntmps35
  go_upto_region 1 with (fail)
  go_cut [5, 6] from 8 (fun s5 s6 wc => ∃ bx cx by' cy : Nat, s5 = .slice (some ⟨bx, 0, none⟩) 256 cx ∧ s6 = .slice (some ⟨by', 0, none⟩) 256 cy ∧ bx < wc.heap.size ∧ by' < wc.heap.size ∧ w.heap.size + 2 ≤ wc.heap.size ∧
    (∀ p, p < 256 → wc.cell? ⟨bx, p, none⟩ = some (.bool (S.getLsbD p))) ∧ (∀ p, p < 256 → wc.cell? ⟨by', p, none⟩ = some (.bool (T.getLsbD p))) ∧
    wc.heap[w.heap.size]? = some (.cells (sa S) 50 (0, 0)) ∧ wc.heap[w.heap.size + 1]? = some (.cells (sa T) 50 (0, 0)) ∧ Below w.heap.size w wc)
  case first =>
    go_region_with (first
      | (go_at_call_of 47 (Value.agg #[.int .u64 (wd S 0).toNat, .int .u64 (wd S 1).toNat, .int .u64 (wd S 2).toNat, .int .u64 (wd S 3).toNat]); refine (HF _).mono ?_; rintro e w1 ⟨b1, c1, rfl, hlo1, hhi1, hc1, hb1⟩; obtain ⟨hq1, hr1⟩ := bcell hb1; have hzz1 := hb1.size; try simp at hzz1 hlo1)
      | (go_at_call_of 47 (Value.agg #[.int .u64 (wd T 0).toNat, .int .u64 (wd T 1).toNat, .int .u64 (wd T 2).toNat, .int .u64 (wd T 3).toNat]); refine (HG _).mono ?_; rintro e w2 ⟨b2, c2, rfl, hlo2, hhi2, hc2, hb2⟩; obtain ⟨hq2, hr2⟩ := bcell hb2; have hzz2 := hb2.size; try simp at hzz2 hlo2))
    all_goals
      clear hq1 hr1 hq2 hr2
      go_wp2_with fail
      go_meet
      have hB : Below w.heap.size w w2 := by first | exact ((below_alloc2 w _ _).trans (hb1.mono (by simp; omega))).trans (hb2.mono (by omega)) | exact ((below_alloc2 w _ _).drew.trans (hb1.mono (by simp; omega))).trans (hb2.mono (by omega))
      refine ⟨b1, c1, b2, c2, rfl, rfl, by omega, by omega, by omega, fun p hp => ?_, hc2, ?_, ?_, hB⟩
      · rw [hb2.cell (p := ⟨b1, p, none⟩) (by exact hhi1)]; exact hc1 p hp
      · rw [hb2.block _ (by omega), hb1.block _ (by simp; omega)]; exact heap_alloc2_old _ _ _
      · rw [hb2.block _ (by omega), hb1.block _ (by simp)]; exact heap_alloc2_new _ _ _
  case rest =>
    obtain ⟨bx, cx, by', cy, rfl, rfl, hbx, hby, hsz, hX, hY, hbox1, hbox2, hB⟩ := hcut
    clear HF HG hbox1 hbox2
    go_wp2
    go_loop [7] (fun j => ∃ k : Nat, k ≤ 256 ∧ j = .int .i64 k ∧ ∀ p, p < k → (S.getLsbD p && !T.getLsbD p) = false) (fun j => 256 - (intOf j).toNat)
    case atStart => exact ⟨0, by omega, rfl, fun p hp => by omega⟩
    case round =>
      obtain ⟨k, hk, rfl, hall⟩ := hrel
      have hall2 := Lib.hid hall
      clear hall
      by_cases hlt : k < 256
      · have hx := hX k hlt
        have hy := hY k hlt
        clear hX hY
        have hz := Lib.hid (less_zero S T)
        cases hs : S.getLsbD k
        · rw [hs] at hx
          have hs2 := Lib.hid hs
          clear hs
          go_wp2
          go_round
          case rel =>
            refine ⟨k + 1, by omega, by go_num, fun p hp => ?_⟩
            by_cases e : p = k
            · subst e; rw [hs2.out]; rfl
            · exact hall2.out p (by omega)
          case measure => simp [intOf]; omega
        · rw [hs] at hx
          have hs2 := Lib.hid hs
          clear hs
          cases ht : T.getLsbD k
          · rw [ht] at hy
            have ht2 := Lib.hid ht
            clear ht
            go_wp2
            go_ret
            refine ⟨ret_bool (Eq.symm (decide_eq_false fun h => ?_)), hB⟩
            have := hz.out.1 h k hlt
            rw [hs2.out, ht2.out] at this
            simp at this
          · rw [ht] at hy
            have ht2 := Lib.hid ht
            clear ht
            go_wp2
            go_round
            case rel =>
              refine ⟨k + 1, by omega, by go_num, fun p hp => ?_⟩
              by_cases e : p = k
              · subst e; rw [ht2.out]; simp
              · exact hall2.out p (by omega)
            case measure => simp [intOf]; omega
      · have e : k = 256 := by omega
        subst e
        clear hX hY
        go_wp2
        go_ret
        exact ⟨ret_bool (Eq.symm (decide_eq_true ((less_zero S T).2 hall2.out))), hB⟩
end Go.Proofs.YtdfllifjbabfjaaGreatDoor
namespace Go.Proofs.YtdfllifjbabfjaaGreatDoor
open Go.RowKit Go.Joins

set_option maxHeartbeats 1000000 in
set_option maxRecDepth 1000000 in
theorem refall_blk (n : Nat) (hn : n ≤ 8) (w : World) :
    Calls Tryz.prog 37 #[.int .i64 n] w fun e w' => ∃ b : Nat, e = .returned (.slice (some ⟨b, 0, none⟩) 256 256) ∧ w.heap.size ≤ b ∧ w'.heap[b]? = some (.cells (flagsA (fun p => decide (p < 2 ^ n))) 4 (0, 0)) ∧ Below w.heap.size w w' := by
  have HP := power_any n (by omega)
  have hq : 2 ^ n ≤ 256 := Nat.pow_le_pow_right (n := 2) (by decide) hn
  rw [Nat.mod_eq_of_lt (by omega : 2 ^ n < 18446744073709551616)] at HP
  generalize 2 ^ n = q at HP hq ⊢
  have hmk := make256
  generalize hfa : flagsA (fun _ => false) = FA at hmk
  have hfa2 := Lib.hid hfa
  clear hfa
  go_enter Tryz.func37, Tryz.ntmps37
  go_wp2
  go_loopw [4] (fun i wr => ∃ k : Nat, k ≤ q ∧ i = .int .i64 k ∧ wr.heap[w.heap.size]? = some (.cells (flagsA (fun p => decide (p < k))) 4 (0, 0)) ∧ Below w.heap.size w wr) (fun i _ => q - (intOf i).toNat)
  case atStart => exact ⟨0, by omega, rfl, by rw [show (fun p => decide (p < 0)) = fun _ => false from funext fun p => by simp, hfa2.out]; exact heap_alloc_new _ _, below_alloc1 _ _⟩
  case round =>
    clear hfa2 hmk
    obtain ⟨k, hk, rfl, hblk, hb⟩ := hrel
    by_cases hlt : k < q
    · have hc := (cell_of_block hblk k).trans (flagsA_get _ k (by omega))
      have hf := unfrozen_of_block hblk k
      have hst : (flagsA (fun p => decide (p < k))).setIfInBounds k (.bool true) = flagsA (fun p => decide (p < k + 1)) := flagsA_set _ _ k true (by simp) (fun p hp => by
        by_cases h : p < k
        · have : p < k + 1 := by omega
          simp [h, this]
        · have : ¬ p < k + 1 := by omega
          simp [h, this])
      have hst2 := Lib.hid hst
      clear hst
      go_wp2_with (go_at_call 65; refine (HP _).mono ?_; rintro e w' ⟨rfl, rfl⟩)
      go_roundw
      case rel => exact ⟨k + 1, by omega, by go_num, by rw [block_setCell hblk, hst2.out], hb.setCell (Nat.le_refl _) _⟩
      case measure => simp [intOf]; omega
    · have e : k = q := by omega
      subst e
      go_wp2_with (go_at_call 65; refine (HP _).mono ?_; rintro e w' ⟨rfl, rfl⟩)
      go_ret
      exact ⟨_, rfl, Nat.le_refl _, hblk, hb⟩
theorem refall_any (n : Nat) (hn : n ≤ 8) (w : World) :
    Calls Tryz.prog 37 #[.int .i64 n] w fun e w' => ∃ b : Nat, e = .returned (.slice (some ⟨b, 0, none⟩) 256 256) ∧ w.heap.size ≤ b ∧ b < w'.heap.size ∧ (∀ p, p < 256 → w'.cell? ⟨b, p, none⟩ = some (.bool (decide (p < 2 ^ n)))) ∧ Below w.heap.size w w' := by
  refine (refall_blk n hn w).mono ?_
  rintro e w' ⟨b, rfl, hlo, hblk, hb⟩
  exact ⟨b, rfl, hlo, size_of_block hblk, fun p hp => by rw [cell_of_block hblk, flagsA_get _ p hp], hb⟩

theorem blk_below {w w1 : World} {b : Nat} {o : Obj} (hb : Below w.heap.size w w1) (h : w.heap[b]? = some o) : w1.heap[b]? = some o := by
  rw [hb.block _ (size_of_block h)]; exact h
theorem blk_alloc {w : World} {b : Nat} {o x : Obj} (h : w.heap[b]? = some o) : (w.alloc x).heap[b]? = some o := by
  rw [Below.heap_alloc _ _ _ (size_of_block h)]; exact h
theorem blk_set {w : World} {a : Addr} {b : Nat} {o : Obj} {u : Value} (hne : b ≠ a.block) (h : w.heap[b]? = some o) : (w.setCell a u).heap[b]? = some o := by
  rw [Below.heap_setCell _ _ _ _ hne]; exact h

/-- The flags of a set with one more. -/
def addF (S : BitVec 256) (p : Int) (q : Nat) : Bool := S.getLsbD q || (decide (0 ≤ p) && decide (q = p.toNat))
def addB (S : BitVec 256) (p : Int) : BitVec 256 := if 0 ≤ p ∧ p < 256 then S ||| BitVec.twoPow 256 p.toNat else S
theorem addB_bit (S : BitVec 256) (p : Int) : bvOf (addF S p) = addB S p := by
  refine bvOf_eq _ _ fun q hq => ?_
  unfold addF addB
  by_cases h : 0 ≤ p ∧ p < 256
  · rw [if_pos h, BitVec.getLsbD_or, BitVec.getLsbD_twoPow]
    have h1 : p.toNat < 256 := by omega
    have h2 : decide (q = p.toNat) = decide (p.toNat = q) := by simp [eq_comm]
    simp [h.1, h1, h2]
  · rw [if_neg h]
    have : ¬ (0 ≤ p ∧ q = p.toNat) := by omega
    by_cases h0 : 0 ≤ p
    · have h3 : ¬ q = p.toNat := by omega
      simp [h3]
    · simp [h0]
theorem hasAny (S : BitVec 256) (p : Int) (w : World) :
    Calls Tryz.prog 53 #[sv S, .int .i64 p] w fun e w' => e = .returned (.bool (decide (0 ≤ p) && S.getLsbD p.toNat)) ∧ Below w.heap.size w w' := by
  by_cases h : 0 ≤ p ∧ p < 256
  · obtain ⟨n, rfl⟩ := Int.eq_ofNat_of_zero_le h.1
    have := has_any S n (by omega) w
    simpa [h.1] using this
  · have := has_no S p (by omega) w
    have e : (decide (0 ≤ p) && S.getLsbD p.toNat) = false := by
      by_cases h0 : 0 ≤ p
      · rw [BitVec.getLsbD_of_ge _ _ (by omega)]; simp
      · simp [h0]
    rw [e]; exact this
end Go.Proofs.YtdfllifjbabfjaaGreatDoor
