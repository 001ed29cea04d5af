/- The document's own Holds of layers 2 and 10; power. Rows of all rows, by their keys; what a row grows to; all primes cover. -/
import Derived.Test.YtmgggennbnbjkaaG17
import Derived.Test.YtmgggennbnbjkaaG15
namespace Go.Proofs.Ytmgggennbnbjkaa
open Go.RowKit Go.Joins

theorem lit_hold {m v m' v' : BitVec 8} {i : Nat} (hm : m.getLsbD i = true) : lit m v i = lit m' v' i ↔ m'.getLsbD i = true ∧ v.getLsbD i = v'.getLsbD i := by
  unfold lit
  rw [hm]
  cases m'.getLsbD i <;> cases v.getLsbD i <;> cases v'.getLsbD i <;> simp
theorem holds_hit {m v m' v' : BitVec 8} {i : Nat} (h1 : lit m v i ≠ 2) (h2 : lit m v i ≠ lit m' v' i) : holdsB m v m' v' = false := by
  have hm : m.getLsbD i = true := by
    cases h : m.getLsbD i
    · exact absurd (lit_two.2 h) h1
    · rfl
  rw [Bool.eq_false_iff]
  intro hh
  exact h2 ((lit_hold hm).2 ((holdsB_iff m v m' v').1 hh i hm))
theorem holds_end {m v m' v' : BitVec 8} (h : ∀ i, i < 8 → lit m v i = 2 ∨ lit m v i = lit m' v' i) : holdsB m v m' v' = true := by
  rw [holdsB_iff]
  intro i hm
  have hi : i < 8 := by
    rcases Nat.lt_or_ge i 8 with k | k
    · exact k
    · rw [BitVec.getLsbD_of_ge m i k] at hm; cases hm
  rcases h i hi with e | e
  · rw [lit_two.1 e] at hm; cases hm
  · exact (lit_hold hm).1 e
set_option maxHeartbeats 2000000 in
set_option maxRecDepth 1000000 in
theorem rholds2_any (m v m' v' : BitVec 8) (w : World) :
    Calls Try.prog 33 #[cv m v, cv m' v'] w fun e w' => e = .returned (.bool (holdsB m v m' v')) ∧ Below w.heap.size w w' := by
  have HF := fun w => lits_any m v w
  have HG := fun w => lits_any m' v' w
  have hhit := Lib.hid (fun (i : Nat) h1 h2 => holds_hit (m := m) (v := v) (m' := m') (v' := v') (i := i) h1 h2)
  have hend := Lib.hid (fun h => holds_end (m := m) (v := v) (m' := m') (v' := v') h)
  generalize holdsB m v m' v' = R at *
  unfold cv bvv at *
  go_enter Try.func33, Try.ntmps33
  go_upto_region 1 with (fail)
  go_cut [5, 6] from 8 (fun s5 s6 wc => ∃ bx cx by' cy : Nat, s5 = .slice (some ⟨bx, 0, none⟩) 8 cx ∧ s6 = .slice (some ⟨by', 0, none⟩) 8 cy ∧ LitsAt m v bx wc ∧ LitsAt m' v' by' wc ∧ Below w.heap.size w wc)
  case first =>
    clear hhit hend
    go_region_with (first
      | (go_at_call_of 34 (Value.agg #[.int .u8 m.toNat, .int .u8 v.toNat]); refine (HF _).mono ?_; rintro e w1 ⟨b1, c1, rfl, hlo1, hc1, hb1⟩; obtain ⟨hq1, hr1⟩ := bcell hb1; have hzz1 := hb1.size; try simp at hzz1 hlo1)
      | (go_at_call_of 34 (Value.agg #[.int .u8 m'.toNat, .int .u8 v'.toNat]); refine (HG _).mono ?_; rintro e w2 ⟨b2, c2, rfl, hlo2, hc2, hb2⟩; obtain ⟨hq2, hr2⟩ := bcell hb2; have hzz2 := hb2.size; try simp at hzz2 hlo2))
    all_goals
      clear hq1 hr1 hq2 hr2
      go_wp2_with fail
      go_meet
      first
        | exact ⟨b1, c1, b2, c2, rfl, rfl, hc1.keep hb2, hc2, ((below_alloc2 w _ _).trans (hb1.mono (by simp; omega))).trans (hb2.mono (by omega))⟩
        | exact ⟨b1, c1, b2, c2, rfl, rfl, hc1.keep hb2, hc2, ((below_alloc2 w _ _).drew.trans (hb1.mono (by simp; omega))).trans (hb2.mono (by omega))⟩
        | exact ⟨b1, c1, b2, c2, rfl, rfl, hc1, hc2.keep hb1, ((below_alloc2 w _ _).trans (hb2.mono (by simp; omega))).trans (hb1.mono (by omega))⟩
        | exact ⟨b1, c1, b2, c2, rfl, rfl, hc1, hc2.keep hb1, ((below_alloc2 w _ _).drew.trans (hb2.mono (by simp; omega))).trans (hb1.mono (by omega))⟩
  case rest =>
    obtain ⟨bx, cx, by', cy, rfl, rfl, hX, hY, hB⟩ := hcut
    clear HF HG
    go_wp2
    go_loopw [7] (fun t wr => ∃ k : Nat, k ≤ 8 ∧ t = .int .i64 k ∧ Hid (∀ i, i < k → lit m v i = 2 ∨ lit m v i = lit m' v' i) ∧ Below wc.heap.size wc wr) (fun t _ => 8 - (intOf t).toNat)
    case atStart => exact ⟨0, by omega, rfl, Lib.hid (fun i hi => absurd hi (Nat.not_lt_zero _)), Below.refl _ _⟩
    case round =>
      obtain ⟨k, hk, rfl, hH, hb⟩ := hrel
      have hBr := hB.trans (hb.mono hB.size)
      by_cases hlt : k < 8
      · have hx := (hX.keep hb).2 k hlt
        have hy := (hY.keep hb).2 k hlt
        have hh := Lib.hid (hhit.out k)
        have k0 : (0 : Int) ≤ (k : Int) := by omega
        have k8 : (k : Int) < 8 := by omega
        have hst : Hid (lit m v k = 2 ∨ lit m v k = lit m' v' k → ∀ i, i < k + 1 → lit m v i = 2 ∨ lit m v i = lit m' v' i) := Lib.hid (fun h i hi => by
          by_cases e : i = k
          · subst e; exact h
          · exact hH.out i (by omega))
        clear hX hY hhit hH
        have hpl := lit_le m v k
        have hql := lit_le m' v' k
        generalize lit m v k = p at *
        generalize lit m' v' k = q at *
        by_cases h2 : p = 2
        · have hH2 := Lib.hid (hst.out (.inl h2))
          subst h2
          clear hst hh
          go_upto_region 5 with (fail)
          have X0 := fun x : After wr => After.cell x hx
          have Y0 := fun x : After wr => After.cell x hy
          refine wp_region_after (by kernel_rfl) (by kernel_rfl) ?_
          repeat (first | go_big_quiet_step (fail))
          refine wpQuiet_nil ?_
          intro z
          have hbz := hb.trans (z.2.mono hb.size)
          clear X0 Y0 hx hy
          go_wp2
          go_roundw
          case rel => exact ⟨k + 1, by omega, by go_num, hH2, hbz⟩
          case measure => simp [intOf]; omega
        · have hp2 : ((p : Int) != 2) = true := by rw [bne_iff_ne]; omega
          by_cases hpq : p = q
          · have hH2 := Lib.hid (hst.out (.inr hpq))
            subst hpq
            clear hst hh h2
            go_upto_region 5 with (fail)
            have X0 := fun x : After wr => After.cell x hx
            have Y0 := fun x : After wr => After.cell x hy
            refine wp_region_after (by kernel_rfl) (by kernel_rfl) ?_
            repeat (first | go_big_quiet_step (fail))
            refine wpQuiet_nil ?_
            intro z
            have hbz := hb.trans (z.2.mono hb.size)
            clear X0 Y0 hx hy
            go_wp2
            go_roundw
            case rel => exact ⟨k + 1, by omega, by go_num, hH2, hbz⟩
            case measure => simp [intOf]; omega
          · have hR := Lib.hid (hh.out h2 hpq)
            have hpq' : ((p : Int) != (q : Int)) = true := by rw [bne_iff_ne]; omega
            clear hst hh h2 hpq
            go_upto_region 5 with (fail)
            have X0 := fun x : After wr => After.cell x hx
            have Y0 := fun x : After wr => After.cell x hy
            refine wp_region_after (by kernel_rfl) (by kernel_rfl) ?_
            repeat (first | go_big_quiet_step (fail))
            refine wpQuiet_nil ?_
            intro z
            have hBz := hBr.trans (z.2.mono hBr.size)
            clear X0 Y0 hx hy
            go_wp2
            go_ret
            exact ⟨by rw [hR.out]; rfl, hBz⟩
      · have hR := Lib.hid (hend.out (fun i hi => hH.out i (by omega)))
        clear hX hY hhit hend hH
        go_wp2
        go_ret
        exact ⟨by rw [hR.out]; rfl, hBr⟩
end Go.Proofs.Ytmgggennbnbjkaa
namespace Go.Proofs.Ytmgggennbnbjkaa
open Go.RowKit

theorem allK_is : ∃ n : Nat, n = 16777216 := ⟨16777216, rfl⟩
/-- So many keys there are; told so that nothing counts them out. -/
noncomputable def allK : Nat := Classical.choose allK_is
theorem allK_eq : allK = 16777216 := Classical.choose_spec allK_is
def rwK (k : Nat) : Rw := ⟨kM k, kV k, BitVec.ofNat 8 (k / 65536)⟩
def keyR (x : Rw) : Nat := 65536 * x.o.toNat + keyC x.m x.v
theorem keyR_lt (x : Rw) : keyR x < allK := by rw [allK_eq]; unfold keyR; have := keyC_lt x.m x.v; have := x.o.isLt; omega
theorem rwK_key (x : Rw) : rwK (keyR x) = x := by
  have hm := x.m.isLt
  have hv := x.v.isLt
  have ho := x.o.isLt
  unfold rwK keyR keyC kM kV
  cases x with
  | mk m v o =>
    simp only at *
    congr 1
    · apply BitVec.eq_of_toNat_eq; rw [BitVec.toNat_ofNat]; omega
    · apply BitVec.eq_of_toNat_eq; rw [BitVec.toNat_ofNat]; omega
    · apply BitVec.eq_of_toNat_eq; rw [BitVec.toNat_ofNat]; omega
theorem key_rwK {k : Nat} (h : k < allK) : keyR (rwK k) = k := by
  rw [allK_eq] at h
  unfold rwK keyR keyC kM kV
  simp only [BitVec.toNat_ofNat]
  omega
/-- The rows that are so, with keys below u. -/
def rwU (P : Rw → Bool) (u : Nat) : List Nat := (List.range u).filter fun k => P (rwK k)
theorem rwU_succ (P : Rw → Bool) (u : Nat) : rwU P (u + 1) = rwU P u ++ (if P (rwK u) = true then [u] else []) := by
  unfold rwU
  rw [List.range_succ, List.filter_append]
  congr 1
  cases h : P (rwK u) <;> simp [h]
theorem rwU_mem (P : Rw → Bool) (u k : Nat) : k ∈ rwU P u ↔ k < u ∧ P (rwK k) = true := by
  unfold rwU; rw [List.mem_filter, List.mem_range]
theorem rwU_srt (P : Rw → Bool) (u : Nat) : (rwU P u).Pairwise (· < ·) := List.Pairwise.filter _ (List.pairwise_lt_range)
theorem rwU_len (P : Rw → Bool) (u : Nat) : (rwU P u).length ≤ u := by
  have := List.length_filter_le (fun k => P (rwK k)) (List.range u)
  rwa [List.length_range] at this
theorem rwU_gap {P : Rw → Bool} {u u' : Nat} (h : u ≤ u') (hn : ∀ k, u ≤ k → k < u' → P (rwK k) = false) : rwU P u' = rwU P u := by
  obtain ⟨d, rfl⟩ := Nat.exists_eq_add_of_le h
  clear h
  induction d with
  | zero => rfl
  | succ d ih =>
    rw [show u + (d + 1) = u + d + 1 by omega, rwU_succ, ih (fun k h1 h2 => hn k h1 (by omega)), hn (u + d) (by omega) (by omega)]
    simp
/-- All rows that are so, rising. -/
noncomputable def rwL (P : Rw → Bool) : List Rw := (rwU P allK).map rwK
theorem rwL_mem {P : Rw → Bool} {x : Rw} : x ∈ rwL P ↔ P x = true := by
  unfold rwL
  rw [List.mem_map]
  constructor
  · rintro ⟨k, hk, rfl⟩
    exact ((rwU_mem P allK k).1 hk).2
  · intro h
    exact ⟨keyR x, (rwU_mem P allK _).2 ⟨keyR_lt x, by rw [rwK_key]; exact h⟩, rwK_key x⟩
theorem rwL_rise {P : Rw → Bool} {i j : Nat} {x y : Rw} (hx : (rwL P)[i]? = some x) (hy : (rwL P)[j]? = some y) (hij : i < j) : keyR x < keyR y := by
  unfold rwL at hx hy
  rw [List.getElem?_map] at hx hy
  obtain ⟨a, ha, rfl⟩ := Option.map_eq_some_iff.1 hx
  obtain ⟨b, hb, rfl⟩ := Option.map_eq_some_iff.1 hy
  rw [key_rwK ((rwU_mem P allK a).1 (List.mem_of_getElem? ha)).1, key_rwK ((rwU_mem P allK b).1 (List.mem_of_getElem? hb)).1]
  obtain ⟨h1, e1⟩ := List.getElem?_eq_some_iff.1 ha
  obtain ⟨h2, e2⟩ := List.getElem?_eq_some_iff.1 hb
  rw [← e1, ← e2]
  exact List.pairwise_iff_getElem.1 (rwU_srt P allK) i j h1 h2 hij
theorem rwL_inj {P : Rw → Bool} {i j : Nat} {x : Rw} (hx : (rwL P)[i]? = some x) (hy : (rwL P)[j]? = some x) : i = j := by
  rcases Nat.lt_trichotomy i j with h | h | h
  · have := rwL_rise hx hy h; omega
  · exact h
  · have := rwL_rise hy hx h; omega
theorem rwL_len (P : Rw → Bool) : (rwL P).length ≤ 16777216 := by
  unfold rwL
  rw [List.length_map]
  exact Nat.le_trans (rwU_len P allK) (Nat.le_of_eq allK_eq)
/-- Those of a row that are so, too. -/
theorem rwL_filter {P Q : Rw → Bool} (h : ∀ x, Q x = true → P x = true) : (rwL P).filter Q = rwL Q := by
  unfold rwL rwU
  rw [List.filter_map, List.filter_filter]
  congr 1
  refine List.filter_congr fun k _ => ?_
  simp only [Function.comp_apply]
  cases hq : Q (rwK k)
  · rfl
  · rw [h _ hq]; rfl
/-- One row more. -/
theorem rwU_key (P : Rw → Bool) (x : Rw) : (rwU P (keyR x + 1)).map rwK = (rwU P (keyR x)).map rwK ++ (if P x = true then [x] else []) := by
  rw [rwU_succ, rwK_key, List.map_append]
  congr 1
  cases P x
  · rfl
  · show [rwK (keyR x)] = _
    rw [rwK_key]; rfl
/-- Rows within lie low. -/
theorem rowin_low {s : Sp} {x : Rw} {n : Nat} (hn : s.i = n) (h : rowIn s x = true) : x.m.toNat < 2 ^ n ∧ x.v.toNat < 2 ^ n ∧ x.o.toNat < 2 ^ s.on.length ∧ 0 < x.o.toNat := by
  obtain ⟨h0, h1, h2⟩ := rwB_iff.1 (rowin_right h)
  rw [hn] at h2
  obtain ⟨-, hm, hv, -, -⟩ := right_lows h2
  refine ⟨hm, hv, Nat.lt_pow_two_of_testBit _ fun q hq => h1 q hq, ?_⟩
  rcases Nat.eq_zero_or_pos x.o.toNat with e | e
  · exact absurd (BitVec.eq_of_toNat_eq (by simpa using e)) h0
  · exact e
theorem rwK_at {o m v : Nat} (ho : o < 256) (hm : m < 256) (hv : v < 256) : (rwK (65536 * o + (256 * m + v))).m.toNat = m ∧ (rwK (65536 * o + (256 * m + v))).v.toNat = v ∧ (rwK (65536 * o + (256 * m + v))).o.toNat = o := by
  unfold rwK kM kV
  simp only [BitVec.toNat_ofNat]
  omega
theorem split_key (k : Nat) : ∃ o m v, k = 65536 * o + (256 * m + v) ∧ m < 256 ∧ v < 256 := ⟨k / 65536, k / 256 % 256, k % 256, by omega, by omega, by omega⟩
section
variable {s : Sp} {n : Nat} (hn : s.i = n) (h8 : n ≤ 8) (h4 : s.on.length ≤ 8)
include hn h8
theorem rwU_mask {o m : Nat} (ho : o < 256) (hm : m < 256) : rwU (rowIn s) (65536 * o + 256 * (m + 1)) = rwU (rowIn s) (65536 * o + (256 * m + 2 ^ n)) := by
  have h2 : 2 ^ n ≤ 2 ^ 8 := Nat.pow_le_pow_right (by decide) h8
  refine rwU_gap (by omega) fun k h1 h3 => ?_
  cases hp : rowIn s (rwK k)
  · rfl
  · have hl := rowin_low hn hp
    obtain ⟨d, rfl⟩ := Nat.exists_eq_add_of_le (show 65536 * o + 256 * m ≤ k by omega)
    rw [Nat.add_assoc] at hl
    have := rwK_at ho hm (show d < 256 by omega)
    omega
theorem rwU_outs {o : Nat} (ho : o < 256) : rwU (rowIn s) (65536 * (o + 1)) = rwU (rowIn s) (65536 * o + 256 * 2 ^ n) := by
  have h2 : 2 ^ n ≤ 2 ^ 8 := Nat.pow_le_pow_right (by decide) h8
  refine rwU_gap (by omega) fun k h1 h3 => ?_
  cases hp : rowIn s (rwK k)
  · rfl
  · obtain ⟨a, m, v, rfl, hm, hv⟩ := split_key k
    have hl := rowin_low hn hp
    have e1 : a = o := by omega
    subst e1
    rw [(rwK_at ho hm hv).1] at hl
    have h9 := hl.1
    have : 256 * (m + 1) ≤ 256 * 2 ^ n := Nat.mul_le_mul_left _ h9
    omega
omit h8 in
include h4 in
theorem rwU_end : rwU (rowIn s) (65536 * 2 ^ s.on.length) = rwU (rowIn s) allK := by
  have h2 : 2 ^ s.on.length ≤ 2 ^ 8 := Nat.pow_le_pow_right (by decide) h4
  refine (rwU_gap (by rw [allK_eq]; omega) fun k h1 h3 => ?_).symm
  rw [allK_eq] at h3
  cases hp : rowIn s (rwK k)
  · rfl
  · obtain ⟨a, m, v, rfl, hm, hv⟩ := split_key k
    have hl := rowin_low hn hp
    rw [(rwK_at (show a < 256 by omega) hm hv).2.2] at hl
    have h9 := hl.2.2.1
    have : 65536 * (a + 1) ≤ 65536 * 2 ^ s.on.length := Nat.mul_le_mul_left _ h9
    omega
omit h8 in
theorem rwU_start : rwU (rowIn s) 65536 = [] := by
  have : rwU (rowIn s) 65536 = rwU (rowIn s) 0 := by
    refine rwU_gap (u := 0) (u' := 65536) (Nat.zero_le _) fun k h1 h3 => ?_
    cases hp : rowIn s (rwK k)
    · rfl
    · obtain ⟨a, m, v, rfl, hm, hv⟩ := split_key k
      have hl := rowin_low hn hp
      have e1 : a = 0 := by omega
      subst e1
      rw [(rwK_at (show 0 < 256 by omega) hm hv).2.2] at hl
      omega
  rw [this]; rfl
end
/-- Prime is that no other one of all within holds it. -/
theorem prime_at {s : Sp} (h4 : s.on.length ≤ 8) {i : Nat} {x : Rw} (hx : (rwL (rowIn s))[i]? = some x) : primR s x = true ↔ ∀ k y, (rwL (rowIn s))[k]? = some y → k ≠ i → rhB y x = false := by
  rw [prim_max_iff h4]
  constructor
  · rintro ⟨-, h⟩ k y hy hne
    rw [Bool.eq_false_iff]
    intro hh
    have e := h y (rwL_mem.1 (List.mem_of_getElem? hy)) hh
    subst e
    exact hne (rwL_inj hy hx)
  · intro h
    refine ⟨rwL_mem.1 (List.mem_of_getElem? hx), fun y hy hh => ?_⟩
    obtain ⟨k, hk⟩ := List.mem_iff_getElem?.1 (rwL_mem (P := rowIn s).2 hy)
    by_cases e : k = i
    · subst e
      rw [hx] at hk
      injection hk with hk
      exact hk.symm
    · rw [h k y hk e] at hh; cases hh

/- WHAT A ROW GROWS TO. -/
def dropStep (s : Sp) (x : Rw) (i : Nat) : Rw := if rowIn s (dropR x i) = true then dropR x i else x
def addStep (s : Sp) (x : Rw) (j : Nat) : Rw := if (!x.o.getLsbD j && rowIn s (addR x j)) = true then addR x j else x
def dropsR (s : Sp) (x : Rw) (k : Nat) : Rw := (List.range k).foldl (dropStep s) x
def addsR (s : Sp) (x : Rw) (k : Nat) : Rw := (List.range k).foldl (addStep s) x
theorem dropsR_succ (s : Sp) (x : Rw) (k : Nat) : dropsR s x (k + 1) = dropStep s (dropsR s x k) k := by
  unfold dropsR; rw [List.range_succ, List.foldl_append]; rfl
theorem addsR_succ (s : Sp) (x : Rw) (k : Nat) : addsR s x (k + 1) = addStep s (addsR s x k) k := by
  unfold addsR; rw [List.range_succ, List.foldl_append]; rfl
def growR (s : Sp) (x : Rw) : Rw := addsR s (dropsR s x s.i.toNat) s.on.length
theorem rhB_dd (x : Rw) (i k : Nat) : rhB (dropR (dropR x k) i) (dropR x i) = true := by
  refine rhB_iff.2 ⟨fun _ h => h, (holdsB_iff _ _ _ _).2 fun j hj => ?_⟩
  unfold dropR at *
  simp only [drM_bit] at *
  cases hm : x.m.getLsbD j
  · rw [hm] at hj; cases hj
  · rw [hm] at hj
    cases hk : decide (j = k)
    · cases hi : decide (j = i)
      · simp
      · rw [hi] at hj; simp at hj
    · rw [hk] at hj; simp at hj
theorem rhB_ad (x : Rw) (i k : Nat) : rhB (dropR (addR x k) i) (dropR x i) = true := by
  refine rhB_iff.2 ⟨fun q h => ?_, holds_self _ _⟩
  show (addR x k).o.getLsbD q = true
  rw [addR_bit, show x.o.getLsbD q = true from h]; rfl
theorem rhB_aa (x : Rw) (j k : Nat) : rhB (addR (addR x k) j) (addR x j) = true := by
  refine rhB_iff.2 ⟨fun q h => ?_, holds_self _ _⟩
  rw [addR_bit] at *
  rw [addR_bit]
  rw [Bool.or_eq_true] at *
  rcases h with h | h
  · rw [h]; exact .inl rfl
  · exact .inr h
theorem drops_inv {s : Sp} {x : Rw} (h : rowIn s x = true) : ∀ k, rowIn s (dropsR s x k) = true ∧ rhB (dropsR s x k) x = true ∧ ∀ i, i < k → (dropsR s x k).m.getLsbD i = true → rowIn s (dropR (dropsR s x k) i) = false
  | 0 => ⟨h, rhB_self x, fun i hi => absurd hi (Nat.not_lt_zero _)⟩
  | k + 1 => by
    obtain ⟨h1, h2, h3⟩ := drops_inv h k
    rw [dropsR_succ]
    generalize dropsR s x k = y at *
    unfold dropStep
    by_cases hd : rowIn s (dropR y k) = true
    · rw [if_pos hd]
      refine ⟨hd, rhB_trans (rhB_drop y k) h2, fun i hi hb => ?_⟩
      have hb' : y.m.getLsbD i = true ∧ i ≠ k := by
        unfold dropR at hb
        simp only [drM_bit] at hb
        rw [Bool.and_eq_true] at hb
        exact ⟨hb.1, fun e => by subst e; simp at hb⟩
      rw [Bool.eq_false_iff]
      intro hin
      have := rowin_down hin (rhB_dd y i k) (rwB_drop (rowin_right h1))
      rw [h3 i (by omega) hb'.1] at this; cases this
    · rw [if_neg hd]
      refine ⟨h1, h2, fun i hi hb => ?_⟩
      by_cases e : i = k
      · subst e; exact Bool.eq_false_iff.2 hd
      · exact h3 i (by omega) hb
theorem add_right {s : Sp} {y : Rw} {j k : Nat} (h1 : rwB y s.i s.on.length = true) (h2 : rwB (addR (addR y k) j) s.i s.on.length = true) : rwB (addR y j) s.i s.on.length = true := by
  obtain ⟨q1, q2, q3⟩ := rwB_iff.1 h1
  obtain ⟨-, r2, -⟩ := rwB_iff.1 h2
  refine rwB_iff.2 ⟨fun e => q1 ?_, fun q hq => ?_, q3⟩
  · apply BitVec.eq_of_getLsbD_eq
    intro q _
    have := congrArg (fun z => z.getLsbD q) e
    simp only [addR_bit] at this
    have h0 : (0 : BitVec 8).getLsbD q = false := by simp
    rw [h0, Bool.or_eq_false_iff] at this
    rw [this.1, h0]
  · have := r2 q hq
    rw [addR_bit, Bool.or_eq_false_iff] at this
    rw [addR_bit, q2 q hq, this.2]; rfl
theorem adds_inv {s : Sp} {x : Rw} {n : Nat} (h : rowIn s x = true) (hd : ∀ i, i < n → x.m.getLsbD i = true → rowIn s (dropR x i) = false) : ∀ k, k ≤ 8 → rowIn s (addsR s x k) = true ∧ rhB (addsR s x k) x = true ∧ (∀ i, i < n → (addsR s x k).m.getLsbD i = true → rowIn s (dropR (addsR s x k) i) = false) ∧ ∀ j, j < k → (addsR s x k).o.getLsbD j = false → rowIn s (addR (addsR s x k) j) = false
  | 0, _ => ⟨h, rhB_self x, hd, fun i hi => absurd hi (Nat.not_lt_zero _)⟩
  | k + 1, hk8 => by
    obtain ⟨h1, h2, h3, h4⟩ := adds_inv h hd k (by omega)
    rw [addsR_succ]
    generalize addsR s x k = y at *
    unfold addStep
    by_cases ha : (!y.o.getLsbD k && rowIn s (addR y k)) = true
    · rw [if_pos ha]
      rw [Bool.and_eq_true, Bool.not_eq_true'] at ha
      refine ⟨ha.2, rhB_trans (rhB_add y k) h2, fun i hi hb => ?_, fun j hj hb => ?_⟩
      · rw [Bool.eq_false_iff]
        intro hin
        have := rowin_down hin (rhB_ad y i k) (rwB_drop (rowin_right h1))
        rw [h3 i hi hb] at this; cases this
      · rw [addR_bit, Bool.or_eq_false_iff] at hb
        have hne : j ≠ k := fun e => by
          subst e
          have := hb.2
          simp at this
          omega
        rw [Bool.eq_false_iff]
        intro hin
        have := rowin_down hin (rhB_aa y j k) (add_right (rowin_right h1) (rowin_right hin))
        rw [h4 j (by omega) hb.1] at this; cases this
    · rw [if_neg ha]
      refine ⟨h1, h2, h3, fun j hj hb => ?_⟩
      by_cases e : j = k
      · subst e
        rw [Bool.eq_false_iff]
        intro hin
        exact ha (by rw [hb, hin]; rfl)
      · exact h4 j (by omega) hb
end Go.Proofs.Ytmgggennbnbjkaa
