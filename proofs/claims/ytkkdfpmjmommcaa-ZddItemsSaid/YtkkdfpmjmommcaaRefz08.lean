/- The document's answers of layer 8: numbers and bits, rows of members. -/
import Derived.Test.YtkkdfpmjmommcaaInts
import Derived.Test.YtkkdfpmjmommcaaSet2
import Derived.Maps.AppendAt
import Derived.Deep.RegionHeld3
import Derived.Deep.CutRange
namespace Go.Proofs.Ytkkdfpmjmommcaa
open Go.RowKit Go.Joins

/-- Numbers as the slices hold them. -/
def nI (o : List Nat) : List Int := o.map fun i : Nat => (i : Int)
theorem nI_len (o : List Nat) : (nI o).length = o.length := by unfold nI; simp
theorem nI_get {o : List Nat} {j y : Nat} (h : o[j]? = some y) : (nI o)[j]? = some (y : Int) := by
  unfold nI; rw [List.getElem?_map, h]; rfl
theorem nI_of {o : List Nat} {j : Nat} {y : Int} (h : (nI o)[j]? = some y) : ∃ i : Nat, y = i ∧ o[j]? = some i := by
  unfold nI at h
  rw [List.getElem?_map] at h
  obtain ⟨i, hi, rfl⟩ := Option.map_eq_some_iff.1 h
  exact ⟨i, rfl, hi⟩
theorem nI_inj {a b : List Nat} (h : nI a = nI b) : a = b := by
  refine List.ext_getElem? fun j => ?_
  have e : (nI a)[j]? = (nI b)[j]? := by rw [h]
  unfold nI at e
  rw [List.getElem?_map, List.getElem?_map] at e
  cases ha : a[j]? with
  | none => rw [ha] at e; cases hb : b[j]? with
    | none => rfl
    | some y => rw [hb] at e; cases e
  | some x => rw [ha] at e; cases hb : b[j]? with
    | none => rw [hb] at e; cases e
    | some y =>
      rw [hb] at e
      have h2 : (x : Int) = (y : Int) := Option.some.inj e
      have : x = y := by omega
      rw [this]
theorem rmay8_any (x : Int) (w : World) : Calls Try.prog 32 #[.int .i64 x] w fun e w' => e = .returned (.bool (decide (0 ≤ x) && decide (x < 16777216))) ∧ w = w' := by
  by_cases h : 0 ≤ x
  · rw [decide_eq_true h, Bool.true_and]
    go_enter Try.func32, Try.ntmps32
    go_wp2
    go_ret
    exact ⟨rfl, rfl⟩
  · rw [decide_eq_false h, Bool.false_and]
    go_enter Try.func32, Try.ntmps32
    go_wp2
    go_ret
    exact ⟨rfl, rfl⟩
set_option maxHeartbeats 1000000 in
/-- Has a member an item? -/
theorem rbit8_any (m i : Nat) (hm : m < 16777216) (hi : i ≤ 24) (w : World) : Calls Try.prog 58 #[.int .i64 m, .int .i64 i] w fun e w' => e = .returned (.bool (m.testBit i)) ∧ w = w' := by
  have hst : ∀ k, Hid (m / 2 ^ (k + 1) = m / 2 ^ k / 2) := fun k => Lib.hid (by rw [Nat.pow_succ, Nat.div_div_eq_div_mul])
  have hle : ∀ k, m / 2 ^ k ≤ m := fun k => Nat.div_le_self _ _
  have hR : Hid (m.testBit i = decide (m / 2 ^ i % 2 = 1)) := Lib.hid Nat.testBit_eq_decide_div_mod_eq
  go_enter Try.func58, Try.ntmps58
  go_wp2
  go_loopw [0, 5] (fun s t wr => ∃ k : Nat, k ≤ i ∧ t = .int .i64 k ∧ s = .int .i64 ((m / 2 ^ k : Nat) : Int) ∧ w = wr) (fun _ t _ => i - (intOf t).toNat)
  case atStart => exact ⟨0, by omega, rfl, by simp, rfl⟩
  case round =>
    obtain ⟨k, hk, rfl, rfl, rfl⟩ := hrel
    have hst := hst k
    have hle := hle k
    generalize hx : m / 2 ^ k = x at *
    by_cases hlt : k < i
    · clear hx
      go_wp2
      go_roundw
      case rel => exact ⟨k + 1, by omega, by go_num, by rw [hst.out]; go_num, trivial⟩
      case measure => simp [intOf]; omega
    · have hB : Hid ((((x : Nat) : Int) % 2 == 1) = m.testBit i) := Lib.hid (by
        rw [hR.out, ← show k = i by omega, hx, Bool.eq_iff_iff, beq_iff_eq, decide_eq_true_iff]
        omega)
      clear hx hR
      go_wp2
      go_ret
      exact ⟨by rw [← hB.out]; rfl, rfl⟩
/-- All items of two members. -/
theorem two24 {k : Nat} (h : k ≤ 24) : 2 ^ k ≤ 16777216 := Nat.le_trans (Nat.pow_le_pow_right (by decide) h) (by decide : (2 : Nat) ^ 24 ≤ 16777216)
set_option maxHeartbeats 1000000 in
theorem rboth8_any (a b : Nat) (ha : a < 16777216) (hb : b < 16777216) (w : World) : Calls Try.prog 29 #[.int .i64 a, .int .i64 b] w fun e w' => e = .returned (.int .i64 ((a ||| b : Nat) : Int)) ∧ w = w' := by
  have HA := fun i (hi : i ≤ 24) w => rbit8_any a i ha hi w
  have HB := fun i (hi : i ≤ 24) w => rbit8_any b i hb hi w
  have hst : ∀ k, (a ||| b) % 2 ^ (k + 1) = (a ||| b) % 2 ^ k + (if (a ||| b).testBit k then 2 ^ k else 0) := fun k => by
    rw [Nat.pow_succ, Nat.mod_mul, Nat.testBit_eq_decide_div_mod_eq]
    have := Nat.mod_lt ((a ||| b) / 2 ^ k) (by decide : 2 > 0)
    by_cases h : (a ||| b) / 2 ^ k % 2 = 1
    · rw [h]; simp
    · rw [show (a ||| b) / 2 ^ k % 2 = 0 by omega]; simp
  have htb : ∀ k, (a ||| b).testBit k = (a.testBit k || b.testBit k) := fun k => Nat.testBit_or a b k
  have hlt : ∀ k, (a ||| b) % 2 ^ k < 2 ^ k := fun k => Nat.mod_lt _ (Nat.two_pow_pos k)
  have hall : Hid ((a ||| b) % 2 ^ 24 = a ||| b) := Lib.hid (Nat.mod_eq_of_lt (Nat.or_lt_two_pow ha hb))
  generalize hc : a ||| b = c at *
  have hp : ∀ k, Hid (2 ^ (k + 1) = 2 ^ k * 2) := fun k => Lib.hid (Nat.pow_succ 2 k)
  go_enter Try.func29, Try.ntmps29
  go_wp2
  go_loopw [5, 6, 7] (fun s p t wr => ∃ k : Nat, k ≤ 24 ∧ t = .int .i64 k ∧ s = .int .i64 ((c % 2 ^ k : Nat) : Int) ∧ p = .int .i64 ((2 ^ k : Nat) : Int) ∧ w = wr) (fun _ _ t _ => 24 - (intOf t).toNat)
  case atStart => exact ⟨0, by omega, rfl, by simp [Nat.mod_one], rfl, rfl⟩
  case round =>
    obtain ⟨k, hk, rfl, rfl, rfl, rfl⟩ := hrel
    have hst := hst k
    have hlt := hlt k
    have hp := hp k
    have h24 := two24 hk
    have htb := htb k
    by_cases hlk : k < 24
    · have HA := HA k (by omega) w
      have HB := HB k (by omega) w
      have hpk : 2 ^ k * 2 = 2 ^ (k + 1) := (Nat.pow_succ 2 k).symm
      have hpl : 2 ^ (k + 1) ≤ 16777216 := two24 (by omega)
      rw [htb] at hst
      generalize hq : 2 ^ (k + 1) = q at *
      generalize 2 ^ k = p at *
      generalize c % p = x at *
      cases h1 : a.testBit k
      · rw [h1] at HA hst
        cases h2 : b.testBit k
        · rw [h2] at HB hst
          have hs2 : Hid (c % q = x) := Lib.hid (by simpa using hst)
          have hq2 := Lib.hid hq
          have hpk2 := Lib.hid hpk
          clear h1 h2 htb hc hall hst hq hpk hp
          go_wp2_with fail
          refine HA.mono ?_
          rintro e w1 ⟨rfl, rfl⟩
          go_wp2_with fail
          refine HB.mono ?_
          rintro e w1 ⟨rfl, rfl⟩
          clear HA HB
          go_wp2
          go_roundw
          case rel => exact ⟨k + 1, by omega, by go_num, by rw [hq2.out, hs2.out], by rw [hq2.out, ← hpk2.out]; go_num, trivial⟩
          case measure => simp [intOf]; omega
        · rw [h2] at HB hst
          have hs2 : Hid (c % q = x + p) := Lib.hid (by simpa using hst)
          have hq2 := Lib.hid hq
          have hpk2 := Lib.hid hpk
          clear h1 h2 htb hc hall hst hq hpk hp
          go_wp2_with fail
          refine HA.mono ?_
          rintro e w1 ⟨rfl, rfl⟩
          go_wp2_with fail
          refine HB.mono ?_
          rintro e w1 ⟨rfl, rfl⟩
          clear HA HB
          go_wp2
          go_roundw
          case rel => exact ⟨k + 1, by omega, by go_num, by rw [hq2.out, hs2.out]; go_num, by rw [hq2.out, ← hpk2.out]; go_num, trivial⟩
          case measure => simp [intOf]; omega
      · rw [h1] at HA hst
        have hs2 : Hid (c % q = x + p) := Lib.hid (by simpa using hst)
        have hq2 := Lib.hid hq
        have hpk2 := Lib.hid hpk
        clear h1 htb hc hall hst hq hpk hp
        go_wp2_with fail
        refine HA.mono ?_
        rintro e w1 ⟨rfl, rfl⟩
        clear HA HB
        go_wp2
        go_roundw
        case rel => exact ⟨k + 1, by omega, by go_num, by rw [hq2.out, hs2.out]; go_num, by rw [hq2.out, ← hpk2.out]; go_num, trivial⟩
        case measure => simp [intOf]; omega
    · obtain rfl : k = 24 := by omega
      have hR : Hid (((c % 2 ^ 24 : Nat) : Int) = (c : Int)) := Lib.hid (by rw [hall.out])
      generalize c % 2 ^ 24 = x at *
      clear hst hlt hp htb hall hc
      go_wp2
      go_ret
      exact ⟨by rw [← hR.out]; rfl, rfl⟩
/-- A row of numbers that the call owns, as a slice that reads so. -/
theorem own_nI {w : World} {B n : Nat} {v : Value} {o : List Nat} (h : w.ownsRow B 3 1 v n (intsV o)) : IntsAt w w.heap.size v (nI o) := by
  have hn : o.length = n := by have := h.1; unfold intsV at this; rw [List.length_map] at this; omega
  rcases h.2 with ⟨rfl, h0⟩ | ⟨g, cap, cur, rfl, hg, hgg, hnc, hcm, hcs, htake⟩
  · have : o = [] := List.eq_nil_of_length_eq_zero (by omega)
    subst this
    exact ⟨none, 0, rfl, by decide, fun h => absurd h (by decide)⟩
  · rw [Nat.mul_one] at htake
    have hmx : maxLen = 9223372036854775807 := rfl
    refine ⟨some ⟨g, 0, none⟩, cap, by rw [nI_len, hn], by rw [nI_len]; omega, fun _ => ⟨g, 0, rfl, size_of_block hgg, fun j x hj => ?_⟩⟩
    obtain ⟨y, rfl, hy⟩ := nI_of hj
    have hjl := (List.getElem?_eq_some_iff.1 hy).1
    rw [Nat.zero_add, cell_of_block hgg]
    have h1 : (cur.toList.take n)[j]? = some (.int .i64 y) := by rw [htake]; unfold intsV; rw [List.getElem?_map, hy]; rfl
    rw [List.getElem?_take, if_pos (by omega)] at h1
    simpa using h1
theorem own_len8 {w : World} {B n : Nat} {v : Value} {o : List Nat} (h : w.ownsRow B 3 1 v n (intsV o)) : n = o.length := by
  have := h.1
  unfold intsV at this
  rw [List.length_map] at this
  omega
theorem intsV_app (o : List Nat) (x : Nat) : intsV (o ++ [x]) = intsV o ++ [.int .i64 x] := by unfold intsV; simp
theorem one_news {w : World} {x : Int} {T : TypeId} (j : Nat) (u : Value) (hj : [Value.int .i64 x][j]? = some u) : (w.alloc (.cells #[.int .i64 x] T (0, 0))).cell? ((⟨w.heap.size, 0, none⟩ : Addr).add j) = some u := by
  match j, hj with
  | 0, hj => rw [Addr.add_lit, cell_of_block (heap_alloc_new _ _)]; exact hj
theorem one_cell {x : Int} (u : Value) (hu : u ∈ [Value.int .i64 x]) : u.oneCell' = true := by
  rw [List.mem_singleton.1 hu]; rfl
set_option maxHeartbeats 1000000 in
set_option maxRecDepth 100000 in
/-- Is a number in a row? -/
theorem rhas8_any (v : Value) (l : List Nat) (m : Nat) (w : World) (hz : IntsAt w w.heap.size v (nI l)) :
    Calls Try.prog 45 #[v, .int .i64 m] w fun e w' => e = .returned (.bool (decide (m ∈ l))) ∧ w = w' := by
  obtain ⟨A, c, rfl, hl, hc⟩ := hz
  rw [nI_len] at hl hc ⊢
  go_enter Try.func45, Try.ntmps45
  go_wp2
  go_loopw [5] (fun t wr => ∃ k : Nat, k ≤ l.length ∧ t = .int .i64 k ∧ Hid (m ∉ l.take k) ∧ w = wr) (fun t _ => l.length - (intOf t).toNat)
  case atStart => exact ⟨0, by omega, rfl, Lib.hid (by simp), rfl⟩
  case round =>
    obtain ⟨k, hk, rfl, hH, rfl⟩ := hrel
    by_cases hlt : k < l.length
    · obtain ⟨b, off, rfl, hB, hcell⟩ := hc (by omega)
      obtain ⟨x, hx⟩ : ∃ x, l[k]? = some x := ⟨_, List.getElem?_eq_getElem hlt⟩
      have q := hcell k _ (nI_get hx)
      have hxH := Lib.hid hx
      clear hcell hc hx
      by_cases hxm : x = m
      · have hb : (((x : Nat) : Int) == ((m : Nat) : Int)) = true := by rw [hxm]; simp
        have hR : Hid (decide (m ∈ l) = true) := Lib.hid (decide_eq_true (by rw [← hxm]; exact List.mem_of_getElem? hxH.out))
        clear hxm hH
        go_wp2
        go_ret
        exact ⟨by rw [hR.out]; rfl, rfl⟩
      · have hb : (((x : Nat) : Int) == ((m : Nat) : Int)) = false := by rw [beq_eq_false_iff_ne]; intro e; exact hxm (by omega)
        have hst : Hid (m ∉ l.take (k + 1)) := Lib.hid (by
          rw [List.take_add_one, hxH.out, List.mem_append]
          rintro (h | h)
          · exact hH.out h
          · have : m = x := by simpa using h
            exact hxm this.symm)
        clear hxm hH
        go_wp2
        go_roundw
        case rel => exact ⟨k + 1, by omega, by go_num, hst, trivial⟩
        case measure => simp [intOf]; omega
    · have hR : Hid (decide (m ∈ l) = false) := Lib.hid (decide_eq_false (by have := hH.out; rwa [List.take_of_length_le (by omega)] at this))
      clear hH
      go_wp2
      go_ret
      exact ⟨by rw [hR.out]; rfl, rfl⟩
set_option maxHeartbeats 1000000 in
set_option maxRecDepth 100000 in
/-- Are two rows alike? -/
theorem rsame8_any (w : World) (v u : Value) (xs ys : List Int) (hx : IntsAt w w.heap.size v xs) (hy : IntsAt w w.heap.size u ys) :
    Calls Try.prog 17 #[v, u] w fun e w' => e = .returned (.bool (decide (xs = ys))) ∧ Below w.heap.size w w' := by
  obtain ⟨A, c, rfl, hlx, hcx⟩ := hx
  obtain ⟨A2, c2, rfl, hly, hcy⟩ := hy
  by_cases hl : xs.length = ys.length
  · have hd : (((xs.length : Nat) : Int) != ((ys.length : Nat) : Int)) = false := by rw [hl]; simp
    have hlH := Lib.hid hl
    clear hl
    go_enter Try.func17, Try.ntmps17
    go_wp2
    clear hd
    go_loopw [5] (fun t wr => ∃ k : Nat, k ≤ xs.length ∧ t = .int .i64 k ∧ Hid (xs.take k = ys.take k) ∧ Below w.heap.size w wr) (fun t _ => xs.length - (intOf t).toNat)
    case atStart => exact ⟨0, by omega, rfl, Lib.hid (by simp), Below.refl _ _⟩
    case round =>
      obtain ⟨k, hk, rfl, hH, hb⟩ := hrel
      by_cases hlt : k < xs.length
      · have hlt' : k < ys.length := by have := hlH.out; omega
        obtain ⟨b, off, rfl, hB, hc⟩ := hcx (by omega)
        obtain ⟨b', off', rfl, hB', hc'⟩ := hcy (by omega)
        obtain ⟨x, hx⟩ : ∃ x, xs[k]? = some x := ⟨_, List.getElem?_eq_getElem hlt⟩
        obtain ⟨y, hy⟩ : ∃ y, ys[k]? = some y := ⟨_, List.getElem?_eq_getElem hlt'⟩
        have q0 := fun X : After wr => After.cell X ((hb.cell (p := ⟨b, off + k, none⟩) hB).trans (hc k x hx))
        have q1 := fun X : After wr => After.cell X ((hb.cell (p := ⟨b', off' + k, none⟩) hB').trans (hc' k y hy))
        have b1 : (0 : Int) ≤ (k : Int) := by omega
        have b2 : (k : Int) < (xs.length : Int) := by omega
        have b3 : (k : Int) < (ys.length : Int) := by omega
        have hxH := Lib.hid hx
        have hyH := Lib.hid hy
        clear hc hc' hcx hcy hx hy
        by_cases hxy : x = y
        · have hne : (x != y) = false := by rw [hxy]; simp
          have hst : Hid (xs.take (k + 1) = ys.take (k + 1)) := Lib.hid (by rw [List.take_add_one, List.take_add_one, hH.out, hxH.out, hyH.out, hxy])
          clear hxy hH
          go_wp2_with fail
          refine wp_region_after (by kernel_rfl) (by kernel_rfl) ?_
          repeat (first | go_big_quiet_step (fail))
          refine wpQuiet_nil ?_
          intro z
          have hbz := hb.trans (z.2.mono hb.size)
          clear q0 q1
          go_wp2
          go_roundw
          case rel => exact ⟨k + 1, by omega, by go_num, hst, hbz⟩
          case measure => simp [intOf]; omega
        · have hne : (x != y) = true := by rw [bne_iff_ne]; exact hxy
          have hR : Hid (decide (xs = ys) = false) := Lib.hid (decide_eq_false fun e => hxy (by
            have h1 := hxH.out
            rw [e, hyH.out] at h1
            injection h1 with h1
            exact h1.symm))
          clear hxy hH
          go_wp2_with fail
          refine wp_region_after (by kernel_rfl) (by kernel_rfl) ?_
          repeat (first | go_big_quiet_step (fail))
          refine wpQuiet_nil ?_
          intro z
          have hbz := hb.trans (z.2.mono hb.size)
          clear q0 q1
          go_wp2
          go_ret
          exact ⟨by rw [hR.out]; rfl, hbz⟩
      · have hR : Hid (decide (xs = ys) = true) := Lib.hid (decide_eq_true (by
          have h1 := hH.out
          rw [List.take_of_length_le (by omega), List.take_of_length_le (by have := hlH.out; omega)] at h1
          exact h1))
        clear hH
        go_wp2
        go_ret
        exact ⟨by rw [hR.out]; rfl, hb⟩
  · have hd : (((xs.length : Nat) : Int) != ((ys.length : Nat) : Int)) = true := by rw [bne_iff_ne]; omega
    have hR : Hid (decide (xs = ys) = false) := Lib.hid (decide_eq_false fun e => hl (by rw [e]))
    clear hl
    go_enter Try.func17, Try.ntmps17
    go_wp2
    go_ret
    exact ⟨by rw [hR.out]; rfl, Below.refl _ _⟩
theorem filter_step {l : List Nat} {k : Nat} {x : Nat} (h : l[k]? = some x) (p : Nat → Bool) : (l.take (k + 1)).filter p = (l.take k).filter p ++ if p x then [x] else [] := by
  rw [List.take_add_one, h, List.filter_append]
  congr 1
  cases hp : p x <;> simp [hp]
set_option maxHeartbeats 2000000 in
set_option maxRecDepth 100000 in
/-- Those of one row that are, or are not, in another one. -/
theorem rpick8_any (v u : Value) (f g : List Nat) (b : Bool) (hfl : f.length ≤ 1000) (w : World) (hf : IntsAt w w.heap.size v (nI f)) (hg : IntsAt w w.heap.size u (nI g)) :
    Calls Try.prog 22 #[v, u, .bool b] w fun e w' => ∃ v', e = .returned v' ∧ IntsAt w' w'.heap.size v' (nI (f.filter fun x => decide (x ∈ g) == b)) ∧ Below w.heap.size w w' := by
  obtain ⟨i0, hi0, hz0, hz1, hz2⟩ := info_parts Try.infoInt
  have HH := fun m w1 (hb : Below w.heap.size w w1) => rhas8_any u g m w1 ((hg.below hb).more hb.size)
  obtain ⟨A, c, rfl, hl, hc⟩ := hf
  obtain ⟨A2, c2, rfl, -, -⟩ := hg
  simp only [nI_len] at *
  go_enter Try.func22, Try.ntmps22
  go_wp2
  go_loopw [7, 8] (fun s t wr => ∃ (k : Nat) (r : List Nat), k ≤ f.length ∧ t = .int .i64 k ∧ Hid (r = (f.take k).filter fun x => decide (x ∈ g) == b) ∧ wr.ownsRow w.heap.size 3 1 s r.length (intsV r) ∧ Below w.heap.size w wr) (fun _ t _ => f.length - (intOf t).toNat)
  case atStart => exact ⟨0, [], by omega, rfl, Lib.hid (by simp), World.ownsRow_nil _ _ _ _, Below.refl _ _⟩
  case round =>
    obtain ⟨k, r, hk, rfl, hr, hown, hb⟩ := hrel
    by_cases hlt : k < f.length
    · obtain ⟨bl, off, rfl, hB, hcell⟩ := hc (by omega)
      obtain ⟨x, hx⟩ : ∃ x, f[k]? = some x := ⟨_, List.getElem?_eq_getElem hlt⟩
      have q := (hb.cell (p := ⟨bl, off + k, none⟩) hB).trans (hcell k _ (nI_get hx))
      have hst := Lib.hid (filter_step hx fun x => decide (x ∈ g) == b)
      have HH := HH x wr hb
      have hrl : r.length ≤ k := by rw [hr.out]; exact Nat.le_trans (List.length_filter_le _ _) (by rw [List.length_take]; omega)
      clear hcell hc hx
      generalize hdd : decide (x ∈ g) = d at *
      cases hd : (d == b)
      · have hs2 : Hid (r = (f.take (k + 1)).filter fun x => decide (x ∈ g) == b) := Lib.hid (by rw [hst.out, hr.out, hd]; simp)
        clear hdd hr
        go_wp2_with fail
        refine HH.mono ?_
        rintro e w1 ⟨rfl, rfl⟩
        clear HH
        go_wp2
        go_roundw
        case rel => exact ⟨k + 1, r, by omega, by go_num, hs2, hown, hb⟩
        case measure => simp [intOf]; omega
      · have hs2 : Hid (r ++ [x] = (f.take (k + 1)).filter fun x => decide (x ∈ g) == b) := Lib.hid (by rw [hst.out, hr.out, hd]; simp)
        have hq2 : ∀ o, (wr.alloc o).cell? ⟨bl, off + k, none⟩ = some (.int .i64 x) := fun o => (World.cell?_alloc_lt _ _ _ (block_lt_of_cell q)).trans q
        clear hdd hr
        go_wp2_with fail
        refine HH.mono ?_
        rintro e w1 ⟨rfl, rfl⟩
        clear HH
        have hbz := hb.size
        go_wp2_with (at_builtin; refine wpList_append_own_at _ rfl _ _ 22 rfl w.heap.size 3 i0 (.int .i64 0) 1 8 Try.underlying22 hi0 hz0 hz1 hz2 rfl (by decide) _ _ _ rfl (hown.alloc _) ⟨wr.heap.size, 0, none⟩ 1 1 [.int .i64 (x : Int)] rfl rfl one_news one_cell ?c3 ?c4 ?c5 ?_)
        case c3 => unfold maxLen; omega
        case c4 => omega
        case c5 => simp; omega
        intro v' w8 ho8 hg8 _ hloc
        have hB8 := grown_below (hown.alloc (.cells #[.int .i64 (x : Int)] 3)) hg8 (hb.alloc hb.size _) (Nat.le_refl _) (by simp; omega)
        have ho8' : w8.ownsRow w.heap.size 3 1 v' (r ++ [x]).length (intsV (r ++ [x])) := by
          rw [intsV_app, List.length_append]
          exact ho8
        clear hg8 hown ho8 hloc q hq2
        go_wp2
        go_roundw
        case rel => exact ⟨k + 1, r ++ [x], by omega, by go_num, hs2, ho8', hB8⟩
        case measure => simp [intOf]; omega
    · have hR : Hid (r = f.filter fun x => decide (x ∈ g) == b) := Lib.hid (by rw [hr.out, List.take_of_length_le (by omega)])
      have hI := own_nI hown
      clear hr hown
      go_wp2
      go_ret
      exact ⟨_, rfl, by rw [← hR.out]; exact hI, hb⟩
end Go.Proofs.Ytkkdfpmjmommcaa
