/- The document's own Right of layer 13, and Great. What the statements of layer 14 look at. What Has, With and List of the package set answer, for every input. -/
import Derived.Test.YtjjpobpcpgcbaaaGJ04
import Derived.Test.YtjjpobpcpgcbaaaGJ03
import Derived.Test.YtjjpobpcpgcbaaaGJ02
namespace Go.Proofs.Ytjjpobpcpgcbaaa
open Go.RowKit Go.Joins

def mtv (n : Int) (L : Value) : Value := .agg #[.int .i64 n, L]
def mtb (n : Int) (L : Value) : Obj := .cells #[.int .i64 n, L] 24 (0, 0)
def greatM (ls : List (List Int)) : Bool := (ls.any fun l : List Int => decide (100 < l.length)) || decide (100 < ls.length)
set_option maxHeartbeats 1000000 in
set_option maxRecDepth 100000 in
theorem great13_any (n : Int) (L : Value) (ls : List (List Int)) (w : World) (hL : MatAt w w.heap.size L ls) :
    Calls Try.prog 22 #[mtv n L] w fun e w' => e = .returned (.bool (greatM ls)) ∧ Below w.heap.size w w' := by
  obtain ⟨A, c, rfl, hlen, hc⟩ := hL
  unfold mtv
  have hany : Hid ((∀ (j : Nat) (l : List Int), ls[j]? = some l → ¬ 100 < l.length) → greatM ls = decide (100 < ls.length)) := Lib.hid (by
    intro hj
    unfold greatM
    have : (ls.any fun l : List Int => decide (100 < l.length)) = false := by
      rw [List.any_eq_false]
      intro l hl
      obtain ⟨x, hx, rfl⟩ := List.mem_iff_getElem.1 hl
      simpa using hj x _ (List.getElem?_eq_getElem hx)
    rw [this]; simp)
  have hyes : Hid (∀ (j : Nat) (l : List Int), ls[j]? = some l → 100 < l.length → greatM ls = true) := Lib.hid (by
    intro j l hj hl
    unfold greatM
    have : (ls.any fun l : List Int => decide (100 < l.length)) = true := by
      rw [List.any_eq_true]
      exact ⟨l, List.mem_of_getElem? hj, by simpa using hl⟩
    rw [this]; simp)
  go_enter Try.func22, Try.ntmps22
  go_wp2
  go_loop [3] (fun t => ∃ j : Nat, j ≤ ls.length ∧ t = .int .i64 j ∧ Hid (∀ (x : Nat) (l : List Int), x < j → ls[x]? = some l → ¬ 100 < l.length)) (fun t => ls.length - (intOf t).toNat)
  case atStart => exact ⟨0, by omega, rfl, Lib.hid (fun x l hx => absurd hx (Nat.not_lt_zero _))⟩
  case round =>
    obtain ⟨j, hj, rfl, hH⟩ := hrel
    by_cases hlt : j < ls.length
    · obtain ⟨b, off, rfl, hB, hc⟩ := hc (by omega)
      obtain ⟨l, hl⟩ : ∃ l, ls[j]? = some l := ⟨_, List.getElem?_eq_getElem hlt⟩
      obtain ⟨ov, c2, A2, cap2, rfl, hol, -⟩ := hc j l hl
      have c2' : (w.alloc (mtb n (.slice (some ⟨b, off, none⟩) ls.length c))).cell? ⟨b, off + j, none⟩ = some (.slice A2 l.length cap2) := by
        rw [World.cell?_alloc_lt _ _ _ (by exact hB)]; exact c2
      unfold mtb at c2'
      have hgl := Lib.hid hl
      clear hl hc c2
      by_cases hg : 100 < l.length
      · have hr := Lib.hid (hyes.out j l hgl.out hg)
        go_wp2
        go_ret
        exact ⟨by rw [hr.out]; rfl, below_alloc1 w _⟩
      · go_wp2
        go_round
        case rel => exact ⟨j + 1, by omega, by go_num, Lib.hid (fun x l' hx hxl => by
          by_cases e : x = j
          · subst e
            rw [hgl.out] at hxl
            injection hxl with hxl
            rw [← hxl]; exact hg
          · exact hH.out x l' (by omega) hxl)⟩
        case measure => simp [intOf]; omega
    · have e : j = ls.length := by omega
      have hr := Lib.hid (hany.out (fun x l hx => hH.out x l (by have := (List.getElem?_eq_some_iff.1 hx).1; omega) hx))
      subst e
      go_wp2
      go_ret
      exact ⟨by rw [hr.out]; exact ret_bool (by rw [Bool.eq_iff_iff]; simp; omega), below_alloc1 w _⟩

def okR (cols : Int) (l : List Int) (k : Nat) : Bool := decide (0 ≤ l.getD k 0) && decide (l.getD k 0 < cols) && (decide (k = 0) || decide (l.getD (k - 1) 0 < l.getD k 0))
def rightR (cols : Int) (l : List Int) : Bool := (List.range l.length).all (okR cols l)
def rightM (cols : Int) (ls : List (List Int)) : Bool := decide (0 ≤ cols) && decide (cols ≤ 4000) && ls.all (rightR cols)
theorem right_bad {cols : Int} {ls : List (List Int)} {i k : Nat} {l : List Int} (hl : ls[i]? = some l) (hk : k < l.length) (h : okR cols l k = false) : rightM cols ls = false := by
  unfold rightM
  have : ls.all (rightR cols) = false := by
    rw [List.all_eq_false]
    refine ⟨l, List.mem_of_getElem? hl, ?_⟩
    unfold rightR
    simp only [List.all_eq_true, List.mem_range]
    intro H
    rw [H k hk] at h
    cases h
  rw [this, Bool.and_false]
theorem right_ok {cols : Int} {ls : List (List Int)} (h1 : 0 ≤ cols) (h2 : cols ≤ 4000) (h : ∀ (i : Nat) (l : List Int), ls[i]? = some l → ∀ k, k < l.length → okR cols l k = true) : rightM cols ls = true := by
  unfold rightM
  rw [decide_eq_true h1, decide_eq_true h2]
  simp only [Bool.true_and, List.all_eq_true]
  intro l hl
  obtain ⟨i, hi, rfl⟩ := List.mem_iff_getElem.1 hl
  unfold rightR
  simp only [List.all_eq_true, List.mem_range]
  exact fun k hk => h i _ (List.getElem?_eq_getElem hi) k hk
theorem getD_some {l : List Int} {k : Nat} {x : Int} (h : l[k]? = some x) : l.getD k 0 = x := by simp [List.getD, h]
set_option maxHeartbeats 4000000 in
set_option maxRecDepth 100000 in
theorem rright13_any (w : World) (v : Value) (cols : Int) (ls : List (List Int)) (hv : MatAt w w.heap.size v ls) :
    Calls Try.prog 12 #[.int .i64 cols, v] w fun e w' => e = .returned (.bool (rightM cols ls)) ∧ Below w.heap.size w w' := by
  obtain ⟨A, c, rfl, hlv, hcv⟩ := hv
  by_cases h1 : cols < 0
  · have hr : Hid (rightM cols ls = false) := Lib.hid (by unfold rightM; rw [decide_eq_false (by omega)]; rfl)
    clear hcv
    go_enter Try.func12, Try.ntmps12
    go_wp2
    go_ret
    exact ⟨by rw [hr.out]; rfl, Below.refl _ _⟩
  by_cases h2 : 4000 < cols
  · have hr : Hid (rightM cols ls = false) := Lib.hid (by unfold rightM; rw [decide_eq_false (show ¬ cols ≤ 4000 by omega), Bool.and_false]; rfl)
    clear hcv
    go_enter Try.func12, Try.ntmps12
    go_wp2
    go_ret
    exact ⟨by rw [hr.out]; rfl, Below.refl _ _⟩
  have hbad := Lib.hid (fun i k l => right_bad (cols := cols) (ls := ls) (i := i) (k := k) (l := l))
  have hok := Lib.hid (fun h => right_ok (cols := cols) (ls := ls) (by omega) (by omega) h)
  go_enter Try.func12, Try.ntmps12
  go_wp2
  clear h1 h2
  go_loopw [5] (fun t wr => ∃ i : Nat, i ≤ ls.length ∧ t = .int .i64 i ∧ Hid (∀ (j : Nat) (l : List Int), j < i → ls[j]? = some l → ∀ k, k < l.length → okR cols l k = true) ∧ Below w.heap.size w wr) (fun t _ => ls.length - (intOf t).toNat)
  case atStart => exact ⟨0, by omega, rfl, Lib.hid (fun j l h => absurd h (Nat.not_lt_zero _)), Below.refl _ _⟩
  case round =>
    obtain ⟨i, hi, rfl, hH, hb⟩ := hrel
    by_cases hil : i < ls.length
    · obtain ⟨b, off, rfl, hB, hc⟩ := hcv (by omega)
      obtain ⟨l, hl⟩ : ∃ l, ls[i]? = some l := ⟨_, List.getElem?_eq_getElem hil⟩
      obtain ⟨ov, c0, A3, c3, rfl, hl3, hc3⟩ := hc i l hl
      have i0 : (0 : Int) ≤ (i : Int) := by omega
      have i1 : (i : Int) < (ls.length : Int) := by omega
      have hlH := Lib.hid hl
      clear hc hcv hl
      go_wp2
      go_loopw [6] (fun t wj => ∃ k : Nat, k ≤ l.length ∧ t = .int .i64 k ∧ Hid (∀ j, j < k → okR cols l j = true) ∧ Below w.heap.size w wj) (fun t _ => l.length - (intOf t).toNat)
      case atStart => exact ⟨0, by omega, rfl, Lib.hid (fun j h => absurd h (Nat.not_lt_zero _)), hb⟩
      case round =>
        clear hb
        obtain ⟨k, hk, rfl, hK, hb⟩ := hrel
        have d0 := (hb.cell (p := ⟨b, off + i, none⟩) hB).trans c0
        by_cases hkl : k < l.length
        · obtain ⟨b3, off3, rfl, hB3, hc3'⟩ := hc3 (by omega)
          obtain ⟨x, hx⟩ : ∃ x, l[k]? = some x := ⟨_, List.getElem?_eq_getElem hkl⟩
          have q0 := fun X : After wr => After.cell X d0
          have q1 := fun X : After wr => After.cell X ((hb.cell (p := ⟨b3, off3 + k, none⟩) hB3).trans (hc3' k x hx))
          have k0 : (0 : Int) ≤ (k : Int) := by omega
          have k1 : (k : Int) < (l.length : Int) := by omega
          have hgx := Lib.hid (getD_some hx)
          clear hc3
          by_cases x0 : x < 0
          · have hr := Lib.hid (hbad.out i k l hlH.out hkl (by unfold okR; rw [hgx.out, decide_eq_false (by omega)]; rfl))
            clear hK hH hbad hok hc3' hx hgx
            go_wp2_with fail
            refine wp_region_after (by kernel_rfl) (by kernel_rfl) ?_
            repeat (first | go_big_quiet_step (fail))
            refine wpQuiet_nil ?_
            intro z
            have hbz := hb.trans (z.2.mono hb.size)
            clear q0 q1 d0
            go_wp2
            go_ret
            exact ⟨by rw [hr.out]; rfl, hbz⟩
          have xd0 : decide (x < 0) = false := decide_eq_false x0
          by_cases x1 : cols ≤ x
          · have hr := Lib.hid (hbad.out i k l hlH.out hkl (by unfold okR; rw [hgx.out, decide_eq_false (show ¬ x < cols by omega), Bool.and_false]; rfl))
            clear hK hH hbad hok hc3' hx hgx
            have xd1 : decide (cols ≤ x) = true := decide_eq_true x1
            go_wp2_with fail
            refine wp_region_after (by kernel_rfl) (by kernel_rfl) ?_
            repeat (first | go_big_quiet_step (fail))
            refine wpQuiet_nil ?_
            intro z
            have hbz := hb.trans (z.2.mono hb.size)
            clear q0 q1 d0
            go_wp2
            go_ret
            exact ⟨by rw [hr.out]; rfl, hbz⟩
          have xd1 : decide (cols ≤ x) = false := decide_eq_false x1
          cases k with
          | zero =>
            rw [Nat.add_zero] at q1
            have hst : Hid (∀ j, j < 0 + 1 → okR cols l j = true) := Lib.hid (fun j hj => by
              by_cases e : j = 0
              · subst e
                unfold okR
                rw [hgx.out, decide_eq_true (show 0 ≤ x by omega), decide_eq_true (show x < cols by omega)]; rfl
              · exact hK.out j (by omega))
            clear hK hH hbad hok hc3' hx hgx hlH
            go_wp2_with fail
            refine wp_region_after (by kernel_rfl) (by kernel_rfl) ?_
            repeat (first | go_big_quiet_step (fail))
            refine wpQuiet_nil ?_
            intro z
            have hbz := hb.trans (z.2.mono hb.size)
            clear q0 q1 d0
            go_wp2
            go_roundw
            case rel => exact ⟨0 + 1, by omega, by go_num, hst, hbz⟩
            case measure => simp [intOf]; omega
          | succ m =>
            obtain ⟨y, hy⟩ : ∃ y, l[m]? = some y := ⟨_, List.getElem?_eq_getElem (by omega)⟩
            have q2 := fun X : After wr => After.cell X ((hb.cell (p := ⟨b3, off3 + m, none⟩) hB3).trans (hc3' m y hy))
            have hgy := Lib.hid (getD_some hy)
            have m0 : (0 : Int) < ((m + 1 : Nat) : Int) := by omega
            have m1 : ((m + 1 : Nat) : Int) - 1 = (m : Int) := by omega
            have m2 : (0 : Int) ≤ (m : Int) := by omega
            have m3 : (m : Int) < (l.length : Int) := by omega
            by_cases hxy : x ≤ y
            · have hr := Lib.hid (hbad.out i (m + 1) l hlH.out hkl (by unfold okR; rw [hgx.out, Nat.add_sub_cancel, hgy.out, decide_eq_false (show ¬ y < x by omega)]; simp))
              clear hK hH hbad hok hc3' hx hgx hy hgy
              have xd2 : decide (x ≤ y) = true := decide_eq_true hxy
              go_wp2_with fail
              refine wp_region_after (by kernel_rfl) (by kernel_rfl) ?_
              repeat (first | go_big_quiet_step (fail))
              refine wpQuiet_nil ?_
              intro z
              have hbz := hb.trans (z.2.mono hb.size)
              clear q0 q1 d0 q2
              go_wp2
              go_ret
              exact ⟨by rw [hr.out]; rfl, hbz⟩
            · have hst : Hid (∀ j, j < m + 1 + 1 → okR cols l j = true) := Lib.hid (fun j hj => by
                by_cases e : j = m + 1
                · subst e
                  unfold okR
                  rw [hgx.out, Nat.add_sub_cancel, hgy.out, decide_eq_true (show 0 ≤ x by omega), decide_eq_true (show x < cols by omega), decide_eq_true (show y < x by omega)]; simp
                · exact hK.out j (by omega))
              clear hK hH hbad hok hc3' hx hgx hy hgy hlH
              have xd2 : decide (x ≤ y) = false := decide_eq_false hxy
              go_wp2_with fail
              refine wp_region_after (by kernel_rfl) (by kernel_rfl) ?_
              repeat (first | go_big_quiet_step (fail))
              refine wpQuiet_nil ?_
              intro z
              have hbz := hb.trans (z.2.mono hb.size)
              clear q0 q1 d0 q2
              go_wp2
              go_roundw
              case rel => exact ⟨m + 1 + 1, by omega, by go_num, hst, hbz⟩
              case measure => simp [intOf]; omega
        · have e : k = l.length := by omega
          subst e
          have hst : Hid (∀ (j : Nat) (l : List Int), j < i + 1 → ls[j]? = some l → ∀ k, k < l.length → okR cols l k = true) := Lib.hid (fun j l' hj hl' => by
            by_cases e : j = i
            · subst e
              rw [hlH.out] at hl'
              injection hl' with hl'
              rw [← hl']; exact hK.out
            · exact hH.out j l' (by omega) hl')
          clear hH hc3 hK
          go_wp2
          go_roundw
          case rel => exact ⟨i + 1, by omega, by go_num, hst, hb⟩
          case measure => simp [intOf]; omega
    · have e : i = ls.length := by omega
      subst e
      have hyes : Hid (rightM cols ls = true) := Lib.hid (hok.out fun j l hl => hH.out j l (List.getElem?_eq_some_iff.1 hl).1 hl)
      clear hcv hH
      go_wp2
      go_ret
      exact ⟨by rw [hyes.out]; rfl, hb⟩
end Go.Proofs.Ytjjpobpcpgcbaaa
namespace Go.Proofs.Ytjjpobpcpgcbaaa
open Go.RowKit Go.Joins

def gr14 (n : Int) (ls : List (List Int)) : Bool := greatM ls || decide (30 < ls.length) || (decide (30 < n) && decide (n ≤ 4000))
theorem gr14_no {n : Int} {ls : List (List Int)} (h : gr14 n ls = false) : greatM ls = false ∧ ls.length ≤ 30 ∧ (n ≤ 30 ∨ 4000 < n) := by
  unfold gr14 at h
  rw [Bool.or_eq_false_iff, Bool.or_eq_false_iff, Bool.and_eq_false_iff, decide_eq_false_iff_not, decide_eq_false_iff_not, decide_eq_false_iff_not] at h
  exact ⟨h.1.1, by omega, by omega⟩
set_option maxHeartbeats 4000000 in
set_option maxRecDepth 100000 in
theorem great14_any (n : Int) (L : Value) (ls : List (List Int)) (w : World) (hL : MatAt w w.heap.size L ls) :
    Calls Try.prog 7 #[mtv n L] w fun e w' => e = .returned (.bool (gr14 n ls)) ∧ Below w.heap.size w w' := by
  have hB0 := below_alloc1 w (mtb n L)
  have hbu : (w.alloc (mtb n L)).heap[w.heap.size]? = some (mtb n L) := heap_alloc_new _ _
  have HG := great13_any n L ls _ ((hL.below hB0).more hB0.size)
  have hdf : Hid (gr14 n ls = (greatM ls || decide (30 < ls.length) || (decide (30 < n) && decide (n ≤ 4000)))) := Lib.hid rfl
  generalize gr14 n ls = R at *
  obtain ⟨A, c, rfl, hlen, -⟩ := hL
  unfold mtb at hB0 hbu HG
  unfold mtv at *
  obtain ⟨u0, u1, -⟩ := now2 hbu rfl
  go_enter Try.func7, Try.ntmps7
  cases hg : greatM ls
  · rw [hg] at HG hdf
    by_cases h1 : 30 < ls.length
    · have hd1 : decide ((30 : Int) < (ls.length : Int)) = true := decide_eq_true (by omega)
      have hr : Hid (R = true) := Lib.hid (by rw [hdf.out, decide_eq_true h1]; rfl)
      clear hdf hg
      go_wp2_with fail
      refine HG.mono ?_
      rintro e w1 ⟨rfl, hb⟩
      have hB1 := hB0.trans (hb.mono hB0.size)
      replace hbu := keep_blk hb hbu
      clear u0 u1 hb HG hB0
      obtain ⟨u0, u1, -⟩ := now2 hbu rfl
      go_wp2
      go_ret
      exact ⟨by rw [hr.out]; rfl, hB1⟩
    · have hd1 : decide ((30 : Int) < (ls.length : Int)) = false := decide_eq_false (by omega)
      by_cases h2 : 30 < n
      · have hd2 : decide (30 < n) = true := decide_eq_true h2
        have hr : Hid (R = decide (n ≤ 4000)) := Lib.hid (by rw [hdf.out, decide_eq_false h1, hd2]; rfl)
        clear hdf hg
        go_wp2_with fail
        refine HG.mono ?_
        rintro e w1 ⟨rfl, hb⟩
        have hB1 := hB0.trans (hb.mono hB0.size)
        replace hbu := keep_blk hb hbu
        clear u0 u1 hb HG hB0
        obtain ⟨u0, u1, -⟩ := now2 hbu rfl
        go_wp2
        go_ret
        exact ⟨by rw [hr.out]; rfl, hB1⟩
      · have hd2 : decide (30 < n) = false := decide_eq_false h2
        have hr : Hid (R = false) := Lib.hid (by rw [hdf.out, decide_eq_false h1, hd2]; rfl)
        clear hdf hg
        go_wp2_with fail
        refine HG.mono ?_
        rintro e w1 ⟨rfl, hb⟩
        have hB1 := hB0.trans (hb.mono hB0.size)
        replace hbu := keep_blk hb hbu
        clear u0 u1 hb HG hB0
        obtain ⟨u0, u1, -⟩ := now2 hbu rfl
        go_wp2
        go_ret
        exact ⟨by rw [hr.out]; rfl, hB1⟩
  · rw [hg] at HG hdf
    have hr : Hid (R = true) := Lib.hid (by rw [hdf.out]; rfl)
    clear hdf hg
    go_wp2_with fail
    refine HG.mono ?_
    rintro e w1 ⟨rfl, hb⟩
    have hB1 := hB0.trans (hb.mono hB0.size)
    clear u0 u1 hb HG hB0 hbu
    go_wp2
    go_ret
    exact ⟨by rw [hr.out]; rfl, hB1⟩
end Go.Proofs.Ytjjpobpcpgcbaaa
namespace Go.Proofs.Ytjjpobpcpgcbaaa
open Go.RowKit Go.Joins

/-- Is point p in a set? -/
def hasB (S : BitVec 256) (p : Int) : Bool := decide (0 ≤ p) && S.getLsbD p.toNat
theorem wd_test (S : BitVec 256) (p : Nat) : (((wd S (p / 64)).toNat : Int) / 2 ^ (p % 64)) % 2 = if S.getLsbD p then 1 else 0 := by
  have hb := wd_bit S (p / 64) (p % 64)
  have e : 64 * (p / 64) + p % 64 = p := by omega
  rw [e] at hb
  have hm : p % 64 < 64 := by omega
  simp only [hm, decide_true, Bool.true_and, BitVec.getLsbD, Nat.testBit_eq_decide_div_mod_eq] at hb
  have hd : (((wd S (p / 64)).toNat : Int) / 2 ^ (p % 64)) = (((wd S (p / 64)).toNat / 2 ^ (p % 64) : Nat) : Int) := by
    rw [Int.natCast_ediv]; simp
  rw [hd]
  simp only [BitVec.getLsbD, Nat.testBit_eq_decide_div_mod_eq]
  rw [← hb]
  by_cases h1 : (wd S (p / 64)).toNat / 2 ^ (p % 64) % 2 = 1
  · simp [h1]; omega
  · simp [h1]; omega
theorem wd_twoPow (p k : Nat) (hp : p < 256) : wd (BitVec.twoPow 256 p) k = if k = p / 64 then BitVec.twoPow 64 (p % 64) else 0 := by
  apply BitVec.eq_of_getLsbD_eq
  intro j hj
  rw [wd_bit, BitVec.getLsbD_twoPow]
  simp only [hj, decide_true, Bool.true_and, hp]
  by_cases e : k = p / 64
  · rw [if_pos e, BitVec.getLsbD_twoPow]
    have hm : p % 64 < 64 := by omega
    simp only [hm, decide_true, Bool.true_and]
    have : (p = 64 * k + j) ↔ (p % 64 = j) := by omega
    simp only [this]
  · rw [if_neg e]
    have : ¬ (p = 64 * k + j) := by omega
    simp [this]
theorem with_word (S : BitVec 256) (p : Nat) (hp : p < 256) : bits .or .u64 ((wd S (p / 64)).toNat : Int) (IntKind.u64.wrap (2 ^ (p % 64))) = ((wd (S ||| BitVec.twoPow 256 p) (p / 64)).toNat : Int) := by
  have hm : p % 64 < 64 := by omega
  have e : IntKind.u64.wrap (2 ^ (p % 64)) = ((BitVec.twoPow 64 (p % 64)).toNat : Int) := by
    have hl : 2 ^ (p % 64) < 2 ^ 64 := Nat.pow_lt_pow_right (by decide) hm
    rw [BitVec.toNat_twoPow_of_lt hm]
    have h2 : ((2 ^ (p % 64) : Nat) : Int) = 2 ^ (p % 64) := by simp
    rw [h2]
    exact wrap_u64_id _ (by rw [← h2]; exact Int.natCast_nonneg _) (by rw [← h2]; generalize 2 ^ (p % 64) = q at *; omega)
  rw [e, bits_or_bv, wd_or, wd_twoPow p _ hp, if_pos rfl]
theorem with_cells (S : BitVec 256) (p : Nat) (hp : p < 256) :
    [Value.int IntKind.u64 ↑(wd S 0).toNat, Value.int IntKind.u64 ↑(wd S 1).toNat, Value.int IntKind.u64 ↑(wd S 2).toNat, Value.int IntKind.u64 ↑(wd S 3).toNat].set (p / 64)
      (Value.int IntKind.u64 (bits BinOp.or IntKind.u64 (↑(wd S (p / 64)).toNat) (IntKind.u64.wrap (2 ^ (p % 64))))) =
    [Value.int IntKind.u64 ↑(wd (S ||| BitVec.twoPow 256 p) 0).toNat, Value.int IntKind.u64 ↑(wd (S ||| BitVec.twoPow 256 p) 1).toNat, Value.int IntKind.u64 ↑(wd (S ||| BitVec.twoPow 256 p) 2).toNat, Value.int IntKind.u64 ↑(wd (S ||| BitVec.twoPow 256 p) 3).toNat] := by
  rw [with_word S p hp]
  have same : ∀ k, k ≠ p / 64 → wd (S ||| BitVec.twoPow 256 p) k = wd S k := by
    intro k hne
    rw [wd_or, wd_twoPow p k hp, if_neg hne]
    exact BitVec.or_zero
  have hk : p / 64 = 0 ∨ p / 64 = 1 ∨ p / 64 = 2 ∨ p / 64 = 3 := by omega
  rcases hk with e | e | e | e <;> rw [e] at same ⊢ <;>
    simp [same]
theorem grown_low {w w1 w2 : World} {base size n : Nat} {e : TypeId} {v : Value} {xs : List Value} (hown : w.ownsRow base e size v n xs) (hg : w1.grownBy w2 v.ownBlock) (b : Nat) (h : b < base) (hs : b < w1.heap.size) : w2.heap[b]? = w1.heap[b]? :=
  hg.block _ hs (fun e => by have := (hown.lt b e.symm).1; omega)
theorem grown_below {w w1 w2 a : World} {base size n B : Nat} {e : TypeId} {v : Value} {xs : List Value} (hown : w.ownsRow base e size v n xs) (hg : w1.grownBy w2 v.ownBlock) (hB : Below B a w1) (hle : B ≤ base) (hs : B ≤ w1.heap.size) : Below B a w2 :=
  hB.grown hg hs (fun k e => by have := (hown.lt k e).1; omega)
def ptsK (S : BitVec 256) (k : Nat) : List Nat := (List.range k).filter (fun p => S.getLsbD p)
def intsV (l : List Nat) : List Value := l.map (fun p : Nat => Value.int .i64 (p : Int))
theorem ptsK_succ (S : BitVec 256) (k : Nat) : ptsK S (k + 1) = if S.getLsbD k then ptsK S k ++ [k] else ptsK S k := by
  unfold ptsK
  rw [List.range_succ, List.filter_append]
  by_cases h : S.getLsbD k <;> simp [h]
theorem ptsK_len (S : BitVec 256) (k : Nat) : (ptsK S k).length ≤ k := by
  unfold ptsK
  exact Nat.le_trans (List.length_filter_le _ _) (by simp)
theorem Try.infoInt : (Try.prog.info? 3).map (fun i => (i.zero, i.size, i.bytes)) = some (some (.int .i64 0), 1, 8) := by kernel_rfl
theorem Try.infoBool : (Try.prog.info? 4).map (fun i => (i.zero, i.size, i.bytes)) = some (some (.bool false), 1, 1) := by kernel_rfl

end Go.Proofs.Ytjjpobpcpgcbaaa
