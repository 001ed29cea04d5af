/- The document's own ahead and Solves of layer 13, and Great. The document's own Right of layer 13, and Great. What the statements of layer 14 look at. What Has, With and List of the package set answer, for every input. Rows of rows that a call owns: a slice of slices that grows. Rows in their order, plain. Plain mathematics on cubes, told as two numbers of 8 bits: their literals, their points, their texts; no program is spoken of. What each function of the package cube answers, for every input; nothing that was there before a call turns. What Right and Points of the package cube answer, for every input. What Text of the package cube answers, for every input. What Parse of the package cube answers, for every text. A text that is a cube's is the text of its cube, and a cube is what its text is parsed to. Tables of layer 3 and their texts, plain: what a table's text is, what a text is parsed to, and that one is the other's way back. A right table's text is parsed to the table. A table in memory: its lines are a slice, of each line the outputs are one; a line that is too long, or too many of them. What the document's answers of layer 1 come to, for every input. The document's own examples of layer 1, as the statements hold them. The statement SetBoth, walked. The statement SetPoints, walked: its pieces. What the document's answers of layer 2 come to, for every input. What the document's Cube and Right of layer 2 come to. What the document's Right and Has of layer 2 come to. What the document's Points and Text of layer 2 come to. A slice of sets in memory. Rows and specs: what they are in memory, and what is said of them, plain. -/
import Derived.Test.YtcbhcclickjpnaaGK01
import Derived.Maps.AppendAt
import Derived.WalkKit
import Derived.Laws.BitsAllLaws
import Derived.Lib.SlBytesRow
import Derived.Lib.OthersKept
import Derived.Lib.IndexMore
import Derived.Lib.Strings
import Derived.StillTailTactics
import Derived.Deep.RegionHeld3
import Derived.Deep.DeepCutAuto
namespace Go.Proofs.Ytcbhcclickjpnaa
open Go.RowKit Go.Joins

def hitR (cols l : List Int) : Bool := l.any fun x => cols.any fun c => decide (x = c)
def solvesM (ls : List (List Int)) (cols : List Int) : Bool := ls.all (hitR cols)
theorem hit_step {cols l : List Int} {k : Nat} {x : Int} (h : l[k]? = some x) : hitR cols (l.take (k + 1)) = (hitR cols (l.take k) || cols.any fun c => decide (x = c)) := by
  unfold hitR
  rw [List.take_add_one, h]
  simp
theorem any_step {cols : List Int} {k : Nat} {x c : Int} (h : cols[k]? = some c) : ((cols.take (k + 1)).any fun c => decide (x = c)) = (((cols.take k).any fun c => decide (x = c)) || decide (x = c)) := by
  rw [List.take_add_one, h]
  simp
set_option maxHeartbeats 4000000 in
set_option maxRecDepth 100000 in
theorem rsolves13_any (w : World) (v u : Value) (ls : List (List Int)) (cols : List Int) (hv : MatAt w w.heap.size v ls) (hu : IntsAt w w.heap.size u cols) :
    Calls Try.prog 17 #[v, u] w fun e w' => e = .returned (.bool (solvesM ls cols)) ∧ Below w.heap.size w w' := by
  obtain ⟨A, c, rfl, hlv, hcv⟩ := hv
  obtain ⟨A2, c2, rfl, hlu, hcu⟩ := hu
  go_enter Try.func17, Try.ntmps17
  go_wp2
  go_loopw [5] (fun t wr => ∃ i : Nat, i ≤ ls.length ∧ t = .int .i64 i ∧ Hid (∀ j l, j < i → ls[j]? = some l → hitR cols l = true) ∧ Below w.heap.size w wr) (fun t _ => ls.length - (intOf t).toNat)
  case atStart => exact ⟨0, by omega, rfl, Lib.hid (fun j l h => absurd h (Nat.not_lt_zero _)), Below.refl _ _⟩
  case round =>
    obtain ⟨i, hi, rfl, hH, hb⟩ := hrel
    by_cases hil : i < ls.length
    · obtain ⟨b, off, rfl, hB, hc⟩ := hcv (by omega)
      obtain ⟨l, hl⟩ : ∃ l, ls[i]? = some l := ⟨_, List.getElem?_eq_getElem hil⟩
      obtain ⟨ov, c0, A3, c3, rfl, hl3, hc3⟩ := hc i l hl
      have i0 : (0 : Int) ≤ (i : Int) := by omega
      have i1 : (i : Int) < (ls.length : Int) := by omega
      have hlH := Lib.hid hl
      clear hc hcv hl
      go_wp2
      go_loopw [6, 7] (fun s t wj => ∃ k : Nat, k ≤ l.length ∧ t = .int .i64 k ∧ s = .bool (hitR cols (l.take k)) ∧ Below w.heap.size w wj) (fun _ t _ => l.length - (intOf t).toNat)
      case atStart => exact ⟨0, by omega, rfl, rfl, hb⟩
      case round =>
        clear hb
        obtain ⟨k, hk, rfl, rfl, hb⟩ := hrel
        have d0 := (hb.cell (p := ⟨b, off + i, none⟩) hB).trans c0
        by_cases hkl : k < l.length
        · obtain ⟨b3, off3, rfl, hB3, hc3'⟩ := hc3 (by omega)
          obtain ⟨x, hx⟩ : ∃ x, l[k]? = some x := ⟨_, List.getElem?_eq_getElem hkl⟩
          have e0 := hc3' k x hx
          have k0 : (0 : Int) ≤ (k : Int) := by omega
          have k1 : (k : Int) < (l.length : Int) := by omega
          have hst := Lib.hid (hit_step (cols := cols) hx)
          clear hc3 hc3' hx
          go_wp2
          clear d0
          go_loopw [6, 8] (fun s t wk => ∃ m : Nat, m ≤ cols.length ∧ t = .int .i64 m ∧ s = .bool (hitR cols (l.take k) || (cols.take m).any fun c => decide (x = c)) ∧ Below w.heap.size w wk) (fun _ t _ => cols.length - (intOf t).toNat)
          case atStart => exact ⟨0, by omega, rfl, by simp, hb⟩
          case round =>
            clear hb
            obtain ⟨m, hm, rfl, rfl, hb⟩ := hrel
            by_cases hml : m < cols.length
            · obtain ⟨b4, off4, rfl, hB4, hc4⟩ := hcu (by omega)
              obtain ⟨y, hy⟩ : ∃ y, cols[m]? = some y := ⟨_, List.getElem?_eq_getElem hml⟩
              have q0 := fun X : After wr => After.cell X ((hb.cell (p := ⟨b, off + i, none⟩) hB).trans c0)
              have q1 := fun X : After wr => After.cell X ((hb.cell (p := ⟨b3, off3 + k, none⟩) hB3).trans e0)
              have q2 := fun X : After wr => After.cell X ((hb.cell (p := ⟨b4, off4 + m, none⟩) hB4).trans (hc4 m y hy))
              have m0 : (0 : Int) ≤ (m : Int) := by omega
              have m1 : (m : Int) < (cols.length : Int) := by omega
              have hst2 := Lib.hid (any_step (x := x) hy)
              have hxy : (x == y) = decide (x = y) := by by_cases e : x = y <;> simp [e]
              clear hcu hc4 hy
              generalize hs : (hitR cols (l.take k) || (cols.take m).any fun c => decide (x = c)) = s
              have hsH := Lib.hid hs
              clear hs
              cases s
              · go_wp2_with fail
                refine wp_region_after (by kernel_rfl) (by kernel_rfl) ?_
                repeat (first | go_big_quiet_step (fail))
                refine wpQuiet_nil ?_
                intro z
                have hbz := hb.trans (z.2.mono hb.size)
                clear q0 q1 q2
                go_wp2
                go_roundw
                case rel => exact ⟨m + 1, by omega, by go_num, by rw [hst2.out, ← Bool.or_assoc, hsH.out]; simp [], hbz⟩
                case measure => simp [intOf]; omega
              · go_wp2_with fail
                refine wp_region_after (by kernel_rfl) (by kernel_rfl) ?_
                repeat (first | go_big_quiet_step (fail))
                refine wpQuiet_nil ?_
                intro z
                have hbz := hb.trans (z.2.mono hb.size)
                clear q0 q1 q2
                go_wp2
                go_roundw
                case rel => exact ⟨m + 1, by omega, by go_num, by rw [hst2.out, ← Bool.or_assoc, hsH.out]; simp, hbz⟩
                case measure => simp [intOf]; omega
            · have e : m = cols.length := by omega
              subst e
              go_wp2
              go_roundw
              case rel => exact ⟨k + 1, by omega, by go_num, by rw [hst.out, List.take_length], hb⟩
              case measure => simp [intOf]; omega
        · have e : k = l.length := by omega
          subst e
          rw [List.take_length]
          clear hc3
          cases hs : hitR cols l
          · have hno : Hid (solvesM ls cols = false) := Lib.hid (by
              unfold solvesM
              rw [List.all_eq_false]
              exact ⟨l, List.mem_of_getElem? hlH.out, by simp [hs]⟩)
            clear hs
            go_wp2
            go_ret
            exact ⟨by rw [hno.out]; rfl, hb⟩
          · have hst : Hid (∀ j l, j < i + 1 → ls[j]? = some l → hitR cols l = true) := Lib.hid (fun j l' hj hl' => by
              by_cases e : j = i
              · subst e
                rw [hlH.out] at hl'
                injection hl' with hl'
                rw [← hl']; exact hs
              · exact hH.out j l' (by omega) hl')
            clear hs hH
            go_wp2
            go_roundw
            case rel => exact ⟨i + 1, by omega, by go_num, hst, hb⟩
            case measure => simp [intOf]; omega
    · have e : i = ls.length := by omega
      subst e
      have hyes : Hid (solvesM ls cols = true) := Lib.hid (by
        unfold solvesM
        rw [List.all_eq_true]
        intro l hl
        obtain ⟨j, hj, rfl⟩ := List.mem_iff_getElem.1 hl
        exact hH.out j _ hj (List.getElem?_eq_getElem hj))
      clear hcv hcu hH
      go_wp2
      go_ret
      exact ⟨by rw [hyes.out]; rfl, hb⟩
end Go.Proofs.Ytcbhcclickjpnaa
namespace Go.Proofs.Ytcbhcclickjpnaa
open Go.RowKit Go.Joins

def mtv (n : Int) (L : Value) : Value := .agg #[.int .i64 n, L]
def mtb (n : Int) (L : Value) : Obj := .cells #[.int .i64 n, L] 24 (0, 0)
def greatM (ls : List (List Int)) : Bool := (ls.any fun l : List Int => decide (100 < l.length)) || decide (100 < ls.length)
set_option maxHeartbeats 1000000 in
set_option maxRecDepth 100000 in
theorem great13_any (n : Int) (L : Value) (ls : List (List Int)) (w : World) (hL : MatAt w w.heap.size L ls) :
    Calls Try.prog 20 #[mtv n L] w fun e w' => e = .returned (.bool (greatM ls)) ∧ Below w.heap.size w w' := by
  obtain ⟨A, c, rfl, hlen, hc⟩ := hL
  unfold mtv
  have hany : Hid ((∀ (j : Nat) (l : List Int), ls[j]? = some l → ¬ 100 < l.length) → greatM ls = decide (100 < ls.length)) := Lib.hid (by
    intro hj
    unfold greatM
    have : (ls.any fun l : List Int => decide (100 < l.length)) = false := by
      rw [List.any_eq_false]
      intro l hl
      obtain ⟨x, hx, rfl⟩ := List.mem_iff_getElem.1 hl
      simpa using hj x _ (List.getElem?_eq_getElem hx)
    rw [this]; simp)
  have hyes : Hid (∀ (j : Nat) (l : List Int), ls[j]? = some l → 100 < l.length → greatM ls = true) := Lib.hid (by
    intro j l hj hl
    unfold greatM
    have : (ls.any fun l : List Int => decide (100 < l.length)) = true := by
      rw [List.any_eq_true]
      exact ⟨l, List.mem_of_getElem? hj, by simpa using hl⟩
    rw [this]; simp)
  go_enter Try.func20, Try.ntmps20
  go_wp2
  go_loop [3] (fun t => ∃ j : Nat, j ≤ ls.length ∧ t = .int .i64 j ∧ Hid (∀ (x : Nat) (l : List Int), x < j → ls[x]? = some l → ¬ 100 < l.length)) (fun t => ls.length - (intOf t).toNat)
  case atStart => exact ⟨0, by omega, rfl, Lib.hid (fun x l hx => absurd hx (Nat.not_lt_zero _))⟩
  case round =>
    obtain ⟨j, hj, rfl, hH⟩ := hrel
    by_cases hlt : j < ls.length
    · obtain ⟨b, off, rfl, hB, hc⟩ := hc (by omega)
      obtain ⟨l, hl⟩ : ∃ l, ls[j]? = some l := ⟨_, List.getElem?_eq_getElem hlt⟩
      obtain ⟨ov, c2, A2, cap2, rfl, hol, -⟩ := hc j l hl
      have c2' : (w.alloc (mtb n (.slice (some ⟨b, off, none⟩) ls.length c))).cell? ⟨b, off + j, none⟩ = some (.slice A2 l.length cap2) := by
        rw [World.cell?_alloc_lt _ _ _ (by exact hB)]; exact c2
      unfold mtb at c2'
      have hgl := Lib.hid hl
      clear hl hc c2
      by_cases hg : 100 < l.length
      · have hr := Lib.hid (hyes.out j l hgl.out hg)
        go_wp2
        go_ret
        exact ⟨by rw [hr.out]; rfl, below_alloc1 w _⟩
      · go_wp2
        go_round
        case rel => exact ⟨j + 1, by omega, by go_num, Lib.hid (fun x l' hx hxl => by
          by_cases e : x = j
          · subst e
            rw [hgl.out] at hxl
            injection hxl with hxl
            rw [← hxl]; exact hg
          · exact hH.out x l' (by omega) hxl)⟩
        case measure => simp [intOf]; omega
    · have e : j = ls.length := by omega
      have hr := Lib.hid (hany.out (fun x l hx => hH.out x l (by have := (List.getElem?_eq_some_iff.1 hx).1; omega) hx))
      subst e
      go_wp2
      go_ret
      exact ⟨by rw [hr.out]; exact ret_bool (by rw [Bool.eq_iff_iff]; simp; omega), below_alloc1 w _⟩

def okR (cols : Int) (l : List Int) (k : Nat) : Bool := decide (0 ≤ l.getD k 0) && decide (l.getD k 0 < cols) && (decide (k = 0) || decide (l.getD (k - 1) 0 < l.getD k 0))
def rightR (cols : Int) (l : List Int) : Bool := (List.range l.length).all (okR cols l)
def rightM (cols : Int) (ls : List (List Int)) : Bool := decide (0 ≤ cols) && decide (cols ≤ 4000) && ls.all (rightR cols)
theorem right_bad {cols : Int} {ls : List (List Int)} {i k : Nat} {l : List Int} (hl : ls[i]? = some l) (hk : k < l.length) (h : okR cols l k = false) : rightM cols ls = false := by
  unfold rightM
  have : ls.all (rightR cols) = false := by
    rw [List.all_eq_false]
    refine ⟨l, List.mem_of_getElem? hl, ?_⟩
    unfold rightR
    simp only [List.all_eq_true, List.mem_range]
    intro H
    rw [H k hk] at h
    cases h
  rw [this, Bool.and_false]
theorem right_ok {cols : Int} {ls : List (List Int)} (h1 : 0 ≤ cols) (h2 : cols ≤ 4000) (h : ∀ (i : Nat) (l : List Int), ls[i]? = some l → ∀ k, k < l.length → okR cols l k = true) : rightM cols ls = true := by
  unfold rightM
  rw [decide_eq_true h1, decide_eq_true h2]
  simp only [Bool.true_and, List.all_eq_true]
  intro l hl
  obtain ⟨i, hi, rfl⟩ := List.mem_iff_getElem.1 hl
  unfold rightR
  simp only [List.all_eq_true, List.mem_range]
  exact fun k hk => h i _ (List.getElem?_eq_getElem hi) k hk
theorem getD_some {l : List Int} {k : Nat} {x : Int} (h : l[k]? = some x) : l.getD k 0 = x := by simp [List.getD, h]
set_option maxHeartbeats 4000000 in
set_option maxRecDepth 100000 in
theorem rright13_any (w : World) (v : Value) (cols : Int) (ls : List (List Int)) (hv : MatAt w w.heap.size v ls) :
    Calls Try.prog 10 #[.int .i64 cols, v] w fun e w' => e = .returned (.bool (rightM cols ls)) ∧ Below w.heap.size w w' := by
  obtain ⟨A, c, rfl, hlv, hcv⟩ := hv
  by_cases h1 : cols < 0
  · have hr : Hid (rightM cols ls = false) := Lib.hid (by unfold rightM; rw [decide_eq_false (by omega)]; rfl)
    clear hcv
    go_enter Try.func10, Try.ntmps10
    go_wp2
    go_ret
    exact ⟨by rw [hr.out]; rfl, Below.refl _ _⟩
  by_cases h2 : 4000 < cols
  · have hr : Hid (rightM cols ls = false) := Lib.hid (by unfold rightM; rw [decide_eq_false (show ¬ cols ≤ 4000 by omega), Bool.and_false]; rfl)
    clear hcv
    go_enter Try.func10, Try.ntmps10
    go_wp2
    go_ret
    exact ⟨by rw [hr.out]; rfl, Below.refl _ _⟩
  have hbad := Lib.hid (fun i k l => right_bad (cols := cols) (ls := ls) (i := i) (k := k) (l := l))
  have hok := Lib.hid (fun h => right_ok (cols := cols) (ls := ls) (by omega) (by omega) h)
  go_enter Try.func10, Try.ntmps10
  go_wp2
  clear h1 h2
  go_loopw [5] (fun t wr => ∃ i : Nat, i ≤ ls.length ∧ t = .int .i64 i ∧ Hid (∀ (j : Nat) (l : List Int), j < i → ls[j]? = some l → ∀ k, k < l.length → okR cols l k = true) ∧ Below w.heap.size w wr) (fun t _ => ls.length - (intOf t).toNat)
  case atStart => exact ⟨0, by omega, rfl, Lib.hid (fun j l h => absurd h (Nat.not_lt_zero _)), Below.refl _ _⟩
  case round =>
    obtain ⟨i, hi, rfl, hH, hb⟩ := hrel
    by_cases hil : i < ls.length
    · obtain ⟨b, off, rfl, hB, hc⟩ := hcv (by omega)
      obtain ⟨l, hl⟩ : ∃ l, ls[i]? = some l := ⟨_, List.getElem?_eq_getElem hil⟩
      obtain ⟨ov, c0, A3, c3, rfl, hl3, hc3⟩ := hc i l hl
      have i0 : (0 : Int) ≤ (i : Int) := by omega
      have i1 : (i : Int) < (ls.length : Int) := by omega
      have hlH := Lib.hid hl
      clear hc hcv hl
      go_wp2
      go_loopw [6] (fun t wj => ∃ k : Nat, k ≤ l.length ∧ t = .int .i64 k ∧ Hid (∀ j, j < k → okR cols l j = true) ∧ Below w.heap.size w wj) (fun t _ => l.length - (intOf t).toNat)
      case atStart => exact ⟨0, by omega, rfl, Lib.hid (fun j h => absurd h (Nat.not_lt_zero _)), hb⟩
      case round =>
        clear hb
        obtain ⟨k, hk, rfl, hK, hb⟩ := hrel
        have d0 := (hb.cell (p := ⟨b, off + i, none⟩) hB).trans c0
        by_cases hkl : k < l.length
        · obtain ⟨b3, off3, rfl, hB3, hc3'⟩ := hc3 (by omega)
          obtain ⟨x, hx⟩ : ∃ x, l[k]? = some x := ⟨_, List.getElem?_eq_getElem hkl⟩
          have q0 := fun X : After wr => After.cell X d0
          have q1 := fun X : After wr => After.cell X ((hb.cell (p := ⟨b3, off3 + k, none⟩) hB3).trans (hc3' k x hx))
          have k0 : (0 : Int) ≤ (k : Int) := by omega
          have k1 : (k : Int) < (l.length : Int) := by omega
          have hgx := Lib.hid (getD_some hx)
          clear hc3
          by_cases x0 : x < 0
          · have hr := Lib.hid (hbad.out i k l hlH.out hkl (by unfold okR; rw [hgx.out, decide_eq_false (by omega)]; rfl))
            clear hK hH hbad hok hc3' hx hgx
            go_wp2_with fail
            refine wp_region_after (by kernel_rfl) (by kernel_rfl) ?_
            repeat (first | go_big_quiet_step (fail))
            refine wpQuiet_nil ?_
            intro z
            have hbz := hb.trans (z.2.mono hb.size)
            clear q0 q1 d0
            go_wp2
            go_ret
            exact ⟨by rw [hr.out]; rfl, hbz⟩
          have xd0 : decide (x < 0) = false := decide_eq_false x0
          by_cases x1 : cols ≤ x
          · have hr := Lib.hid (hbad.out i k l hlH.out hkl (by unfold okR; rw [hgx.out, decide_eq_false (show ¬ x < cols by omega), Bool.and_false]; rfl))
            clear hK hH hbad hok hc3' hx hgx
            have xd1 : decide (cols ≤ x) = true := decide_eq_true x1
            go_wp2_with fail
            refine wp_region_after (by kernel_rfl) (by kernel_rfl) ?_
            repeat (first | go_big_quiet_step (fail))
            refine wpQuiet_nil ?_
            intro z
            have hbz := hb.trans (z.2.mono hb.size)
            clear q0 q1 d0
            go_wp2
            go_ret
            exact ⟨by rw [hr.out]; rfl, hbz⟩
          have xd1 : decide (cols ≤ x) = false := decide_eq_false x1
          cases k with
          | zero =>
            rw [Nat.add_zero] at q1
            have hst : Hid (∀ j, j < 0 + 1 → okR cols l j = true) := Lib.hid (fun j hj => by
              by_cases e : j = 0
              · subst e
                unfold okR
                rw [hgx.out, decide_eq_true (show 0 ≤ x by omega), decide_eq_true (show x < cols by omega)]; rfl
              · exact hK.out j (by omega))
            clear hK hH hbad hok hc3' hx hgx hlH
            go_wp2_with fail
            refine wp_region_after (by kernel_rfl) (by kernel_rfl) ?_
            repeat (first | go_big_quiet_step (fail))
            refine wpQuiet_nil ?_
            intro z
            have hbz := hb.trans (z.2.mono hb.size)
            clear q0 q1 d0
            go_wp2
            go_roundw
            case rel => exact ⟨0 + 1, by omega, by go_num, hst, hbz⟩
            case measure => simp [intOf]; omega
          | succ m =>
            obtain ⟨y, hy⟩ : ∃ y, l[m]? = some y := ⟨_, List.getElem?_eq_getElem (by omega)⟩
            have q2 := fun X : After wr => After.cell X ((hb.cell (p := ⟨b3, off3 + m, none⟩) hB3).trans (hc3' m y hy))
            have hgy := Lib.hid (getD_some hy)
            have m0 : (0 : Int) < ((m + 1 : Nat) : Int) := by omega
            have m1 : ((m + 1 : Nat) : Int) - 1 = (m : Int) := by omega
            have m2 : (0 : Int) ≤ (m : Int) := by omega
            have m3 : (m : Int) < (l.length : Int) := by omega
            by_cases hxy : x ≤ y
            · have hr := Lib.hid (hbad.out i (m + 1) l hlH.out hkl (by unfold okR; rw [hgx.out, Nat.add_sub_cancel, hgy.out, decide_eq_false (show ¬ y < x by omega)]; simp))
              clear hK hH hbad hok hc3' hx hgx hy hgy
              have xd2 : decide (x ≤ y) = true := decide_eq_true hxy
              go_wp2_with fail
              refine wp_region_after (by kernel_rfl) (by kernel_rfl) ?_
              repeat (first | go_big_quiet_step (fail))
              refine wpQuiet_nil ?_
              intro z
              have hbz := hb.trans (z.2.mono hb.size)
              clear q0 q1 d0 q2
              go_wp2
              go_ret
              exact ⟨by rw [hr.out]; rfl, hbz⟩
            · have hst : Hid (∀ j, j < m + 1 + 1 → okR cols l j = true) := Lib.hid (fun j hj => by
                by_cases e : j = m + 1
                · subst e
                  unfold okR
                  rw [hgx.out, Nat.add_sub_cancel, hgy.out, decide_eq_true (show 0 ≤ x by omega), decide_eq_true (show x < cols by omega), decide_eq_true (show y < x by omega)]; simp
                · exact hK.out j (by omega))
              clear hK hH hbad hok hc3' hx hgx hy hgy hlH
              have xd2 : decide (x ≤ y) = false := decide_eq_false hxy
              go_wp2_with fail
              refine wp_region_after (by kernel_rfl) (by kernel_rfl) ?_
              repeat (first | go_big_quiet_step (fail))
              refine wpQuiet_nil ?_
              intro z
              have hbz := hb.trans (z.2.mono hb.size)
              clear q0 q1 d0 q2
              go_wp2
              go_roundw
              case rel => exact ⟨m + 1 + 1, by omega, by go_num, hst, hbz⟩
              case measure => simp [intOf]; omega
        · have e : k = l.length := by omega
          subst e
          have hst : Hid (∀ (j : Nat) (l : List Int), j < i + 1 → ls[j]? = some l → ∀ k, k < l.length → okR cols l k = true) := Lib.hid (fun j l' hj hl' => by
            by_cases e : j = i
            · subst e
              rw [hlH.out] at hl'
              injection hl' with hl'
              rw [← hl']; exact hK.out
            · exact hH.out j l' (by omega) hl')
          clear hH hc3 hK
          go_wp2
          go_roundw
          case rel => exact ⟨i + 1, by omega, by go_num, hst, hb⟩
          case measure => simp [intOf]; omega
    · have e : i = ls.length := by omega
      subst e
      have hyes : Hid (rightM cols ls = true) := Lib.hid (hok.out fun j l hl => hH.out j l (List.getElem?_eq_some_iff.1 hl).1 hl)
      clear hcv hH
      go_wp2
      go_ret
      exact ⟨by rw [hyes.out]; rfl, hb⟩
end Go.Proofs.Ytcbhcclickjpnaa
namespace Go.Proofs.Ytcbhcclickjpnaa
open Go.RowKit Go.Joins

def gr14 (n : Int) (ls : List (List Int)) : Bool := greatM ls || decide (30 < ls.length) || (decide (30 < n) && decide (n ≤ 4000))
theorem gr14_no {n : Int} {ls : List (List Int)} (h : gr14 n ls = false) : greatM ls = false ∧ ls.length ≤ 30 ∧ (n ≤ 30 ∨ 4000 < n) := by
  unfold gr14 at h
  rw [Bool.or_eq_false_iff, Bool.or_eq_false_iff, Bool.and_eq_false_iff, decide_eq_false_iff_not, decide_eq_false_iff_not, decide_eq_false_iff_not] at h
  exact ⟨h.1.1, by omega, by omega⟩
end Go.Proofs.Ytcbhcclickjpnaa
namespace Go.Proofs.Ytcbhcclickjpnaa
open Go.RowKit Go.Joins

theorem grown_below {w w1 w2 a : World} {base size n B : Nat} {e : TypeId} {v : Value} {xs : List Value} (hown : w.ownsRow base e size v n xs) (hg : w1.grownBy w2 v.ownBlock) (hB : Below B a w1) (hle : B ≤ base) (hs : B ≤ w1.heap.size) : Below B a w2 :=
  hB.grown hg hs (fun k e => by have := (hown.lt k e).1; omega)
theorem Try.infoInt : (Try.prog.info? 3).map (fun i => (i.zero, i.size, i.bytes)) = some (some (.int .i64 0), 1, 8) := by kernel_rfl
end Go.Proofs.Ytcbhcclickjpnaa
namespace Go.Proofs.Ytcbhcclickjpnaa
open Go.RowKit Go.Joins

/-- The slice v reads as l; the block it lies in is one of N. -/
def IntsN (w : World) (N : Nat → Prop) (v : Value) (l : List Int) : Prop :=
  ∃ A c, v = .slice A l.length c ∧ l.length ≤ 9223372036854775807 ∧
    (0 < l.length → ∃ b off, A = some ⟨b, off, none⟩ ∧ N b ∧ ∀ j x, l[j]? = some x → w.cell? ⟨b, off + j, none⟩ = some (.int .i64 x))
theorem IntsN.ints {w : World} {N : Nat → Prop} {v : Value} {l : List Int} {B : Nat} (h : IntsN w N v l) (hN : ∀ b, N b → b < B) : IntsAt w B v l := by
  obtain ⟨A, c, e, hl, h⟩ := h
  refine ⟨A, c, e, hl, fun h0 => ?_⟩
  obtain ⟨b, off, eA, hb, hc⟩ := h h0
  exact ⟨b, off, eA, hN b hb, hc⟩
theorem IntsN.keep {w w' : World} {N N' : Nat → Prop} {v : Value} {l : List Int} (h : IntsN w N v l) (hk : ∀ b, N b → w'.heap[b]? = w.heap[b]?) (hN : ∀ b, N b → N' b) : IntsN w' N' v l := by
  obtain ⟨A, c, e, hl, h⟩ := h
  refine ⟨A, c, e, hl, fun h0 => ?_⟩
  obtain ⟨b, off, eA, hb, hc⟩ := h h0
  refine ⟨b, off, eA, hN b hb, fun j x hx => ?_⟩
  rw [World.cell?_of_block (w := w) (a := ⟨b, off + j, none⟩) (hk b hb)]
  exact hc j x hx
theorem IntsN.one {w : World} {N : Nat → Prop} {v : Value} {l : List Int} (h : IntsN w N v l) : v.oneCell' = true := by
  obtain ⟨A, c, rfl, -⟩ := h
  rfl
theorem IntsAt.intsN {w : World} {N : Nat → Prop} {v : Value} {l : List Int} {B : Nat} (h : IntsAt w B v l) (hN : ∀ b off n c, v = .slice (some ⟨b, off, none⟩) n c → 0 < n → b < B → N b) : IntsN w N v l := by
  obtain ⟨A, c, rfl, hl, h⟩ := h
  refine ⟨A, c, rfl, hl, fun h0 => ?_⟩
  obtain ⟨b, off, rfl, hb, hc⟩ := h h0
  exact ⟨b, off, rfl, hN b off _ _ rfl h0 hb, hc⟩
/-- The values vs, which the row V holds, read as the rows K; none of them lies in V's own block. -/
def RowsIn (w : World) (V : Value) (K : List (List Int)) (vs : List Value) : Prop :=
  ∀ (j : Nat) (l : List Int), K[j]? = some l → ∃ v, vs[j]? = some v ∧ IntsN w (fun b => b < w.heap.size ∧ V.ownBlock ≠ some b) v l
theorem RowsIn.nil (w : World) (V : Value) : RowsIn w V [] [] := fun j l h => by simp at h
theorem RowsIn.below {w w' : World} {V : Value} {K : List (List Int)} {vs : List Value} (h : RowsIn w V K vs) (hb : Below w.heap.size w w') : RowsIn w' V K vs := by
  intro j l hj
  obtain ⟨v, hv, hi⟩ := h j l hj
  exact ⟨v, hv, hi.keep (fun b hN => hb.block b hN.1) (fun b hN => ⟨Nat.lt_of_lt_of_le hN.1 hb.size, hN.2⟩)⟩
theorem RowsIn.push {w w1 w2 : World} {V V' v : Value} {K : List (List Int)} {vs : List Value} {l : List Int} (h : RowsIn w V K vs) (hlen : vs.length = K.length) (hv : IntsN w (fun b => b < w.heap.size ∧ V.ownBlock ≠ some b) v l)
    (h1 : Below w.heap.size w w1) (hg : w1.grownBy w2 V.ownBlock) (hloc : V'.ownBlock = V.ownBlock ∨ V'.ownBlock = some w1.heap.size) : RowsIn w2 V' (K ++ [l]) (vs ++ [v]) := by
  have hk : ∀ b, (b < w.heap.size ∧ V.ownBlock ≠ some b) → w2.heap[b]? = w.heap[b]? := fun b hN =>
    (hg.block b (Nat.lt_of_lt_of_le hN.1 h1.size) (fun e => hN.2 e.symm)).trans (h1.block b hN.1)
  have hN : ∀ b, (b < w.heap.size ∧ V.ownBlock ≠ some b) → (b < w2.heap.size ∧ V'.ownBlock ≠ some b) := fun b hN => by
    refine ⟨Nat.lt_of_lt_of_le hN.1 (Nat.le_trans h1.size hg.size), fun e => ?_⟩
    rcases hloc with h2 | h2
    · exact hN.2 (h2.symm.trans e)
    · rw [h2] at e
      injection e with e
      have := h1.size
      omega
  intro j l' hj
  rcases Nat.lt_trichotomy j K.length with hlt | heq | hgt
  · rw [List.getElem?_append_left hlt] at hj
    obtain ⟨u, hu, hi⟩ := h j l' hj
    exact ⟨u, by rw [List.getElem?_append_left (by omega)]; exact hu, hi.keep hk hN⟩
  · subst heq
    rw [List.getElem?_append_right (Nat.le_refl _), Nat.sub_self] at hj
    injection hj with hj
    subst hj
    exact ⟨v, by rw [← hlen, List.getElem?_append_right (Nat.le_refl _), Nat.sub_self]; rfl, hv.keep hk hN⟩
  · rw [List.getElem?_eq_none (by simp; omega)] at hj
    cases hj
theorem RowsIn.mat {w : World} {B : Nat} {V : Value} {K : List (List Int)} {vs : List Value} (h : RowsIn w V K vs) (ho : w.ownsRow B 30 1 V K.length vs) : MatAt w w.heap.size V K := by
  rcases ho.2 with ⟨rfl, h0⟩ | ⟨g, cap, cur, rfl, hg, hgg, h1, h2, h3, h4⟩
  · have : K = [] := List.eq_nil_of_length_eq_zero h0
    subst this
    exact mat_nil _ _
  · have hm : maxLen = 9223372036854775807 := rfl
    refine ⟨_, cap, rfl, by omega, fun _ => ⟨g, 0, rfl, size_of_block hgg, fun j l hj => ?_⟩⟩
    obtain ⟨v, hv, hi⟩ := h j l hj
    refine ⟨v, ?_, hi.ints (fun b hN => hN.1)⟩
    rw [cell_of_block hgg]
    rw [← h4, List.getElem?_take] at hv
    split at hv
    · simpa using hv
    · cases hv
theorem Try.infoInts : (Try.prog.info? 30).map (fun i => (i.zero, i.size, i.bytes)) = some (some (.slice none 0 0), 1, 24) := by kernel_rfl
theorem one_new13 {w : World} {x : Value} {T : TypeId} (j : Nat) (u : Value) (hj : [x][j]? = some u) : (w.alloc (.cells #[x] T (0, 0))).cell? ((⟨w.heap.size, 0, none⟩ : Addr).add j) = some u := by
  match j, hj with
  | 0, hj => rw [Addr.add_lit, cell_of_block (heap_alloc_new _ _)]; exact hj

end Go.Proofs.Ytcbhcclickjpnaa
namespace Go.Proofs.Ytcbhcclickjpnaa
open Go.RowKit

/-- A byte as the program holds it. -/
def bvv (x : BitVec 8) : Value := .int .u8 (x.toNat : Int)
/-- A cube as the program holds it. -/
def cv (m v : BitVec 8) : Value := .agg #[bvv m, bvv v]

/-- The literal of input i: 0, 1, or 2 for none. -/
def lit (m v : BitVec 8) (i : Nat) : Nat := if m.getLsbD i then (if v.getLsbD i then 1 else 0) else 2
/- POINTS. -/
/-- Has a point the literals of the first k inputs? -/
def fits (m v : BitVec 8) : Nat → Nat → Bool
  | 0, _ => true
  | k + 1, p => fits m v k p && (!m.getLsbD k || p.testBit k == v.getLsbD k)
end Go.Proofs.Ytcbhcclickjpnaa
namespace Go.Proofs.Ytcbhcclickjpnaa
open Go.RowKit Go.Joins

end Go.Proofs.Ytcbhcclickjpnaa
namespace Go.Proofs.Ytcbhcclickjpnaa
open Go.RowKit Go.Joins

end Go.Proofs.Ytcbhcclickjpnaa
namespace Go.Proofs.Ytcbhcclickjpnaa
open Go.RowKit Go.Joins

end Go.Proofs.Ytcbhcclickjpnaa
namespace Go.Proofs.Ytcbhcclickjpnaa
open Go.RowKit Go.Joins

end Go.Proofs.Ytcbhcclickjpnaa
namespace Go.Proofs.Ytcbhcclickjpnaa
open Go.RowKit Go.Joins

end Go.Proofs.Ytcbhcclickjpnaa
namespace Go.Proofs.Ytcbhcclickjpnaa
open Go.RowKit Go.Joins

end Go.Proofs.Ytcbhcclickjpnaa
namespace Go.Proofs.Ytcbhcclickjpnaa
open Go.RowKit Go.Joins

end Go.Proofs.Ytcbhcclickjpnaa
namespace Go.Proofs.Ytcbhcclickjpnaa
open Go.RowKit Go.Joins

def tv (k i n : Int) (L : Value) : Value := .agg #[.int .i64 k, .int .i64 i, .int .i64 n, L]
def lv (m v : BitVec 8) (O : Value) : Value := .agg #[bvv m, bvv v, O]
end Go.Proofs.Ytcbhcclickjpnaa
namespace Go.Proofs.Ytcbhcclickjpnaa
open Go.RowKit Go.Joins

end Go.Proofs.Ytcbhcclickjpnaa
namespace Go.Proofs.Ytcbhcclickjpnaa
open Go.RowKit Go.Joins

def gk (S : BitVec 256) (i : Nat) (one : Bool) (k p : Nat) : Bool := ((pts S).take k).contains p && (p.testBit i == one)
end Go.Proofs.Ytcbhcclickjpnaa
namespace Go.Proofs.Ytcbhcclickjpnaa
open Go.RowKit Go.Joins

end Go.Proofs.Ytcbhcclickjpnaa
namespace Go.Proofs.Ytcbhcclickjpnaa
open Go.RowKit Go.Joins

end Go.Proofs.Ytcbhcclickjpnaa
namespace Go.Proofs.Ytcbhcclickjpnaa
open Go.RowKit Go.Joins

end Go.Proofs.Ytcbhcclickjpnaa
namespace Go.Proofs.Ytcbhcclickjpnaa
open Go.RowKit Go.Joins

end Go.Proofs.Ytcbhcclickjpnaa
namespace Go.Proofs.Ytcbhcclickjpnaa
open Go.RowKit Go.Joins

end Go.Proofs.Ytcbhcclickjpnaa
namespace Go.Proofs.Ytcbhcclickjpnaa
open Go.RowKit Go.Joins

/-- The flags when the first k points are asked. -/
def pf (m v : BitVec 8) (n k p : Nat) : Bool := decide (p < 2 ^ n) && (!decide (p < k) || fits m v 8 p)
end Go.Proofs.Ytcbhcclickjpnaa
namespace Go.Proofs.Ytcbhcclickjpnaa
open Go.RowKit Go.Joins

end Go.Proofs.Ytcbhcclickjpnaa
namespace Go.Proofs.Ytcbhcclickjpnaa
open Go.RowKit Go.Joins

end Go.Proofs.Ytcbhcclickjpnaa
