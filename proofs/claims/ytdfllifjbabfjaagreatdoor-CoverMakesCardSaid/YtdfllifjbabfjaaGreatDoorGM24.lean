/- How package cover orders rows: what compares two of them, and the sort. How package cover orders the rows that it kept: the sort, and what ordered hands back. -/
import Derived.Test.YtdfllifjbabfjaaGreatDoorGM23
import Derived.Test.YtdfllifjbabfjaaGreatDoorShelf2
import Derived.Sort.OwnSorted
namespace Go.Proofs.YtdfllifjbabfjaaGreatDoor
open Go.RowKit Go.Joins

/-! ### Plain -/
def cmW (x y : Int) : Int := if x < y then -1 else if y < x then 1 else 0
def lexW : List Int → List Int → Int
  | [], [] => 0
  | [], _ :: _ => -1
  | _ :: _, [] => 1
  | x :: a, y :: b => if x < y then -1 else if y < x then 1 else lexW a b
def orW : List Int → Int
  | [] => 0
  | x :: l => if x = 0 then orW l else x
def ordW (a b : List Int) : Int := orW [cmW a.length b.length, lexW a b]
theorem lexW_neg : ∀ {a b : List Int}, a.length = b.length → (lexW a b < 0 ↔ lexL a b = true)
  | [], [], _ => by simp [lexW, lexL]
  | [], _ :: _, h => by simp at h
  | _ :: _, [], h => by simp at h
  | x :: a, y :: b, h => by
    unfold lexW lexL
    by_cases e : x = y
    · rw [if_neg (by omega), if_neg (by omega), if_pos e]
      exact lexW_neg (by simpa using h)
    · rw [if_neg e]
      by_cases h1 : x < y
      · rw [if_pos h1]; simp [h1]
      · rw [if_neg h1, if_pos (by omega)]; simp [h1]
theorem ordW_neg (a b : List Int) : ordW a b < 0 ↔ aheadL a b = true := by
  rw [ahead_iff]
  by_cases h1 : a.length < b.length
  · have hc : cmW a.length b.length = -1 := by unfold cmW; rw [if_pos (by omega)]
    unfold ordW
    rw [hc]
    simp [orW, h1]
  · by_cases h2 : b.length < a.length
    · have hc : cmW a.length b.length = 1 := by unfold cmW; rw [if_neg (by omega), if_pos (by omega)]
      unfold ordW
      rw [hc]
      simp [orW]
      omega
    · have hc : cmW a.length b.length = 0 := by unfold cmW; rw [if_neg (by omega), if_neg (by omega)]
      have e : a.length = b.length := by omega
      unfold ordW
      rw [hc, ← lexW_neg e]
      by_cases h3 : lexW a b = 0
      · simp [orW, h3]
        omega
      · simp [orW, h3]
        omega
theorem lexW_drop {xs ys : List Int} {k : Nat} {x y : Int} (hx : xs[k]? = some x) (hy : ys[k]? = some y) : lexW (xs.drop k) (ys.drop k) = if x < y then -1 else if y < x then 1 else lexW (xs.drop (k + 1)) (ys.drop (k + 1)) := by
  rw [drop_of hx, drop_of hy, lexW]
theorem lexW_long {xs ys : List Int} {k : Nat} {x : Int} (hx : xs[k]? = some x) (hy : ys.length ≤ k) : lexW (xs.drop k) (ys.drop k) = 1 := by
  rw [drop_of hx, List.drop_of_length_le hy, lexW]
theorem lexW_end {xs ys : List Int} : lexW (xs.drop xs.length) (ys.drop xs.length) = if xs.length < ys.length then -1 else 0 := by
  rw [List.drop_length]
  by_cases h : xs.length < ys.length
  · rw [if_pos h, List.drop_eq_getElem_cons h, lexW]
  · rw [if_neg h, List.drop_of_length_le (by omega), lexW]
theorem orW_drop {l : List Int} {k : Nat} {x : Int} (hx : l[k]? = some x) : orW (l.drop k) = if x = 0 then orW (l.drop (k + 1)) else x := by
  rw [drop_of hx, orW]

/-! ### The calls -/
theorem isnan13_any (x : Int) (w : World) : Calls Tryz.prog 81 #[.int .i64 x] w fun e w' => e = .returned (.bool false) ∧ w' = w := by
  have hd : (x != x) = false := by simp
  go_enter Tryz.func81, Tryz.ntmps81
  go_wp2
  go_ret
  exact ⟨rfl, rfl⟩
theorem compare13_any (x y : Int) (w : World) : Calls Tryz.prog 59 #[.int .i64 x, .int .i64 y] w fun e w' => e = .returned (.int .i64 (cmW x y)) ∧ w' = w := by
  have H1 := isnan13_any x w
  have H2 := isnan13_any y w
  by_cases h1 : x < y
  · have hr : Hid (cmW x y = -1) := Lib.hid (by unfold cmW; rw [if_pos h1])
    have hd : decide (x < y) = true := decide_eq_true h1
    go_enter Tryz.func59, Tryz.ntmps59
    go_wp2_with fail
    refine H1.mono ?_
    rintro e w1 ⟨rfl, rfl⟩
    go_wp2_with fail
    refine H2.mono ?_
    rintro e w2 ⟨rfl, rfl⟩
    go_wp2
    go_ret
    exact ⟨by rw [hr.out]; rfl, rfl⟩
  have hd : decide (x < y) = false := decide_eq_false h1
  by_cases h2 : y < x
  · have hr : Hid (cmW x y = 1) := Lib.hid (by unfold cmW; rw [if_neg h1, if_pos h2])
    have hd2 : decide (y < x) = true := decide_eq_true h2
    go_enter Tryz.func59, Tryz.ntmps59
    go_wp2_with fail
    refine H1.mono ?_
    rintro e w1 ⟨rfl, rfl⟩
    go_wp2_with fail
    refine H2.mono ?_
    rintro e w2 ⟨rfl, rfl⟩
    go_wp2
    go_ret
    exact ⟨by rw [hr.out]; rfl, rfl⟩
  · have hr : Hid (cmW x y = 0) := Lib.hid (by unfold cmW; rw [if_neg h1, if_neg h2])
    have hd2 : decide (y < x) = false := decide_eq_false h2
    go_enter Tryz.func59, Tryz.ntmps59
    go_wp2_with fail
    refine H1.mono ?_
    rintro e w1 ⟨rfl, rfl⟩
    go_wp2_with fail
    refine H2.mono ?_
    rintro e w2 ⟨rfl, rfl⟩
    go_wp2
    go_ret
    exact ⟨by rw [hr.out]; rfl, rfl⟩
set_option maxHeartbeats 2000000 in
set_option maxRecDepth 100000 in
theorem compares13_any (w : World) (B : Nat) (v u : Value) (xs ys : List Int) (hx : IntsAt w B v xs) (hy : IntsAt w B u ys) :
    Calls Tryz.prog 60 #[v, u] w fun e w' => e = .returned (.int .i64 (lexW xs ys)) ∧ w' = w := by
  have HC := fun x y => compare13_any x y w
  have hdrop := Lib.hid (fun k x y => lexW_drop (xs := xs) (ys := ys) (k := k) (x := x) (y := y))
  have hlong := Lib.hid (fun k x => lexW_long (xs := xs) (ys := ys) (k := k) (x := x))
  have hend := Lib.hid (lexW_end (xs := xs) (ys := ys))
  have h0 : Hid (lexW xs ys = lexW (xs.drop 0) (ys.drop 0)) := Lib.hid (by simp)
  obtain ⟨A, c, rfl, hlx, hcx⟩ := hx
  obtain ⟨A2, c2, rfl, hly, hcy⟩ := hy
  go_enter Tryz.func60, Tryz.ntmps60
  go_wp2
  go_loopw [5, 6, 7, 8, 11] (fun _ _ _ _ t wr => ∃ k : Nat, k ≤ xs.length ∧ t = .int .i64 k ∧ Hid (lexW xs ys = lexW (xs.drop k) (ys.drop k)) ∧ wr = w) (fun _ _ _ _ t _ => xs.length - (intOf t).toNat)
  case atStart => exact ⟨0, by omega, rfl, h0, rfl⟩
  case round =>
    obtain ⟨k, hk, rfl, hH, rfl⟩ := hrel
    by_cases hlt : k < xs.length
    · obtain ⟨b, off, rfl, hB, hc⟩ := hcx (by omega)
      obtain ⟨x, hx⟩ : ∃ x, xs[k]? = some x := ⟨_, List.getElem?_eq_getElem hlt⟩
      have d0 := hc k x hx
      have hxH := Lib.hid hx
      have k0 : (0 : Int) ≤ (k : Int) := by omega
      clear hc hcx hx
      by_cases hly' : ys.length ≤ k
      · have hr := Lib.hid (hH.out.trans (hlong.out k x hxH.out hly'))
        have xd : decide ((ys.length : Int) ≤ (k : Int)) = true := decide_eq_true (by omega)
        clear hcy hH hdrop hlong hend h0
        go_wp2
        go_ret
        exact ⟨by rw [hr.out]; rfl, rfl⟩
      have xd : decide ((ys.length : Int) ≤ (k : Int)) = false := decide_eq_false (by omega)
      have hlt2 : (k : Int) < (ys.length : Int) := by omega
      obtain ⟨b', off', rfl, hB', hc'⟩ := hcy (by omega)
      obtain ⟨y, hy⟩ : ∃ y, ys[k]? = some y := ⟨_, List.getElem?_eq_getElem (by omega)⟩
      have d1 := hc' k y hy
      have hyH := Lib.hid hy
      have HX := HC x y
      have hst := Lib.hid (hH.out.trans (hdrop.out k x y hxH.out hyH.out))
      clear hc' hcy hy hH hdrop hlong h0
      by_cases h1 : x < y
      · have hr : Hid (lexW xs ys = -1) := Lib.hid (by rw [hst.out, if_pos h1])
        rw [show cmW x y = -1 by unfold cmW; rw [if_pos h1]] at HX
        clear hst h1
        go_wp2_with fail
        refine HX.mono ?_
        rintro e w1 ⟨rfl, rfl⟩
        go_wp2
        go_ret
        exact ⟨by rw [hr.out]; rfl, rfl⟩
      by_cases h2 : y < x
      · have hr : Hid (lexW xs ys = 1) := Lib.hid (by rw [hst.out, if_neg h1, if_pos h2])
        rw [show cmW x y = 1 by unfold cmW; rw [if_neg h1, if_pos h2]] at HX
        clear hst h1 h2
        go_wp2_with fail
        refine HX.mono ?_
        rintro e w1 ⟨rfl, rfl⟩
        go_wp2
        go_ret
        exact ⟨by rw [hr.out]; rfl, rfl⟩
      · have hr : Hid (lexW xs ys = lexW (xs.drop (k + 1)) (ys.drop (k + 1))) := Lib.hid (by rw [hst.out, if_neg h1, if_neg h2])
        rw [show cmW x y = 0 by unfold cmW; rw [if_neg h1, if_neg h2]] at HX
        clear hst h1 h2
        go_wp2_with fail
        refine HX.mono ?_
        rintro e w1 ⟨rfl, rfl⟩
        go_wp2
        go_roundw
        case rel => exact ⟨k + 1, by omega, by go_num, hr, trivial⟩
        case measure => simp [intOf]; omega
    · have e : k = xs.length := by omega
      subst e
      clear hcx hcy hdrop hlong h0
      by_cases hl : xs.length < ys.length
      · have hr : Hid (lexW xs ys = -1) := Lib.hid (by rw [hH.out, hend.out, if_pos hl])
        have hli : decide (xs.length < ys.length) = true := decide_eq_true hl
        clear hl hH hend
        go_wp2
        go_ret
        exact ⟨by rw [hr.out]; rfl, rfl⟩
      · have hr : Hid (lexW xs ys = 0) := Lib.hid (by rw [hH.out, hend.out, if_neg hl])
        have hli : decide (xs.length < ys.length) = false := decide_eq_false hl
        clear hl hH hend
        go_wp2
        go_ret
        exact ⟨by rw [hr.out]; rfl, rfl⟩
set_option maxHeartbeats 1000000 in
set_option maxRecDepth 100000 in
theorem or13_any (w : World) (B : Nat) (v : Value) (l : List Int) (hx : IntsAt w B v l) :
    Calls Tryz.prog 58 #[v] w fun e w' => e = .returned (.int .i64 (orW l)) ∧ w' = w := by
  have hdrop := Lib.hid (fun k x => orW_drop (l := l) (k := k) (x := x))
  have h0 : Hid (orW l = orW (l.drop 0)) := Lib.hid (by simp)
  have hend : Hid (orW (l.drop l.length) = 0) := Lib.hid (by rw [List.drop_length]; rfl)
  obtain ⟨A, c, rfl, hlx, hcx⟩ := hx
  go_enter Tryz.func58, Tryz.ntmps58
  go_wp2
  go_loopw [5, 8] (fun _ t wr => ∃ k : Nat, k ≤ l.length ∧ t = .int .i64 k ∧ Hid (orW l = orW (l.drop k)) ∧ wr = w) (fun _ t _ => l.length - (intOf t).toNat)
  case atStart => exact ⟨0, by omega, rfl, h0, rfl⟩
  case round =>
    obtain ⟨k, hk, rfl, hH, rfl⟩ := hrel
    by_cases hlt : k < l.length
    · obtain ⟨b, off, rfl, hB, hc⟩ := hcx (by omega)
      obtain ⟨x, hx⟩ : ∃ x, l[k]? = some x := ⟨_, List.getElem?_eq_getElem hlt⟩
      have d0 := hc k x hx
      have hst := Lib.hid (hH.out.trans (hdrop.out k x hx))
      clear hc hcx hx hH hdrop h0 hend
      by_cases hz : x = 0
      · have hr : Hid (orW l = orW (l.drop (k + 1))) := Lib.hid (by rw [hst.out, if_pos hz])
        subst hz
        clear hst
        go_wp2
        go_roundw
        case rel => exact ⟨k + 1, by omega, by go_num, hr, trivial⟩
        case measure => simp [intOf]; omega
      · have hr : Hid (orW l = x) := Lib.hid (by rw [hst.out, if_neg hz])
        have hd : (x != 0) = true := by rw [bne_iff_ne]; exact hz
        clear hst hz
        go_wp2
        go_ret
        exact ⟨by rw [hr.out]; rfl, rfl⟩
    · have e : k = l.length := by omega
      subst e
      have hr := Lib.hid (hH.out.trans hend.out)
      clear hcx hH hdrop h0 hend
      go_wp2
      go_ret
      exact ⟨by rw [hr.out]; rfl, rfl⟩
theorem ints_two {w : World} {b : Nat} {x y : Int} {T : TypeId} (h : w.heap[b]? = some (.cells #[.int .i64 x, .int .i64 y] T (0, 0))) : IntsAt w w.heap.size (.slice (some ⟨b, 0, none⟩) 2 2) [x, y] := by
  refine ⟨_, 2, rfl, by simp, fun _ => ⟨b, 0, rfl, size_of_block h, fun j z hj => ?_⟩⟩
  match j, hj with
  | 0, hj => simp at hj; subst hj; rw [cell_of_block h]; rfl
  | 1, hj => simp at hj; subst hj; rw [cell_of_block h]; rfl
theorem gr_alloc13 (w : World) (o : Obj) : ∃ q os, w.alloc o = Go.Sort.grow (w.drewN q) os := ⟨0, #[o], by rw [Go.Sort.alloc_eq_grow]; rfl⟩
set_option maxHeartbeats 1000000 in
set_option maxRecDepth 100000 in
theorem ord13_any (w : World) (v u : Value) (xs ys : List Int) (hx : IntsAt w w.heap.size v xs) (hy : IntsAt w w.heap.size u ys) :
    Calls Tryz.prog 57 #[v, u] w fun e w' => e = .returned (.int .i64 (ordW xs ys)) ∧ ∃ q os, w' = Go.Sort.grow (w.drewN q) os := by
  have H1 := compare13_any xs.length ys.length w
  have H2 := compares13_any w w.heap.size v u xs ys hx hy
  have H3 := or13_any (w.alloc (.cells #[.int .i64 (cmW xs.length ys.length), .int .i64 (lexW xs ys)] 3 (0, 0))) _ _ _ (ints_two (heap_alloc_new w (.cells #[.int .i64 (cmW xs.length ys.length), .int .i64 (lexW xs ys)] 3 (0, 0))))
  obtain ⟨A, c, rfl, -, -⟩ := hx
  obtain ⟨A2, c2, rfl, -, -⟩ := hy
  unfold ordW
  generalize cmW xs.length ys.length = p at *
  generalize lexW xs ys = q at *
  go_enter Tryz.func57, Tryz.ntmps57
  go_wp2_with fail
  refine H1.mono ?_
  rintro e w1 ⟨rfl, rfl⟩
  go_wp2_with fail
  refine H2.mono ?_
  rintro e w2 ⟨rfl, rfl⟩
  go_wp2_with fail
  refine H3.mono ?_
  rintro e w3 ⟨rfl, rfl⟩
  go_wp2
  go_ret
  exact ⟨rfl, gr_alloc13 _ _⟩
end Go.Proofs.YtdfllifjbabfjaaGreatDoor
namespace Go.Proofs.YtdfllifjbabfjaaGreatDoor
open Go.RowKit Go.Joins
open Go.Maps (has)
open Go.Sort (SWO Holds grow putRow putCells heap_grow_old)

/-! ### Rows that are sorted -/
theorem holdsW {α : Type} [Inhabited α] (enc : α → Value) {w : World} {g : Nat} {cur : Array Value} {e : TypeId} {ss : List α} (hb : w.heap[g]? = some (.cells cur e (0, 0))) (ht : cur.toList.take ss.length = ss.map enc) : Holds enc w g 0 ss.toArray := by
  intro j hj
  have hj' : j < ss.length := by simpa using hj
  refine ⟨?_, by simp [World.frozen?, hb]⟩
  have h1 : (cur.toList.take ss.length)[j]? = (ss.map enc)[j]? := by rw [ht]
  rw [List.getElem?_take_of_lt hj'] at h1
  simp only [World.cell?, hb, Nat.zero_add]
  simp only [Option.isSome_none, Bool.false_eq_true, if_false]
  rw [← Array.getElem?_toList, h1]
  simp [hj']
theorem heapW {α : Type} [Inhabited α] (enc : α → Value) {w : World} {g n : Nat} {os : Array Obj} {cur : Array Value} {e : TypeId} {fr : Nat × Nat} (d : Array α) (hb : w.heap[g]? = some (.cells cur e fr)) :
    (grow (putRow enc (Go.Sort.ahead w n) g 0 d) os).heap[g]? = some (.cells (putCells enc 0 d cur) e fr) := by
  have hg : g < w.heap.size := (Array.getElem?_eq_some_iff.1 hb).1
  rw [heap_grow_old _ _ (by simpa using hg)]
  simp [putRow, Go.Sort.mapBlock, Go.Sort.ahead, Array.getElem?_modify, hb, Go.Sort.onCells]
theorem grownW {α : Type} [Inhabited α] (enc : α → Value) {w : World} {g n : Nat} {os : Array Obj} (d : Array α) : w.grownBy (grow (putRow enc (Go.Sort.ahead w n) g 0 d) os) (some g) := by
  refine ⟨rfl, rfl, rfl, by simp, fun k hk hne => ?_⟩
  rw [heap_grow_old _ _ (by simpa using hk)]
  have : g ≠ k := fun e => hne (by rw [e])
  simp [putRow, Go.Sort.mapBlock, Go.Sort.ahead, Array.getElem?_modify, this]
theorem takeW {α : Type} [Inhabited α] (enc : α → Value) (cur : Array Value) (ts : List α) (h : ts.length ≤ cur.size) : (putCells enc 0 ts.toArray cur).toList.take ts.length = ts.map enc := by
  apply List.ext_getElem?
  intro j
  by_cases hj : j < ts.length
  · rw [List.getElem?_take_of_lt hj, Array.getElem?_toList]
    simp [putCells, hj, show j < cur.size by omega]
  · rw [List.getElem?_take_eq_none (by omega), List.getElem?_eq_none (by simp; omega)]
theorem ownW {α : Type} [Inhabited α] (enc : α → Value) {w : World} {base g cap n : Nat} {e : TypeId} {os : Array Obj} {cur : Array Value} {m : Nat} {ts : List α} (hl : ts.length = m) (hbase : base ≤ g) (hb : w.heap[g]? = some (.cells cur e (0, 0)))
    (h1 : m ≤ cap) (h2 : cap ≤ maxLen) (h3 : cur.size = cap * 1) :
    (grow (putRow enc (Go.Sort.ahead w n) g 0 ts.toArray) os).ownsRow base e 1 (.slice (some ⟨g, 0, none⟩) m cap) m (ts.map enc) :=
  ⟨by simp [hl], .inr ⟨g, cap, _, rfl, hbase, heapW enc _ hb, h1, h2, by simp [putCells, h3], by rw [Nat.mul_one, ← hl]; exact takeW enc cur ts (by omega)⟩⟩
/-- A slice with the row that it reads as. -/
abbrev PrW : Type := SlW × List Int
def cfW {L : List PrW} (x y : { p : PrW // p ∈ L }) : Int := ordW x.1.2 y.1.2
theorem cfW_lt {L : List PrW} (x y : { p : PrW // p ∈ L }) : ltOf cfW x y = aheadL x.1.2 y.1.2 := by
  unfold ltOf cfW
  rw [Bool.eq_iff_iff, decide_eq_true_iff]
  exact ordW_neg _ _
theorem nahead {a b : List Int} (h : aheadL a b = false) : a = b ∨ aheadL b a = true := by
  by_cases e : a = b
  · exact .inl e
  · rcases ahead_total e with h1 | h1
    · rw [h] at h1; cases h1
    · exact .inr h1
theorem nahead_trans {a b c : List Int} (h1 : aheadL a b = false) (h2 : aheadL b c = false) : aheadL a c = false := by
  rcases nahead h1 with rfl | h1
  · exact h2
  · rcases nahead h2 with rfl | h2
    · cases h : aheadL a b
      · rfl
      · exact absurd h1 (ahead_asym h)
    · cases h : aheadL a c
      · rfl
      · exact absurd (ahead_trans h2 h1) (ahead_asym h)
theorem swoW (L : List PrW) : SWO (ltOf (cfW (L := L))) where
  irrefl x := by rw [cfW_lt]; cases h : aheadL x.1.2 x.1.2; · rfl
                 · exact absurd h (ahead_irr _)
  trans x y z h1 h2 := by rw [cfW_lt] at *; exact ahead_trans h1 h2
  ntrans x y z h1 h2 := by rw [cfW_lt] at *; exact nahead_trans h1 h2
theorem attach_mapW {α β : Type} (L : List α) (f : α → β) : (L.attach.map fun x => f x.1) = L.map f := by
  have := congrArg (List.map f) (List.attach_map_subtype_val L)
  rw [List.map_map] at this
  exact this
theorem pair_of {L : List PrW} (hnd : (L.map (·.2)).Nodup) {x y : PrW} (hx : x ∈ L) (hy : y ∈ L) (h : x.2 = y.2) : x = y := by
  obtain ⟨i, hi, rfl⟩ := List.mem_iff_getElem.1 hx
  obtain ⟨j, hj, rfl⟩ := List.mem_iff_getElem.1 hy
  have e : i = j := by
    refine (List.getElem_inj (xs := L.map (·.2)) (h₀ := by simpa using hi) (h₁ := by simpa using hj) hnd).1 ?_
    simpa using h
  subst e
  rfl
/-- Rows that are sorted by what compares them. -/
theorem sort_W (L : List PrW) (hnd : (L.map (·.2)).Nodup) : ∃ M : List { p : PrW // p ∈ L }, (L.attach.mergeSort fun x y => !(ltOf cfW) y x) = M ∧ M.length = L.length ∧ (M.map fun x => x.1.2).Pairwise (fun a b => aheadL a b = true) ∧ ∀ x : PrW, x ∈ M.map (·.1) ↔ x ∈ L := by
  have hp := List.mergeSort_perm L.attach (fun x y => !(ltOf cfW) y x)
  have hs := List.pairwise_mergeSort (le := fun x y => !(ltOf (cfW (L := L))) y x) (fun a b c h1 h2 => by
      rw [cfW_lt] at *
      simp only [Bool.not_eq_true'] at *
      exact nahead_trans h2 h1) (fun a b => by
      rw [cfW_lt, cfW_lt]
      cases h : aheadL b.1.2 a.1.2
      · rfl
      · cases h2 : aheadL a.1.2 b.1.2
        · rfl
        · exact absurd h2 (ahead_asym h)) L.attach
  have hnd2 : (L.attach.mergeSort fun x y => !(ltOf cfW) y x).Nodup := hp.nodup_iff.2 (by
    have h1 : (L.attach.map (fun x => x.1.2)).Nodup := by
      rw [attach_mapW L (fun p : PrW => p.2)]; exact hnd
    exact (List.pairwise_map.1 h1).imp fun hne e => hne (by rw [e]))
  refine ⟨_, rfl, by rw [hp.length_eq, List.length_attach], ?_, fun x => ?_⟩
  · rw [List.pairwise_map]
    refine (hs.and hnd2).imp fun {a b} h => ?_
    have h1 := h.1
    rw [cfW_lt] at h1
    simp only [Bool.not_eq_true'] at h1
    rcases nahead h1 with e | e
    · exact absurd (Subtype.ext (pair_of hnd a.2 b.2 e.symm)) h.2
    · exact e
  · rw [List.mem_map]
    constructor
    · rintro ⟨y, -, rfl⟩
      exact y.2
    · intro hx
      exact ⟨⟨x, hx⟩, hp.mem_iff.2 (List.mem_attach L ⟨x, hx⟩), rfl⟩
set_option maxHeartbeats 1000000 in
set_option maxRecDepth 100000 in
theorem sortm13_any {w : World} {B : Nat} {L : List PrW} {A : Option Addr} {c : Nat} (h : w.ownsRow B 45 1 (.slice A L.length c) L.length (L.map fun p => encW p.1)) (hB : B ≤ w.heap.size) (hl : L.length ≤ 1000000)
    (hin : ∀ p, p ∈ L → IntsN w (fun b => b < w.heap.size ∧ (Value.slice A L.length c).ownBlock ≠ some b) (encW p.1) p.2) (hnd : (L.map (·.2)).Nodup) :
    Calls Tryz.prog 79 #[.slice A L.length c, .func (.func 57) #[] #[]] w fun e w' => e = .returned (.tuple #[]) ∧
      (∃ M : List PrW, M.length = L.length ∧ (M.map (·.2)).Pairwise (fun a b => aheadL a b = true) ∧ (∀ x, x ∈ M ↔ x ∈ L) ∧ w'.ownsRow B 45 1 (.slice A M.length c) M.length (M.map fun p => encW p.1)) ∧
      Below B w w' ∧ (∀ k, k < w.heap.size → (Value.slice A L.length c).ownBlock ≠ some k → w'.heap[k]? = w.heap[k]?) := by
  obtain ⟨h1, h2⟩ := h
  rcases h2 with ⟨e0, h0⟩ | ⟨g, cap, cur, hv, hg, hb, hn, hcap, hsz, htk⟩
  · injection e0 with e1 e2 e3
    subst e1
    have : L = [] := List.length_eq_zero_iff.1 e2
    subst this
    subst e3
    refine (AnyF.slices_SortFunc_none { Tryz.sortMat with } none 0 _ w : Calls Tryz.prog 79 _ w _).mono ?_
    rintro e w' ⟨rfl, rfl⟩
    exact ⟨rfl, ⟨[], rfl, List.Pairwise.nil, fun x => Iff.rfl, World.ownsRow_nil _ _ _ _⟩, Below.refl _ _, fun _ _ _ => rfl⟩
  · injection hv with e1 e2 e3
    subst e1
    subst e3
    by_cases hne : L = []
    · subst hne
      refine (AnyF.slices_SortFunc_none { Tryz.sortMat with } (some ⟨g, 0, none⟩) c _ w : Calls Tryz.prog 79 _ w _).mono ?_
      rintro e w' ⟨rfl, rfl⟩
      exact ⟨rfl, ⟨[], rfl, List.Pairwise.nil, fun x => Iff.rfl, ⟨h1, .inr ⟨g, c, cur, rfl, hg, hb, hn, hcap, hsz, htk⟩⟩⟩, Below.refl _ _, fun _ _ _ => rfl⟩
    haveI : Inhabited { p : PrW // p ∈ L } := ⟨⟨L.head hne, List.head_mem hne⟩⟩
    obtain ⟨M, hM, hMl, hMp, hMm⟩ := sort_W L hnd
    have hmap : (L.attach.map fun x => encW x.1.1) = L.map fun p => encW p.1 := by
      exact attach_mapW L (fun p : PrW => encW p.1)
    have hH : Holds (fun x : { p : PrW // p ∈ L } => encW x.1.1) w g 0 L.attach.toArray := holdsW _ hb (by rw [List.length_attach, hmap]; rw [Nat.mul_one] at htk; exact htk)
    have eg : ∀ args w, (callFunc 57 args).run Tryz.prog w = .ok (.enter 57 args) w := enters_of Tryz.func57 (by kernel_rfl) rfl
    have hcmp : CmpLays1 Tryz.prog 57 #[] (fun x : { p : PrW // p ∈ L } => encW x.1.1) cfW g 0 L.attach.toArray.size w := fun m os dk _ x y => by
      have hgr := grownW (fun x : { p : PrW // p ∈ L } => encW x.1.1) (w := w) (g := g) (n := m) (os := os) dk
      have hk : ∀ p, p ∈ L → IntsAt (sortWorld (fun x : { p : PrW // p ∈ L } => encW x.1.1) w g 0 m dk os) (sortWorld (fun x : { p : PrW // p ∈ L } => encW x.1.1) w g 0 m dk os).heap.size (encW p.1) p.2 := fun p hp =>
        ((hin p hp).keep (N' := fun b => b < w.heap.size) (fun b hN => hgr.block b hN.1 (fun e => hN.2 e.symm)) (fun b hN => hN.1)).ints (fun b hN => Nat.lt_of_lt_of_le hN hgr.size)
      exact ord13_any _ _ _ _ _ (hk x.1 x.2) (hk y.1 y.2)
    have hSrt := Any.slices_SortFunc_total Tryz.sortMat (fun x : { p : PrW // p ∈ L } => encW x.1.1) (fun _ => rfl) cfW (swoW L) 57 #[] g 0 c L.attach.toArray w eg hcmp hH (size_of_block hb) (by rw [List.size_toArray, List.length_attach]; omega)
      (fun x y h h' => by
        rw [cfW_lt] at h h'
        rcases nahead h with e | e
        · exact Subtype.ext (pair_of hnd x.2 y.2 e)
        · rw [h'] at e; cases e)
    rw [List.size_toArray, List.length_attach] at hSrt
    refine (hSrt : Calls Tryz.prog 79 _ w _).mono ?_
    rintro e w' ⟨rfl, n, os, rfl⟩
    rw [show L.attach.toArray.toList = L.attach from rfl, hM]
    have hgr := grownW (fun x : { p : PrW // p ∈ L } => encW x.1.1) (w := w) (g := g) (n := n) (os := os) M.toArray
    refine ⟨rfl, ⟨M.map (·.1), by rw [List.length_map, hMl], by rw [List.map_map]; exact hMp, hMm, ?_⟩, (Below.refl B w).grown hgr hB (by intro k hk; injection hk with hk; omega), fun k hk hne => hgr.block k hk (fun e => hne e.symm)⟩
    rw [List.length_map, List.map_map, hMl]
    exact ownW _ hMl hg hb hn hcap hsz
end Go.Proofs.YtdfllifjbabfjaaGreatDoor
