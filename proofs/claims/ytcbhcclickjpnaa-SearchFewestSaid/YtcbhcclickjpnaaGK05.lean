/- Right of the package cover, for every covering. Solves of the package cover, for every covering and all columns. -/
import Derived.Test.YtcbhcclickjpnaaGK04
import Derived.Test.YtcbhcclickjpnaaGK03
import Derived.Laws.EntriesVeiled
namespace Go.Proofs.Ytcbhcclickjpnaa
open Go.RowKit Go.Joins

def leastI (l : List Int) (k : Nat) : Int := if k = 0 then 0 else l.getD (k - 1) 0 + 1
theorem leastI_succ {l : List Int} {k : Nat} {x : Int} (h : l[k]? = some x) : leastI l (k + 1) = x + 1 := by
  unfold leastI
  rw [if_neg (by omega), Nat.add_sub_cancel, getD_some h]
theorem okR_low {cols : Int} {l : List Int} {k : Nat} {x : Int} (h : l[k]? = some x) (hx : x < leastI l k) : okR cols l k = false := by
  unfold okR
  rw [getD_some h]
  unfold leastI at hx
  by_cases e : k = 0
  · rw [if_pos e] at hx
    rw [decide_eq_false (by omega)]; rfl
  · rw [if_neg e] at hx
    rw [decide_eq_false e, decide_eq_false (show ¬ l.getD (k - 1) 0 < x by omega)]; simp
theorem okR_high {cols : Int} {l : List Int} {k : Nat} {x : Int} (h : l[k]? = some x) (hx : cols ≤ x) : okR cols l k = false := by
  unfold okR
  rw [getD_some h, decide_eq_false (show ¬ x < cols by omega)]; simp
theorem okR_yes {cols : Int} {l : List Int} {k : Nat} {x : Int} (h : l[k]? = some x) (h0 : 0 ≤ leastI l k) (h1 : ¬ x < leastI l k) (h2 : ¬ cols ≤ x) : okR cols l k = true := by
  unfold okR
  rw [getD_some h]
  unfold leastI at h0 h1
  by_cases e : k = 0
  · rw [if_pos e] at h1
    rw [decide_eq_true (show 0 ≤ x by omega), decide_eq_true (show x < cols by omega), decide_eq_true e]; rfl
  · rw [if_neg e] at h0 h1
    rw [decide_eq_true (show 0 ≤ x by omega), decide_eq_true (show x < cols by omega), decide_eq_true (show l.getD (k - 1) 0 < x by omega)]; simp
theorem rightR_no {cols : Int} {l : List Int} {k : Nat} (hk : k < l.length) (h : okR cols l k = false) : rightR cols l = false := by
  unfold rightR
  rw [List.all_eq_false]
  exact ⟨k, List.mem_range.2 hk, by rw [h]; decide⟩
theorem rightR_yes {cols : Int} {l : List Int} (h : ∀ k, k < l.length → okR cols l k = true) : rightR cols l = true := by
  unfold rightR
  rw [List.all_eq_true]
  exact fun k hk => h k (List.mem_range.1 hk)
set_option maxHeartbeats 2000000 in
set_option maxRecDepth 100000 in
theorem incr13_any (w : World) (v : Value) (cols : Int) (l : List Int) (hv : IntsAt w w.heap.size v l) (hc0 : 0 ≤ cols) (hc1 : cols ≤ 4000) :
    Calls Try.prog 35 #[v, .int .i64 cols] w fun e w' => e = .returned (.bool (rightR cols l)) ∧ Below w.heap.size w w' := by
  obtain ⟨A, c, rfl, hlv, hcv⟩ := hv
  go_enter Try.func35, Try.ntmps35
  go_wp2
  go_loopw [5, 7, 10] (fun a _ t wr => ∃ (k : Nat) (L : Int), k ≤ l.length ∧ t = .int .i64 k ∧ a = .int .i64 L ∧ 0 ≤ L ∧ L ≤ 4000 ∧ Hid (leastI l k = L) ∧ Hid (∀ j, j < k → okR cols l j = true) ∧ Below w.heap.size w wr) (fun _ _ t _ => l.length - (intOf t).toNat)
  case atStart => exact ⟨0, 0, by omega, rfl, rfl, by omega, by omega, Lib.hid rfl, Lib.hid (fun j h => absurd h (Nat.not_lt_zero _)), Below.refl _ _⟩
  case round =>
    obtain ⟨k, L, hk, rfl, rfl, hL0, hL1, hL, hH, hb⟩ := hrel
    by_cases hlt : k < l.length
    · obtain ⟨b, off, rfl, hB, hc⟩ := hcv (by omega)
      obtain ⟨x, hx⟩ : ∃ x, l[k]? = some x := ⟨_, List.getElem?_eq_getElem hlt⟩
      have d0 := (hb.cell (p := ⟨b, off + k, none⟩) hB).trans (hc k x hx)
      have hxH := Lib.hid hx
      clear hc hcv hx
      by_cases x0 : x < L
      · have hr := Lib.hid (rightR_no (cols := cols) hlt (okR_low hxH.out (by rw [hL.out]; exact x0)))
        have xd0 : decide (x < L) = true := decide_eq_true x0
        clear hL hH
        go_wp2
        go_ret
        exact ⟨by rw [hr.out]; rfl, hb⟩
      have xd0 : decide (x < L) = false := decide_eq_false x0
      by_cases x1 : cols ≤ x
      · have hr := Lib.hid (rightR_no (cols := cols) hlt (okR_high hxH.out x1))
        have xd1 : decide (cols ≤ x) = true := decide_eq_true x1
        clear hL hH
        go_wp2
        go_ret
        exact ⟨by rw [hr.out]; rfl, hb⟩
      have xd1 : decide (cols ≤ x) = false := decide_eq_false x1
      have hok := Lib.hid (okR_yes (cols := cols) hxH.out (by rw [hL.out]; exact hL0) (by rw [hL.out]; exact x0) x1)
      have hL' := Lib.hid (leastI_succ hxH.out)
      have hwr : wrap64 (x + 1) = x + 1 := by unfold wrap64; omega
      clear hL
      go_wp2
      go_roundw
      case rel => exact ⟨k + 1, x + 1, by omega, by go_num, by go_num, by omega, by omega, hL', Lib.hid (fun j hj => by
        by_cases e : j = k
        · subst e; exact hok.out
        · exact hH.out j (by omega)), hb⟩
      case measure => simp [intOf]; omega
    · have e : k = l.length := by omega
      subst e
      have hr := Lib.hid (rightR_yes (cols := cols) (l := l) hH.out)
      clear hcv hL hH
      go_wp2
      go_ret
      exact ⟨by rw [hr.out]; rfl, hb⟩
set_option maxHeartbeats 1000000 in
set_option maxRecDepth 100000 in
theorem indexM_any (K : Nat) (caps : Array Value) (p : List Int → Bool) (L : Value) (ls : List (List Int)) (w : World)
    (hcf : ∀ (args : Array Value) (w1 : World), (Sem.run Try.prog (callFunc K args) w1) = .ok (.enter K args) w1)
    (hcl : ∀ v x w1, x ∈ ls → Below w.heap.size w w1 → IntsAt w1 w.heap.size v x → Calls Try.prog K (#[v] ++ caps) w1 fun e w' => e = .returned (.bool (p x)) ∧ Below w1.heap.size w1 w')
    (hL : MatAt w w.heap.size L ls) :
    Calls Try.prog 45 #[L, .func (.func K) #[] caps] w fun e w' => e = .returned (.int .i64 (firstI p ls)) ∧ Below w.heap.size w w' := by
  have hat := Lib.hid (fun (j : Nat) (x : List Int) (h : ls[j]? = some x) (hn : (ls.take j).any p = false) (hp : p x = true) => firstI_at h hn hp)
  have hno := Lib.hid (fun (h : ls.any p = false) => firstI_none h)
  obtain ⟨A, c, rfl, hlen, hA⟩ := hL
  go_enter Try.func45, Try.ntmps45
  go_wp2
  go_loopw [5, 8] (fun _ t wr => ∃ j : Nat, j ≤ ls.length ∧ t = .int .i64 j ∧ Hid ((ls.take j).any p = false) ∧ Below w.heap.size w wr) (fun _ t _ => ls.length - (intOf t).toNat)
  case atStart => exact ⟨0, by omega, rfl, Lib.hid (by simp), Below.refl _ _⟩
  case round =>
    obtain ⟨j, hj, rfl, hH, hb⟩ := hrel
    by_cases hlt : j < ls.length
    · obtain ⟨b, off, rfl, hB, hc⟩ := hA (by omega)
      obtain ⟨l, hl⟩ : ∃ l, ls[j]? = some l := ⟨_, List.getElem?_eq_getElem hlt⟩
      obtain ⟨ov, c0, hi⟩ := hc j l hl
      have d0 := (hb.cell (p := ⟨b, off + j, none⟩) hB).trans c0
      have hgl := Lib.hid hl
      have HX := hcl ov l wr (List.mem_of_getElem? hl) hb (hi.below hb)
      obtain ⟨A3, c3, rfl, -, -⟩ := hi
      clear hc hl hcl c0 hA
      cases hp : p l
      · rw [hp] at HX
        have hp' := Lib.hid hp
        clear hp
        go_wp2_with fail
        refine HX.mono ?_
        rintro e w1 ⟨rfl, hb1⟩
        have hB1 := hb.trans (hb1.mono hb.size)
        clear hb1
        go_wp2
        go_roundw
        case rel => exact ⟨j + 1, by omega, by go_num, Lib.hid (any_take_succ hgl.out hH.out hp'.out), hB1⟩
        case measure => simp [intOf]; omega
      · rw [hp] at HX
        have hr := Lib.hid (hat.out j l hgl.out hH.out hp)
        clear hp
        go_wp2_with fail
        refine HX.mono ?_
        rintro e w1 ⟨rfl, hb1⟩
        have hB1 := hb.trans (hb1.mono hb.size)
        clear hb1
        go_wp2
        go_ret
        exact ⟨by rw [hr.out]; rfl, hB1⟩
    · have e : j = ls.length := by omega
      subst e
      have hr := Lib.hid (hno.out (by have := hH.out; rwa [List.take_length] at this))
      clear hA hcl hcf
      go_wp2
      go_ret
      exact ⟨by rw [hr.out]; rfl, hb⟩
theorem containsM_any (K : Nat) (caps : Array Value) (p : List Int → Bool) (L : Value) (ls : List (List Int)) (w : World)
    (hcf : ∀ (args : Array Value) (w1 : World), (Sem.run Try.prog (callFunc K args) w1) = .ok (.enter K args) w1)
    (hcl : ∀ v x w1, x ∈ ls → Below w.heap.size w w1 → IntsAt w1 w.heap.size v x → Calls Try.prog K (#[v] ++ caps) w1 fun e w' => e = .returned (.bool (p x)) ∧ Below w1.heap.size w1 w')
    (hL : MatAt w w.heap.size L ls) :
    Calls Try.prog 29 #[L, .func (.func K) #[] caps] w fun e w' => e = .returned (.bool (ls.any p)) ∧ Below w.heap.size w w' := by
  have H := indexM_any K caps p L ls w hcf hcl hL
  have hr := Lib.hid (firstI_ge p ls)
  clear hL hcl hcf
  generalize firstI p ls = n at *
  go_enter Try.func29, Try.ntmps29
  go_wp2_with fail
  refine H.mono ?_
  rintro e w1 ⟨rfl, hb1⟩
  go_wp2
  go_ret
  exact ⟨by rw [← hr.out]; rfl, hb1⟩
theorem crit1_any13 (w : World) (v V : Value) (cols : Int) (b : Nat) (l : List Int) (hb : w.heap[b]? = some (mtb cols V)) (hv : IntsAt w w.heap.size v l) (hc0 : 0 ≤ cols) (hc1 : cols ≤ 4000) :
    Calls Try.prog 34 #[v, .pointer (some ⟨b, 0, none⟩)] w fun e w' => e = .returned (.bool (!rightR cols l)) ∧ Below w.heap.size w w' := by
  have H := incr13_any w v cols l hv hc0 hc1
  obtain ⟨A, c, rfl, -, -⟩ := hv
  generalize rightR cols l = q at *
  unfold mtb at hb
  obtain ⟨m0, m1, -⟩ := now2 hb rfl
  go_enter Try.func34, Try.ntmps34
  go_wp2_with fail
  refine H.mono ?_
  rintro e w1 ⟨rfl, hb1⟩
  go_wp2
  go_ret
  exact ⟨rfl, hb1⟩
set_option maxHeartbeats 1000000 in
set_option maxRecDepth 100000 in
theorem cright13 : RightV := by
  intro n L ls w hL
  have hB0 := below_alloc1 w (mtb n L)
  have hbu : (w.alloc (mtb n L)).heap[w.heap.size]? = some (mtb n L) := heap_alloc_new _ _
  have hmf : ∀ (fn : Fn) (first cap : Array Value) (w : World), (Instr.makeFunc fn first cap).run Try.prog w = .ok (.func fn first cap) w := fun _ _ _ _ => rfl
  have hbu' := hbu
  unfold mtb at hbu'
  obtain ⟨m0, m1, -⟩ := now2 hbu' rfl
  by_cases h1 : n < 0
  · have hr : Hid (rightM n ls = false) := Lib.hid (by unfold rightM; rw [decide_eq_false (by omega)]; rfl)
    have hd : decide (n < 0) = true := decide_eq_true h1
    obtain ⟨A, c, rfl, -, -⟩ := hL
    unfold mtv
    unfold mtb at *
    clear hbu
    go_enter Try.func21, Try.ntmps21
    go_wp2
    go_ret
    exact ⟨by rw [hr.out]; rfl, hB0⟩
  have hd : decide (n < 0) = false := decide_eq_false h1
  by_cases h2 : 4000 < n
  · have hr : Hid (rightM n ls = false) := Lib.hid (by unfold rightM; rw [decide_eq_false (show ¬ n ≤ 4000 by omega), Bool.and_false]; rfl)
    have hd2 : decide (4000 < n) = true := decide_eq_true h2
    obtain ⟨A, c, rfl, -, -⟩ := hL
    unfold mtv
    unfold mtb at *
    clear hbu
    go_enter Try.func21, Try.ntmps21
    go_wp2
    go_ret
    exact ⟨by rw [hr.out]; rfl, hB0⟩
  have hd2 : decide (4000 < n) = false := decide_eq_false h2
  have hr : Hid ((!(ls.any fun l => !rightR n l)) = rightM n ls) := Lib.hid (by
    unfold rightM
    rw [decide_eq_true (show 0 ≤ n by omega), decide_eq_true (show n ≤ 4000 by omega), Bool.true_and, Bool.true_and, List.not_any_eq_all_not]
    simp)
  have H := containsM_any 34 #[.pointer (some ⟨w.heap.size, 0, none⟩)] (fun l => !rightR n l) L ls (w.alloc (mtb n L)) (fun _ _ => by kernel_rfl)
    (fun v x w1 _ hb hi => crit1_any13 w1 v L n w.heap.size x (keep_blk hb hbu) (hi.more hb.size) (by omega) (by omega))
    ((hL.below hB0).more hB0.size)
  obtain ⟨A, c, rfl, -, -⟩ := hL
  generalize (ls.any fun l => !rightR n l) = q at *
  unfold mtv
  unfold mtb at *
  clear hbu
  go_enter Try.func21, Try.ntmps21
  go_wp2_with fail
  refine H.mono ?_
  rintro e w1 ⟨rfl, hb1⟩
  go_wp2
  go_ret
  exact ⟨by rw [← hr.out]; rfl, hB0.trans (hb1.mono hB0.size)⟩
end Go.Proofs.Ytcbhcclickjpnaa
namespace Go.Proofs.Ytcbhcclickjpnaa
open Go.RowKit Go.Joins

/-- n flags, as cells. -/
def bolA (n : Nat) (f : Nat → Bool) : Array Value := ((List.range n).map fun p => Value.bool (f p)).toArray
theorem bolA_get {n p : Nat} (f : Nat → Bool) (h : p < n) : (bolA n f)[p]? = some (.bool (f p)) := by
  unfold bolA; simp [h]
theorem bolA_set {n p : Nat} {f : Nat → Bool} {u : Bool} : (bolA n f).setIfInBounds p (.bool u) = bolA n (fun j => if j = p then u else f j) := by
  unfold bolA
  rw [List.setIfInBounds_toArray]
  congr 1
  apply List.ext_getElem?
  intro j
  rw [List.getElem?_set]
  by_cases hj : j < n
  · by_cases e : p = j
    · subst e
      simp [hj]
    · simp [e, hj, show ¬ j = p from fun e' => e e'.symm]
  · by_cases e : p = j
    · subst e
      simp [hj]
    · simp [e, hj]
theorem bolA_made (n : Nat) : madeCells #[Value.bool false] n = bolA n fun _ => false := by
  unfold bolA
  apply Array.toList_inj.1
  rw [toList_madeCells_one]
  apply List.ext_getElem?
  intro j
  by_cases hj : j < n <;> simp [hj]
def bolO (n : Nat) (f : Nat → Bool) : Obj := .cells (bolA n f) 4 (0, 0)
theorem bol_cell {w : World} {bt n p : Nat} {f : Nat → Bool} (h : w.heap[bt]? = some (bolO n f)) (hp : p < n) : w.cell? ⟨bt, p, none⟩ = some (.bool (f p)) ∧ w.frozen? ⟨bt, p, none⟩ = false := by
  unfold bolO at h
  exact ⟨by rw [cell_of_block h]; exact bolA_get f hp, unfrozen_of_block h p⟩
theorem Try.infoBool13 : (Try.prog.info? 4).map (fun i => (i.zero, i.size, i.bytes)) = some (some (.bool false), 1, 1) := by kernel_rfl
theorem make_bols (n : Nat) (hn : n ≤ 1000000) (w : World) : (Instr.makeSlice 44 (.int .i64 n) (.int .i64 n)).run Try.prog w = .ok (.slice (some ⟨w.heap.size, 0, none⟩) n n) (w.alloc (bolO n fun _ => false)) := by
  obtain ⟨i0, hi, hz0, hz1, hz2⟩ := info_parts Try.infoBool13
  have h := run_makeSlice (P := Try.prog) w 44 4 i0 (.bool false) Try.underlying44 hi hz0 .i64 .i64 n n (by omega) (by omega) (by rw [hz1]; simp; omega) (by rw [hz2]; omega) (by omega)
  rw [h, hz1]
  unfold bolO
  rw [← bolA_made]
  simp [Value.cells]
theorem chit11_any13 (w : World) (bx bt m c : Nat) (F : Nat → Bool) (hx : w.heap[bx]? = some (.cells #[.slice (some ⟨bt, 0, none⟩) m m] 44 (0, 0))) (ht : w.heap[bt]? = some (bolO m F)) (hc : c < m) :
    Calls Try.prog 28 #[.int .i64 c, .pointer (some ⟨bx, 0, none⟩)] w fun e w' => e = .returned (.bool (F c)) ∧ Below w.heap.size w w' := by
  obtain ⟨q0, q1⟩ := bol_cell ht hc
  have x0 : w.cell? ⟨bx, 0, none⟩ = some (.slice (some ⟨bt, 0, none⟩) m m) := by rw [cell_of_block hx]; rfl
  have c0 : (0 : Int) ≤ (c : Int) := by omega
  have c1 : (c : Int) < (m : Int) := by omega
  clear hx ht
  go_enter Try.func28, Try.ntmps28
  go_wp2
  go_ret
  exact ⟨rfl, Below.refl _ _⟩
set_option maxHeartbeats 1000000 in
set_option maxRecDepth 100000 in
theorem indexI_any (K : Nat) (caps : Array Value) (p : Int → Bool) (L : Value) (l : List Int) (w : World)
    (hcf : ∀ (args : Array Value) (w1 : World), (Sem.run Try.prog (callFunc K args) w1) = .ok (.enter K args) w1)
    (hcl : ∀ x w1, x ∈ l → Below w.heap.size w w1 → Calls Try.prog K (#[.int .i64 x] ++ caps) w1 fun e w' => e = .returned (.bool (p x)) ∧ Below w1.heap.size w1 w')
    (hL : IntsAt w w.heap.size L l) :
    Calls Try.prog 36 #[L, .func (.func K) #[] caps] w fun e w' => e = .returned (.int .i64 (firstI p l)) ∧ Below w.heap.size w w' := by
  have hat := Lib.hid (fun (j : Nat) (x : Int) (h : l[j]? = some x) (hn : (l.take j).any p = false) (hp : p x = true) => firstI_at h hn hp)
  have hno := Lib.hid (fun (h : l.any p = false) => firstI_none h)
  obtain ⟨A, c, rfl, hlen, hA⟩ := hL
  go_enter Try.func36, Try.ntmps36
  go_wp2
  go_loopw [5, 8] (fun _ t wr => ∃ j : Nat, j ≤ l.length ∧ t = .int .i64 j ∧ Hid ((l.take j).any p = false) ∧ Below w.heap.size w wr) (fun _ t _ => l.length - (intOf t).toNat)
  case atStart => exact ⟨0, by omega, rfl, Lib.hid (by simp), Below.refl _ _⟩
  case round =>
    obtain ⟨j, hj, rfl, hH, hb⟩ := hrel
    by_cases hlt : j < l.length
    · obtain ⟨b, off, rfl, hB, hc⟩ := hA (by omega)
      obtain ⟨x, hx⟩ : ∃ x, l[j]? = some x := ⟨_, List.getElem?_eq_getElem hlt⟩
      have d0 := (hb.cell (p := ⟨b, off + j, none⟩) hB).trans (hc j x hx)
      have hgl := Lib.hid hx
      have HX := hcl x wr (List.mem_of_getElem? hx) hb
      clear hc hx hcl hA
      cases hp : p x
      · rw [hp] at HX
        have hp' := Lib.hid hp
        clear hp
        go_wp2_with fail
        refine HX.mono ?_
        rintro e w1 ⟨rfl, hb1⟩
        have hB1 := hb.trans (hb1.mono hb.size)
        clear hb1
        go_wp2
        go_roundw
        case rel => exact ⟨j + 1, by omega, by go_num, Lib.hid (any_take_succ hgl.out hH.out hp'.out), hB1⟩
        case measure => simp [intOf]; omega
      · rw [hp] at HX
        have hr := Lib.hid (hat.out j x hgl.out hH.out hp)
        clear hp
        go_wp2_with fail
        refine HX.mono ?_
        rintro e w1 ⟨rfl, hb1⟩
        have hB1 := hb.trans (hb1.mono hb.size)
        clear hb1
        go_wp2
        go_ret
        exact ⟨by rw [hr.out]; rfl, hB1⟩
    · have e : j = l.length := by omega
      subst e
      have hr := Lib.hid (hno.out (by have := hH.out; rwa [List.take_length] at this))
      clear hA hcl hcf
      go_wp2
      go_ret
      exact ⟨by rw [hr.out]; rfl, hb⟩
theorem containsI_any (K : Nat) (caps : Array Value) (p : Int → Bool) (L : Value) (l : List Int) (w : World)
    (hcf : ∀ (args : Array Value) (w1 : World), (Sem.run Try.prog (callFunc K args) w1) = .ok (.enter K args) w1)
    (hcl : ∀ x w1, x ∈ l → Below w.heap.size w w1 → Calls Try.prog K (#[.int .i64 x] ++ caps) w1 fun e w' => e = .returned (.bool (p x)) ∧ Below w1.heap.size w1 w')
    (hL : IntsAt w w.heap.size L l) :
    Calls Try.prog 22 #[L, .func (.func K) #[] caps] w fun e w' => e = .returned (.bool (l.any p)) ∧ Below w.heap.size w w' := by
  have H := indexI_any K caps p L l w hcf hcl hL
  have hr := Lib.hid (firstI_ge p l)
  clear hL hcl hcf
  generalize firstI p l = n at *
  go_enter Try.func22, Try.ntmps22
  go_wp2_with fail
  refine H.mono ?_
  rintro e w1 ⟨rfl, hb1⟩
  go_wp2
  go_ret
  exact ⟨by rw [← hr.out]; rfl, hb1⟩
theorem chit1_any13 (w : World) (v : Value) (x : List Int) (bx bt m : Nat) (F : Nat → Bool) (hx : w.heap[bx]? = some (.cells #[.slice (some ⟨bt, 0, none⟩) m m] 44 (0, 0))) (ht : w.heap[bt]? = some (bolO m F)) (hv : IntsAt w w.heap.size v x) (hr : ∀ c, c ∈ x → 0 ≤ c ∧ c < m) :
    Calls Try.prog 27 #[v, .pointer (some ⟨bx, 0, none⟩)] w fun e w' => e = .returned (.bool (x.any fun c => F c.toNat)) ∧ Below w.heap.size w w' := by
  have hmf : ∀ (fn : Fn) (first cap : Array Value) (w : World), (Instr.makeFunc fn first cap).run Try.prog w = .ok (.func fn first cap) w := fun _ _ _ _ => rfl
  have H := containsI_any 28 #[.pointer (some ⟨bx, 0, none⟩)] (fun c => F c.toNat) v x w (fun _ _ => by kernel_rfl)
    (fun c w1 hc hb => by
      obtain ⟨h0, h1⟩ := hr c hc
      have := chit11_any13 w1 bx bt m c.toNat F (keep_blk hb hx) (keep_blk hb ht) (by omega)
      rwa [Int.toNat_of_nonneg h0] at this) hv
  obtain ⟨A, c, rfl, -, -⟩ := hv
  generalize (x.any fun c => F c.toNat) = q at *
  clear hx ht hr
  go_enter Try.func27, Try.ntmps27
  go_wp2_with fail
  refine H.mono ?_
  rintro e w1 ⟨rfl, hb1⟩
  go_wp2
  go_ret
  exact ⟨rfl, hb1⟩
theorem chit2_any13 (w : World) (v : Value) (x : List Int) (bf bx bt m : Nat) (F : Nat → Bool) (hf : w.heap[bf]? = some (.cells #[.func (.func 27) #[] #[.pointer (some ⟨bx, 0, none⟩)]] 50 (0, 0)))
    (hx : w.heap[bx]? = some (.cells #[.slice (some ⟨bt, 0, none⟩) m m] 44 (0, 0))) (ht : w.heap[bt]? = some (bolO m F)) (hv : IntsAt w w.heap.size v x) (hr : ∀ c, c ∈ x → 0 ≤ c ∧ c < m) :
    Calls Try.prog 30 #[v, .pointer (some ⟨bf, 0, none⟩)] w fun e w' => e = .returned (.bool (!(x.any fun c => F c.toNat))) ∧ Below w.heap.size w w' := by
  have H := chit1_any13 w v x bx bt m F hx ht hv hr
  have f0 : w.cell? ⟨bf, 0, none⟩ = some (.func (.func 27) #[] #[.pointer (some ⟨bx, 0, none⟩)]) := by rw [cell_of_block hf]; rfl
  obtain ⟨A, c, rfl, -, -⟩ := hv
  generalize (x.any fun c => F c.toNat) = q at *
  clear hx ht hr hf
  go_enter Try.func30, Try.ntmps30
  go_wp2_with fail
  refine H.mono ?_
  rintro e w1 ⟨rfl, hb1⟩
  go_wp2
  go_ret
  exact ⟨rfl, hb1⟩
theorem not_any13 {α : Type} (p : α → Bool) (l : List α) : (!(l.any fun x => !p x)) = l.all p := by
  rw [List.not_any_eq_all_not]; simp
theorem rightR_in {m : Nat} {l : List Int} (h : rightR m l = true) : ∀ c, c ∈ l → 0 ≤ c ∧ c < m := by
  intro c hc
  obtain ⟨i, hi, rfl⟩ := List.mem_iff_getElem.1 hc
  unfold rightR at h
  rw [List.all_eq_true] at h
  have h1 := h i (List.mem_range.2 hi)
  unfold okR at h1
  rw [getD_some (List.getElem?_eq_getElem hi)] at h1
  simp at h1
  exact h1.1
/-- The columns among 0 to m - 1 that are in cols. -/
def inF (m : Nat) (cols : List Int) (c : Nat) : Bool := decide (c < m) && cols.any fun x => decide (x = (c : Int))
theorem inF_skip {m k : Nat} {cols : List Int} {x : Int} (hx : cols[k]? = some x) (h : ¬ (0 ≤ x ∧ x < m)) : inF m (cols.take (k + 1)) = inF m (cols.take k) := by
  funext c
  unfold inF
  rw [List.take_add_one, hx, List.any_append]
  by_cases hc : c < m
  · have : ¬ x = (c : Int) := fun e => h (by omega)
    simp [this]
  · simp [hc]
theorem inF_put {m k : Nat} {cols : List Int} {x : Nat} (hx : cols[k]? = some (x : Int)) (h : x < m) : inF m (cols.take (k + 1)) = fun j => if j = x then true else inF m (cols.take k) j := by
  funext c
  unfold inF
  rw [List.take_add_one, hx, List.any_append]
  by_cases hc : c = x
  · subst hc
    simp [h]
  · have : ¬ (x : Int) = (c : Int) := fun e => hc (by omega)
    simp [hc, this]
theorem inF_hit {m : Nat} {cols l : List Int} (h : ∀ c, c ∈ l → 0 ≤ c ∧ c < m) : (l.any fun c => inF m cols c.toNat) = hitR cols l := by
  unfold hitR
  rw [Bool.eq_iff_iff, List.any_eq_true, List.any_eq_true]
  constructor
  · rintro ⟨c, hc, h1⟩
    obtain ⟨h2, h3⟩ := h c hc
    refine ⟨c, hc, ?_⟩
    unfold inF at h1
    rw [Int.toNat_of_nonneg h2] at h1
    simp only [Bool.and_eq_true] at h1
    obtain ⟨d, hd, h4⟩ := List.any_eq_true.1 h1.2
    exact List.any_eq_true.2 ⟨d, hd, by simpa using (of_decide_eq_true h4).symm⟩
  · rintro ⟨c, hc, h1⟩
    obtain ⟨h2, h3⟩ := h c hc
    refine ⟨c, hc, ?_⟩
    unfold inF
    rw [Int.toNat_of_nonneg h2]
    simp only [Bool.and_eq_true]
    obtain ⟨d, hd, h4⟩ := List.any_eq_true.1 h1
    exact ⟨by simp; omega, List.any_eq_true.2 ⟨d, hd, by simpa using (of_decide_eq_true h4).symm⟩⟩
set_option maxHeartbeats 2000000 in
set_option maxRecDepth 100000 in
theorem solves13_good (m : Nat) (hm : m ≤ 4000) (L u : Value) (ls : List (List Int)) (cols : List Int) (w : World) (hL : MatAt w w.heap.size L ls) (hu : IntsAt w w.heap.size u cols) (hR : rightM m ls = true) :
    Calls Try.prog 15 #[mtv m L, u] w fun e w' => e = .returned (.bool (solvesM ls cols)) ∧ Below w.heap.size w w' := by
  have hB0 := below_alloc1 w (mtb m L)
  have hbu : (w.alloc (mtb m L)).heap[w.heap.size]? = some (mtb m L) := heap_alloc_new _ _
  have hmf : ∀ (fn : Fn) (first cap : Array Value) (w : World), (Instr.makeFunc fn first cap).run Try.prog w = .ok (.func fn first cap) w := fun _ _ _ _ => rfl
  have hmk := fun w => make_bols m (by omega) w
  have HR := cright13 m L ls (w.alloc (mtb m L)) ((hL.below hB0).more hB0.size)
  rw [hR] at HR
  have hin : ∀ x, x ∈ ls → ∀ c, c ∈ x → 0 ≤ c ∧ c < m := fun x hx => rightR_in (by
    unfold rightM at hR
    simp only [Bool.and_eq_true, List.all_eq_true] at hR
    exact hR.2 x hx)
  have hsol : Hid ((!(ls.any fun x => !(x.any fun c => inF m cols c.toNat))) = solvesM ls cols) := Lib.hid (by
    unfold solvesM
    rw [not_any13, Bool.eq_iff_iff, List.all_eq_true, List.all_eq_true]
    exact forall_congr' fun x => forall_congr' fun hx => by rw [inF_hit (hin x hx)])
  have hskip := Lib.hid (fun k x => inF_skip (m := m) (k := k) (cols := cols) (x := x))
  have hput := Lib.hid (fun k x => inF_put (m := m) (k := k) (cols := cols) (x := x))
  have h0 : Hid (inF m (cols.take 0) = fun _ => false) := Lib.hid (by funext c; unfold inF; simp)
  have hLL := hL
  obtain ⟨A, c, rfl, -, -⟩ := hL
  obtain ⟨A2, c2, rfl, hlu, hcu⟩ := hu
  clear hR
  unfold mtv at *
  unfold mtb at *
  obtain ⟨m0, m1, -⟩ := now2 hbu rfl
  go_enter Try.func15, Try.ntmps15
  go_wp2_with fail
  refine HR.mono ?_
  rintro e w1 ⟨rfl, hb1⟩
  have hB1 := hB0.trans (hb1.mono hB0.size)
  have hbu1 := keep_blk hb1 hbu
  clear m0 m1 HR hb1 hB0
  have hB3 := (hB1.alloc hB1.size (bolO m fun _ => false)).alloc (hB1.alloc hB1.size (bolO m fun _ => false)).size (.cells #[.slice (some ⟨w1.heap.size, 0, none⟩) m m] 44 (0, 0))
  have hbu3 := keep_alloc (x := .cells #[.slice (some ⟨w1.heap.size, 0, none⟩) m m] 44 (0, 0)) (keep_alloc (x := bolO m fun _ => false) hbu1)
  have hbt3 := keep_alloc (x := .cells #[.slice (some ⟨w1.heap.size, 0, none⟩) m m] 44 (0, 0)) (heap_alloc_new w1 (bolO m fun _ => false))
  have hbx3 := heap_alloc_new (w1.alloc (bolO m fun _ => false)) (.cells #[.slice (some ⟨w1.heap.size, 0, none⟩) m m] 44 (0, 0))
  rw [World.size_alloc] at hbx3
  rw [← h0.out] at hbt3 hbx3 hbu3 hB3
  obtain ⟨m0, m1, -⟩ := now2 hbu1 rfl
  have hw1 := size_of_block hbu1
  rw [h0.out] at hbt3 hbx3 hbu3 hB3
  go_wp2
  go_loopw [7, 17] (fun _ t wr => ∃ k : Nat, k ≤ cols.length ∧ t = .int .i64 k ∧ wr.heap[w1.heap.size]? = some (bolO m (inF m (cols.take k))) ∧ wr.heap[w1.heap.size + 1]? = some (.cells #[.slice (some ⟨w1.heap.size, 0, none⟩) m m] 44 (0, 0)) ∧
    wr.heap[w.heap.size]? = some (.cells #[.int .i64 m, .slice A ls.length c] 24 (0, 0)) ∧ Below w.heap.size w wr) (fun _ t _ => cols.length - (intOf t).toNat)
  case atStart => exact ⟨0, by omega, rfl, by rw [h0.out]; exact hbt3, hbx3, hbu3, hB3⟩
  case round =>
    clear hB3 hbu3 hbt3 hbx3 m0 m1 hbu1 hbu hB1
    obtain ⟨k, hk, rfl, ht, hx, hm', hb⟩ := hrel
    obtain ⟨m0, m1, -⟩ := now2 hm' rfl
    by_cases hlt : k < cols.length
    · obtain ⟨b, off, rfl, hB, hc⟩ := hcu (by omega)
      obtain ⟨x, hxx⟩ : ∃ x, cols[k]? = some x := ⟨_, List.getElem?_eq_getElem hlt⟩
      have d0 := (hb.cell (p := ⟨b, off + k, none⟩) hB).trans (hc k x hxx)
      have hxH := Lib.hid hxx
      clear hc hcu hxx
      by_cases x0 : 0 ≤ x ∧ x < m
      · obtain ⟨y, rfl⟩ : ∃ y : Nat, x = y := ⟨x.toNat, by omega⟩
        have hy : y < m := by omega
        have xd0 : decide ((0 : Int) ≤ (y : Int)) = true := decide_eq_true (by omega)
        have xd1 : decide ((y : Int) < (m : Int)) = true := decide_eq_true (by omega)
        have y0 : (0 : Int) ≤ (y : Int) := by omega
        have y1 : (y : Int) < (m : Int) := by omega
        obtain ⟨t0, t1⟩ := bol_cell ht hy
        have x2 : wr.cell? ⟨w1.heap.size + 1, 0, none⟩ = some (.slice (some ⟨w1.heap.size, 0, none⟩) m m) := by rw [cell_of_block hx]; rfl
        have ht' : (wr.setCell ⟨w1.heap.size, y, none⟩ (.bool true)).heap[w1.heap.size]? = some (bolO m (inF m (cols.take (k + 1)))) := by
          unfold bolO at ht ⊢
          rw [block_setCell ht, bolA_set, hput.out k y hxH.out hy]
        have hx' := keep_set (a := ⟨w1.heap.size, y, none⟩) (u := .bool true) (by show w1.heap.size + 1 ≠ w1.heap.size; omega) hx
        have hm2 := keep_set (a := ⟨w1.heap.size, y, none⟩) (u := .bool true) (by show w.heap.size ≠ w1.heap.size; omega) hm'
        have hb2 := hb.setCell (p := ⟨w1.heap.size, y, none⟩) (by show w.heap.size ≤ w1.heap.size; omega) (.bool true)
        clear x0 ht hx hm' hb
        go_wp2
        go_roundw
        case rel => exact ⟨k + 1, by omega, by go_num, ht', hx', hm2, hb2⟩
        case measure => simp [intOf]; omega
      · have hst := Lib.hid (hskip.out k x hxH.out x0)
        by_cases x1 : 0 ≤ x
        · have xd0 : decide (0 ≤ x) = true := decide_eq_true x1
          have xd1 : decide (x < (m : Int)) = false := decide_eq_false (fun e => x0 ⟨x1, e⟩)
          clear x0
          go_wp2
          go_roundw
          case rel => exact ⟨k + 1, by omega, by go_num, by rw [hst.out]; exact ht, hx, hm', hb⟩
          case measure => simp [intOf]; omega
        · have xd0 : decide (0 ≤ x) = false := decide_eq_false x1
          clear x0
          go_wp2
          go_roundw
          case rel => exact ⟨k + 1, by omega, by go_num, by rw [hst.out]; exact ht, hx, hm', hb⟩
          case measure => simp [intOf]; omega
    · have e : k = cols.length := by omega
      subst e
      rw [List.take_length] at ht
      have hBf := hb.alloc hb.size (.cells #[.func (.func 27) #[] #[.pointer (some ⟨w1.heap.size + 1, 0, none⟩)]] 50 (0, 0))
      have hf := heap_alloc_new wr (.cells #[.func (.func 27) #[] #[.pointer (some ⟨w1.heap.size + 1, 0, none⟩)]] 50 (0, 0))
      have hmk4 := keep_alloc (x := .cells #[.func (.func 27) #[] #[.pointer (some ⟨w1.heap.size + 1, 0, none⟩)]] 50 (0, 0)) hm'
      have hx4 := keep_alloc (x := .cells #[.func (.func 27) #[] #[.pointer (some ⟨w1.heap.size + 1, 0, none⟩)]] 50 (0, 0)) hx
      have ht4 := keep_alloc (x := .cells #[.func (.func 27) #[] #[.pointer (some ⟨w1.heap.size + 1, 0, none⟩)]] 50 (0, 0)) ht
      have H := containsM_any 30 #[.pointer (some ⟨wr.heap.size, 0, none⟩)] (fun x => !(x.any fun c => inF m cols c.toNat)) _ ls _ (fun _ _ => by kernel_rfl)
        (fun v x wz hxl hbz hi => chit2_any13 wz v x wr.heap.size (w1.heap.size + 1) w1.heap.size m (inF m cols) (keep_blk hbz hf) (keep_blk hbz hx4) (keep_blk hbz ht4) (hi.more hbz.size) (hin x hxl)) ((hLL.below hBf).more hBf.size)
      generalize (ls.any fun x => !(x.any fun c => inF m cols c.toNat)) = q at *
      obtain ⟨n0, n1, -⟩ := now2 hmk4 rfl
      have f0 : (wr.alloc (.cells #[.func (.func 27) #[] #[.pointer (some ⟨w1.heap.size + 1, 0, none⟩)]] 50 (0, 0))).cell? ⟨wr.heap.size, 0, none⟩ = some (.func (.func 27) #[] #[.pointer (some ⟨w1.heap.size + 1, 0, none⟩)]) := by rw [cell_of_block hf]; rfl
      clear hcu ht hx hm' hb hLL hin hskip hput m0 m1 ht4 hx4 hmk4 hf
      go_wp2_with fail
      refine H.mono ?_
      rintro e w4 ⟨rfl, hb4⟩
      go_wp2
      go_ret
      exact ⟨by rw [← hsol.out]; rfl, hBf.trans (hb4.mono hBf.size)⟩
theorem csolves13 : SolvesV := by
  intro n L u ls cols w hL hu
  by_cases hR : rightM n ls = true
  · have h1 := hR
    unfold rightM at h1
    simp only [Bool.and_eq_true, decide_eq_true_eq] at h1
    obtain ⟨m, rfl⟩ : ∃ m : Nat, n = m := ⟨n.toNat, by omega⟩
    rw [hR, Bool.true_and]
    exact solves13_good m (by omega) L u ls cols w hL hu hR
  · have hR : rightM n ls = false := by simpa using hR
    rw [hR, Bool.false_and]
    have hB0 := below_alloc1 w (mtb n L)
    have hbu : (w.alloc (mtb n L)).heap[w.heap.size]? = some (mtb n L) := heap_alloc_new _ _
    have HR := cright13 n L ls (w.alloc (mtb n L)) ((hL.below hB0).more hB0.size)
    rw [hR] at HR
    clear hR
    obtain ⟨A, c, rfl, -, -⟩ := hL
    obtain ⟨A2, c2, rfl, -, -⟩ := hu
    unfold mtv at *
    unfold mtb at *
    obtain ⟨m0, m1, -⟩ := now2 hbu rfl
    go_enter Try.func15, Try.ntmps15
    go_wp2_with fail
    refine HR.mono ?_
    rintro e w1 ⟨rfl, hb1⟩
    go_wp2
    go_ret
    exact ⟨rfl, hB0.trans (hb1.mono hB0.size)⟩
end Go.Proofs.Ytcbhcclickjpnaa
