/- Right of the package cover, for every covering. -/
import Derived.Test.YtjjpobpcpgcbaaaGJ25
import Derived.Test.YtjjpobpcpgcbaaaGJ11
namespace Go.Proofs.Ytjjpobpcpgcbaaa
open Go.RowKit Go.Joins

def leastI (l : List Int) (k : Nat) : Int := if k = 0 then 0 else l.getD (k - 1) 0 + 1
theorem leastI_succ {l : List Int} {k : Nat} {x : Int} (h : l[k]? = some x) : leastI l (k + 1) = x + 1 := by
  unfold leastI
  rw [if_neg (by omega), Nat.add_sub_cancel, getD_some h]
theorem okR_low {cols : Int} {l : List Int} {k : Nat} {x : Int} (h : l[k]? = some x) (hx : x < leastI l k) : okR cols l k = false := by
  unfold okR
  rw [getD_some h]
  unfold leastI at hx
  by_cases e : k = 0
  · rw [if_pos e] at hx
    rw [decide_eq_false (by omega)]; rfl
  · rw [if_neg e] at hx
    rw [decide_eq_false e, decide_eq_false (show ¬ l.getD (k - 1) 0 < x by omega)]; simp
theorem okR_high {cols : Int} {l : List Int} {k : Nat} {x : Int} (h : l[k]? = some x) (hx : cols ≤ x) : okR cols l k = false := by
  unfold okR
  rw [getD_some h, decide_eq_false (show ¬ x < cols by omega)]; simp
theorem okR_yes {cols : Int} {l : List Int} {k : Nat} {x : Int} (h : l[k]? = some x) (h0 : 0 ≤ leastI l k) (h1 : ¬ x < leastI l k) (h2 : ¬ cols ≤ x) : okR cols l k = true := by
  unfold okR
  rw [getD_some h]
  unfold leastI at h0 h1
  by_cases e : k = 0
  · rw [if_pos e] at h1
    rw [decide_eq_true (show 0 ≤ x by omega), decide_eq_true (show x < cols by omega), decide_eq_true e]; rfl
  · rw [if_neg e] at h0 h1
    rw [decide_eq_true (show 0 ≤ x by omega), decide_eq_true (show x < cols by omega), decide_eq_true (show l.getD (k - 1) 0 < x by omega)]; simp
theorem rightR_no {cols : Int} {l : List Int} {k : Nat} (hk : k < l.length) (h : okR cols l k = false) : rightR cols l = false := by
  unfold rightR
  rw [List.all_eq_false]
  exact ⟨k, List.mem_range.2 hk, by rw [h]; decide⟩
theorem rightR_yes {cols : Int} {l : List Int} (h : ∀ k, k < l.length → okR cols l k = true) : rightR cols l = true := by
  unfold rightR
  rw [List.all_eq_true]
  exact fun k hk => h k (List.mem_range.1 hk)
set_option maxHeartbeats 2000000 in
set_option maxRecDepth 100000 in
theorem incr13_any (w : World) (v : Value) (cols : Int) (l : List Int) (hv : IntsAt w w.heap.size v l) (hc0 : 0 ≤ cols) (hc1 : cols ≤ 4000) :
    Calls Try.prog 43 #[v, .int .i64 cols] w fun e w' => e = .returned (.bool (rightR cols l)) ∧ Below w.heap.size w w' := by
  obtain ⟨A, c, rfl, hlv, hcv⟩ := hv
  go_enter Try.func43, Try.ntmps43
  go_wp2
  go_loopw [5, 7, 10] (fun a _ t wr => ∃ (k : Nat) (L : Int), k ≤ l.length ∧ t = .int .i64 k ∧ a = .int .i64 L ∧ 0 ≤ L ∧ L ≤ 4000 ∧ Hid (leastI l k = L) ∧ Hid (∀ j, j < k → okR cols l j = true) ∧ Below w.heap.size w wr) (fun _ _ t _ => l.length - (intOf t).toNat)
  case atStart => exact ⟨0, 0, by omega, rfl, rfl, by omega, by omega, Lib.hid rfl, Lib.hid (fun j h => absurd h (Nat.not_lt_zero _)), Below.refl _ _⟩
  case round =>
    obtain ⟨k, L, hk, rfl, rfl, hL0, hL1, hL, hH, hb⟩ := hrel
    by_cases hlt : k < l.length
    · obtain ⟨b, off, rfl, hB, hc⟩ := hcv (by omega)
      obtain ⟨x, hx⟩ : ∃ x, l[k]? = some x := ⟨_, List.getElem?_eq_getElem hlt⟩
      have d0 := (hb.cell (p := ⟨b, off + k, none⟩) hB).trans (hc k x hx)
      have hxH := Lib.hid hx
      clear hc hcv hx
      by_cases x0 : x < L
      · have hr := Lib.hid (rightR_no (cols := cols) hlt (okR_low hxH.out (by rw [hL.out]; exact x0)))
        have xd0 : decide (x < L) = true := decide_eq_true x0
        clear hL hH
        go_wp2
        go_ret
        exact ⟨by rw [hr.out]; rfl, hb⟩
      have xd0 : decide (x < L) = false := decide_eq_false x0
      by_cases x1 : cols ≤ x
      · have hr := Lib.hid (rightR_no (cols := cols) hlt (okR_high hxH.out x1))
        have xd1 : decide (cols ≤ x) = true := decide_eq_true x1
        clear hL hH
        go_wp2
        go_ret
        exact ⟨by rw [hr.out]; rfl, hb⟩
      have xd1 : decide (cols ≤ x) = false := decide_eq_false x1
      have hok := Lib.hid (okR_yes (cols := cols) hxH.out (by rw [hL.out]; exact hL0) (by rw [hL.out]; exact x0) x1)
      have hL' := Lib.hid (leastI_succ hxH.out)
      have hwr : wrap64 (x + 1) = x + 1 := by unfold wrap64; omega
      clear hL
      go_wp2
      go_roundw
      case rel => exact ⟨k + 1, x + 1, by omega, by go_num, by go_num, by omega, by omega, hL', Lib.hid (fun j hj => by
        by_cases e : j = k
        · subst e; exact hok.out
        · exact hH.out j (by omega)), hb⟩
      case measure => simp [intOf]; omega
    · have e : k = l.length := by omega
      subst e
      have hr := Lib.hid (rightR_yes (cols := cols) (l := l) hH.out)
      clear hcv hL hH
      go_wp2
      go_ret
      exact ⟨by rw [hr.out]; rfl, hb⟩
set_option maxHeartbeats 1000000 in
set_option maxRecDepth 100000 in
theorem indexM_any (K : Nat) (caps : Array Value) (p : List Int → Bool) (L : Value) (ls : List (List Int)) (w : World)
    (hcf : ∀ (args : Array Value) (w1 : World), (Sem.run Try.prog (callFunc K args) w1) = .ok (.enter K args) w1)
    (hcl : ∀ v x w1, x ∈ ls → Below w.heap.size w w1 → IntsAt w1 w.heap.size v x → Calls Try.prog K (#[v] ++ caps) w1 fun e w' => e = .returned (.bool (p x)) ∧ Below w1.heap.size w1 w')
    (hL : MatAt w w.heap.size L ls) :
    Calls Try.prog 45 #[L, .func (.func K) #[] caps] w fun e w' => e = .returned (.int .i64 (firstI p ls)) ∧ Below w.heap.size w w' := by
  have hat := Lib.hid (fun (j : Nat) (x : List Int) (h : ls[j]? = some x) (hn : (ls.take j).any p = false) (hp : p x = true) => firstI_at h hn hp)
  have hno := Lib.hid (fun (h : ls.any p = false) => firstI_none h)
  obtain ⟨A, c, rfl, hlen, hA⟩ := hL
  go_enter Try.func45, Try.ntmps45
  go_wp2
  go_loopw [5, 8] (fun _ t wr => ∃ j : Nat, j ≤ ls.length ∧ t = .int .i64 j ∧ Hid ((ls.take j).any p = false) ∧ Below w.heap.size w wr) (fun _ t _ => ls.length - (intOf t).toNat)
  case atStart => exact ⟨0, by omega, rfl, Lib.hid (by simp), Below.refl _ _⟩
  case round =>
    obtain ⟨j, hj, rfl, hH, hb⟩ := hrel
    by_cases hlt : j < ls.length
    · obtain ⟨b, off, rfl, hB, hc⟩ := hA (by omega)
      obtain ⟨l, hl⟩ : ∃ l, ls[j]? = some l := ⟨_, List.getElem?_eq_getElem hlt⟩
      obtain ⟨ov, c0, hi⟩ := hc j l hl
      have d0 := (hb.cell (p := ⟨b, off + j, none⟩) hB).trans c0
      have hgl := Lib.hid hl
      have HX := hcl ov l wr (List.mem_of_getElem? hl) hb (hi.below hb)
      obtain ⟨A3, c3, rfl, -, -⟩ := hi
      clear hc hl hcl c0 hA
      cases hp : p l
      · rw [hp] at HX
        have hp' := Lib.hid hp
        clear hp
        go_wp2_with fail
        refine HX.mono ?_
        rintro e w1 ⟨rfl, hb1⟩
        have hB1 := hb.trans (hb1.mono hb.size)
        clear hb1
        go_wp2
        go_roundw
        case rel => exact ⟨j + 1, by omega, by go_num, Lib.hid (any_take_succ hgl.out hH.out hp'.out), hB1⟩
        case measure => simp [intOf]; omega
      · rw [hp] at HX
        have hr := Lib.hid (hat.out j l hgl.out hH.out hp)
        clear hp
        go_wp2_with fail
        refine HX.mono ?_
        rintro e w1 ⟨rfl, hb1⟩
        have hB1 := hb.trans (hb1.mono hb.size)
        clear hb1
        go_wp2
        go_ret
        exact ⟨by rw [hr.out]; rfl, hB1⟩
    · have e : j = ls.length := by omega
      subst e
      have hr := Lib.hid (hno.out (by have := hH.out; rwa [List.take_length] at this))
      clear hA hcl hcf
      go_wp2
      go_ret
      exact ⟨by rw [hr.out]; rfl, hb⟩
theorem containsM_any (K : Nat) (caps : Array Value) (p : List Int → Bool) (L : Value) (ls : List (List Int)) (w : World)
    (hcf : ∀ (args : Array Value) (w1 : World), (Sem.run Try.prog (callFunc K args) w1) = .ok (.enter K args) w1)
    (hcl : ∀ v x w1, x ∈ ls → Below w.heap.size w w1 → IntsAt w1 w.heap.size v x → Calls Try.prog K (#[v] ++ caps) w1 fun e w' => e = .returned (.bool (p x)) ∧ Below w1.heap.size w1 w')
    (hL : MatAt w w.heap.size L ls) :
    Calls Try.prog 40 #[L, .func (.func K) #[] caps] w fun e w' => e = .returned (.bool (ls.any p)) ∧ Below w.heap.size w w' := by
  have H := indexM_any K caps p L ls w hcf hcl hL
  have hr := Lib.hid (firstI_ge p ls)
  clear hL hcl hcf
  generalize firstI p ls = n at *
  go_enter Try.func40, Try.ntmps40
  go_wp2_with fail
  refine H.mono ?_
  rintro e w1 ⟨rfl, hb1⟩
  go_wp2
  go_ret
  exact ⟨by rw [← hr.out]; rfl, hb1⟩
theorem crit1_any13 (w : World) (v V : Value) (cols : Int) (b : Nat) (l : List Int) (hb : w.heap[b]? = some (mtb cols V)) (hv : IntsAt w w.heap.size v l) (hc0 : 0 ≤ cols) (hc1 : cols ≤ 4000) :
    Calls Try.prog 42 #[v, .pointer (some ⟨b, 0, none⟩)] w fun e w' => e = .returned (.bool (!rightR cols l)) ∧ Below w.heap.size w w' := by
  have H := incr13_any w v cols l hv hc0 hc1
  obtain ⟨A, c, rfl, -, -⟩ := hv
  generalize rightR cols l = q at *
  unfold mtb at hb
  obtain ⟨m0, m1, -⟩ := now2 hb rfl
  go_enter Try.func42, Try.ntmps42
  go_wp2_with fail
  refine H.mono ?_
  rintro e w1 ⟨rfl, hb1⟩
  go_wp2
  go_ret
  exact ⟨rfl, hb1⟩
set_option maxHeartbeats 1000000 in
set_option maxRecDepth 100000 in
theorem cright13 : RightV := by
  intro n L ls w hL
  have hB0 := below_alloc1 w (mtb n L)
  have hbu : (w.alloc (mtb n L)).heap[w.heap.size]? = some (mtb n L) := heap_alloc_new _ _
  have hmf : ∀ (fn : Fn) (first cap : Array Value) (w : World), (Instr.makeFunc fn first cap).run Try.prog w = .ok (.func fn first cap) w := fun _ _ _ _ => rfl
  have hbu' := hbu
  unfold mtb at hbu'
  obtain ⟨m0, m1, -⟩ := now2 hbu' rfl
  by_cases h1 : n < 0
  · have hr : Hid (rightM n ls = false) := Lib.hid (by unfold rightM; rw [decide_eq_false (by omega)]; rfl)
    have hd : decide (n < 0) = true := decide_eq_true h1
    obtain ⟨A, c, rfl, -, -⟩ := hL
    unfold mtv
    unfold mtb at *
    clear hbu
    go_enter Try.func23, Try.ntmps23
    go_wp2
    go_ret
    exact ⟨by rw [hr.out]; rfl, hB0⟩
  have hd : decide (n < 0) = false := decide_eq_false h1
  by_cases h2 : 4000 < n
  · have hr : Hid (rightM n ls = false) := Lib.hid (by unfold rightM; rw [decide_eq_false (show ¬ n ≤ 4000 by omega), Bool.and_false]; rfl)
    have hd2 : decide (4000 < n) = true := decide_eq_true h2
    obtain ⟨A, c, rfl, -, -⟩ := hL
    unfold mtv
    unfold mtb at *
    clear hbu
    go_enter Try.func23, Try.ntmps23
    go_wp2
    go_ret
    exact ⟨by rw [hr.out]; rfl, hB0⟩
  have hd2 : decide (4000 < n) = false := decide_eq_false h2
  have hr : Hid ((!(ls.any fun l => !rightR n l)) = rightM n ls) := Lib.hid (by
    unfold rightM
    rw [decide_eq_true (show 0 ≤ n by omega), decide_eq_true (show n ≤ 4000 by omega), Bool.true_and, Bool.true_and, List.not_any_eq_all_not]
    simp)
  have H := containsM_any 42 #[.pointer (some ⟨w.heap.size, 0, none⟩)] (fun l => !rightR n l) L ls (w.alloc (mtb n L)) (fun _ _ => by kernel_rfl)
    (fun v x w1 _ hb hi => crit1_any13 w1 v L n w.heap.size x (keep_blk hb hbu) (hi.more hb.size) (by omega) (by omega))
    ((hL.below hB0).more hB0.size)
  obtain ⟨A, c, rfl, -, -⟩ := hL
  generalize (ls.any fun l => !rightR n l) = q at *
  unfold mtv
  unfold mtb at *
  clear hbu
  go_enter Try.func23, Try.ntmps23
  go_wp2_with fail
  refine H.mono ?_
  rintro e w1 ⟨rfl, hb1⟩
  go_wp2
  go_ret
  exact ⟨by rw [← hr.out]; rfl, hB0.trans (hb1.mono hB0.size)⟩
end Go.Proofs.Ytjjpobpcpgcbaaa
