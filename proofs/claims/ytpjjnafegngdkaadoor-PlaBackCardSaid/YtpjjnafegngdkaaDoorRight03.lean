/- Which tables are right, by the program: between, the lines' closures, ContainsFunc over numbers and over lines, rightLine, Right. -/
import Derived.Test.YtpjjnafegngdkaaDoorTab03
namespace Go.Proofs.YtpjjnafegngdkaaDoor
open Go.RowKit Go.Joins

def firstI {α : Type} (p : α → Bool) (l : List α) : Int := match l.findIdx? p with | some k => k | none => -1
theorem firstI_at {α : Type} {p : α → Bool} {l : List α} {k : Nat} {x : α} (h : l[k]? = some x) (hn : (l.take k).any p = false) (hp : p x = true) : firstI p l = k := by
  unfold firstI
  have hk : k < l.length := (List.getElem?_eq_some_iff.1 h).1
  have : l.findIdx? p = some k := by
    rw [List.findIdx?_eq_some_iff_getElem]
    refine ⟨hk, by rw [(List.getElem?_eq_some_iff.1 h).2]; exact hp, fun j hj => ?_⟩
    rw [List.any_eq_false] at hn
    have := hn (l[j]) (List.mem_iff_getElem.2 ⟨j, by simp; omega, by simp⟩)
    simpa using this
  rw [this]
theorem firstI_none {α : Type} {p : α → Bool} {l : List α} (h : l.any p = false) : firstI p l = -1 := by
  unfold firstI
  have : l.findIdx? p = none := by
    rw [List.findIdx?_eq_none_iff]
    intro x hx
    rw [List.any_eq_false] at h
    simpa using h x hx
  rw [this]
theorem firstI_ge {α : Type} (p : α → Bool) (l : List α) : decide (0 ≤ firstI p l) = l.any p := by
  cases h : l.any p
  · rw [firstI_none h]; rfl
  · unfold firstI
    cases hf : l.findIdx? p with
    | none =>
      rw [List.findIdx?_eq_none_iff] at hf
      rw [List.any_eq_true] at h
      obtain ⟨x, hx, hp⟩ := h
      rw [hf x hx] at hp
      cases hp
    | some k => simp
theorem any_take_succ {α : Type} {p : α → Bool} {l : List α} {k : Nat} {x : α} (h : l[k]? = some x) (hn : (l.take k).any p = false) (hp : p x = false) : (l.take (k + 1)).any p = false := by
  have hk : k < l.length := (List.getElem?_eq_some_iff.1 h).1
  rw [List.take_succ_eq_append_getElem hk, List.any_append, hn]
  have : l[k] = x := (List.getElem?_eq_some_iff.1 h).2
  simp [this, hp]
theorem between_any (n a b : Int) (w : World) : Calls Tryd.prog 21 #[.int .i64 n, .int .i64 a, .int .i64 b] w fun e w' => e = .returned (.bool (decide (a ≤ n) && decide (n ≤ b))) ∧ w = w' := by
  by_cases h : a ≤ n
  · go_enter Tryd.func21, Tryd.ntmps21
    go_wp2
    all_goals
      go_ret
      exact ⟨ret_bool (by first | (simp [*]; done) | (simp [*]; omega)), rfl⟩
  · go_enter Tryd.func21, Tryd.ntmps21
    go_wp2
    all_goals
      go_ret
      exact ⟨ret_bool (by first | (simp [*]; done) | (simp [*]; omega)), rfl⟩
theorem badOut_any (x : Int) (w : World) : Calls Tryd.prog 43 #[.int .i64 x] w fun e w' => e = .returned (.bool (!okOut x)) ∧ w = w' := by
  have H := fun w => between_any x 0 2 w
  have e : Hid ((decide (0 ≤ x) && decide (x ≤ 2)) = okOut x) := Lib.hid rfl
  rw [e.out] at H
  generalize okOut x = q at *
  clear e
  go_enter Tryd.func43, Tryd.ntmps43
  go_wp2_with fail
  refine (H _).mono ?_
  rintro e w1 ⟨rfl, rfl⟩
  go_wp2
  go_ret
  exact ⟨rfl, rfl⟩
set_option maxHeartbeats 1000000 in
theorem indexInts_any (K : Nat) (p : Int → Bool) (A : Option Addr) (c : Nat) (o : List Int) (w : World)
    (hcf : ∀ (args : Array Value) (w1 : World), (Sem.run Tryd.prog (callFunc K args) w1) = .ok (.enter K args) w1)
    (hcl : ∀ x w1, Calls Tryd.prog K #[.int .i64 x] w1 fun e w' => e = .returned (.bool (p x)) ∧ w1 = w')
    (hlen : o.length ≤ 9223372036854775807) (hA : 0 < o.length → ∃ b off, A = some ⟨b, off, none⟩ ∧ b < w.heap.size ∧ ∀ j x, o[j]? = some x → w.cell? ⟨b, off + j, none⟩ = some (.int .i64 x)) :
    Calls Tryd.prog 56 #[.slice A o.length c, .func (.func K) #[] #[]] w fun e w' => e = .returned (.int .i64 (firstI p o)) ∧ w = w' := by
  have hat := Lib.hid (fun (j : Nat) (x : Int) (h : o[j]? = some x) (hn : (o.take j).any p = false) (hp : p x = true) => firstI_at h hn hp)
  have hno := Lib.hid (fun (h : o.any p = false) => firstI_none h)
  go_enter Tryd.func56, Tryd.ntmps56
  go_wp2
  go_loop [5, 8] (fun _ t => ∃ j : Nat, j ≤ o.length ∧ t = .int .i64 j ∧ Hid ((o.take j).any p = false)) (fun _ t => o.length - (intOf t).toNat)
  case atStart => exact ⟨0, by omega, rfl, Lib.hid (by simp)⟩
  case round =>
    obtain ⟨j, hj, rfl, hH⟩ := hrel
    by_cases hlt : j < o.length
    · obtain ⟨b, off, rfl, hB, hc⟩ := hA (by omega)
      obtain ⟨x, hx⟩ : ∃ x, o[j]? = some x := ⟨_, List.getElem?_eq_getElem hlt⟩
      have hcx := hc j x hx
      have hgx := Lib.hid hx
      have HX := hcl x
      clear hc hx hcl
      cases hp : p x
      · rw [hp] at HX
        have hp' := Lib.hid hp
        clear hp
        go_wp2_with fail
        refine (HX _).mono ?_
        rintro e w1 ⟨rfl, rfl⟩
        go_wp2
        go_round
        case rel => exact ⟨j + 1, by omega, by go_num, Lib.hid (any_take_succ hgx.out hH.out hp'.out)⟩
        case measure => simp [intOf]; omega
      · rw [hp] at HX
        have hr := Lib.hid (hat.out j x hgx.out hH.out hp)
        clear hp
        go_wp2_with fail
        refine (HX _).mono ?_
        rintro e w1 ⟨rfl, rfl⟩
        go_wp2
        go_ret
        exact ⟨by rw [hr.out]; rfl, rfl⟩
    · have e : j = o.length := by omega
      subst e
      have hr := Lib.hid (hno.out (by have := hH.out; rwa [List.take_length] at this))
      clear hA hcl hcf
      go_wp2
      go_ret
      exact ⟨by rw [hr.out]; rfl, rfl⟩
theorem containsInts_any (K : Nat) (p : Int → Bool) (O : Value) (o : List Int) (w : World)
    (hcf : ∀ (args : Array Value) (w1 : World), (Sem.run Tryd.prog (callFunc K args) w1) = .ok (.enter K args) w1)
    (hcl : ∀ x w1, Calls Tryd.prog K #[.int .i64 x] w1 fun e w' => e = .returned (.bool (p x)) ∧ w1 = w')
    (hO : IntsAt w w.heap.size O o) :
    Calls Tryd.prog 42 #[O, .func (.func K) #[] #[]] w fun e w' => e = .returned (.bool (o.any p)) ∧ w = w' := by
  obtain ⟨A, c, rfl, hlen, hA⟩ := hO
  have H := indexInts_any K p A c o w hcf hcl hlen hA
  have hr := Lib.hid (firstI_ge p o)
  clear hA hcl hcf
  generalize firstI p o = n at *
  go_enter Tryd.func42, Tryd.ntmps42
  go_wp2_with fail
  refine H.mono ?_
  rintro e w1 ⟨rfl, rfl⟩
  go_wp2
  go_ret
  exact ⟨by rw [← hr.out]; rfl, rfl⟩
theorem le0 (w : World) : w.heap.size ≤ w.heap.size := Nat.le_refl _
set_option maxHeartbeats 1000000 in
set_option maxRecDepth 100000 in
theorem rightLine_any (m v : BitVec 8) (O : Value) (o : List Int) (i n : Int) (w : World) (hO : IntsAt w w.heap.size O o) :
    Calls Tryd.prog 24 #[lv m v O, .int .i64 i, .int .i64 n] w fun e w' => e = .returned (.bool (lineB ⟨m, v, o⟩ i n)) ∧ Below w.heap.size w w' := by
  have HR := fun w => right_any m v i w
  have hl : Hid (lineB ⟨m, v, o⟩ i n = (rightB m v i && decide ((o.length : Int) = n) && !(o.any fun x => !okOut x))) := Lib.hid (by
    unfold lineB; congr 1; rw [List.not_any_eq_all_not]; congr 1; funext x; simp)
  unfold lv cv bvv at *
  cases hr : rightB m v i
  · rw [hr] at HR
    have hl2 : Hid (lineB ⟨m, v, o⟩ i n = false) := Lib.hid (by rw [hl.out, hr]; rfl)
    clear hr hl hO
    go_enter Tryd.func24, Tryd.ntmps24
    go_wp2_with fail
    refine (HR _).mono ?_
    rintro e w1 ⟨rfl, hb1⟩
    have hB1 : Below w.heap.size w w1 := (below_alloc1 w _).trans (hb1.mono (by simp))
    clear hb1 HR
    go_wp2
    go_ret
    exact ⟨by rw [hl2.out]; rfl, hB1⟩
  · rw [hr] at HR
    have hl2 : Hid (lineB ⟨m, v, o⟩ i n = (decide ((o.length : Int) = n) && !(o.any fun x => !okOut x))) := Lib.hid (by rw [hl.out, hr]; rfl)
    clear hr hl
    obtain ⟨A, c, rfl, hlen, -⟩ := id hO
    go_enter Tryd.func24, Tryd.ntmps24
    go_wp2_with fail
    refine (HR _).mono ?_
    rintro e w1 ⟨rfl, hb1⟩
    have hB1 : Below w.heap.size w w1 := (below_alloc1 w _).trans (hb1.mono (by simp))
    have ha1 := (keep_blk hb1 (heap_alloc_new _ _) : w1.heap[w.heap.size]? = some (.cells #[.int .u8 m.toNat, .int .u8 v.toNat, .slice A o.length c] 39 (0, 0)))
    obtain ⟨-, -, a2, -⟩ := now3 ha1 rfl
    have hO1 : IntsAt w1 w1.heap.size (.slice A o.length c) o := (hO.below hB1).more hB1.size
    have HC := containsInts_any 43 (fun x => !okOut x) (.slice A o.length c) o w1 (fun _ _ => by kernel_rfl) badOut_any hO1
    clear hb1 HR hO hO1 ha1
    generalize (o.any fun x => !okOut x) = q at *
    by_cases hn : (o.length : Int) = n
    · have hl3 : Hid (lineB ⟨m, v, o⟩ i n = !q) := Lib.hid (by rw [hl2.out]; simp [hn])
      subst hn
      clear hl2
      go_wp2_with fail
      refine HC.mono ?_
      rintro e w2 ⟨rfl, rfl⟩
      clear HC
      go_wp2
      go_ret
      exact ⟨by rw [hl3.out]; rfl, hB1⟩
    · have hl3 : Hid (lineB ⟨m, v, o⟩ i n = false) := Lib.hid (by rw [hl2.out]; simp [hn])
      clear hl2 HC
      go_wp2
      go_ret
      exact ⟨by rw [hl3.out]; rfl, hB1⟩
/-- A box of four cells in a world. -/
theorem tb_now {w : World} {bt : Nat} {k i n : Int} {L : Value} (h : w.heap[bt]? = some (tb k i n L)) :
    w.cell? ⟨bt, 0, none⟩ = some (.int .i64 k) ∧ w.cell? ⟨bt, 1, none⟩ = some (.int .i64 i) ∧ w.cell? ⟨bt, 2, none⟩ = some (.int .i64 n) ∧ w.cell? ⟨bt, 3, none⟩ = some L := by
  obtain ⟨a, b, c, d, -⟩ := now4 h rfl
  exact ⟨a, b, c, d⟩
set_option maxHeartbeats 1000000 in
set_option maxRecDepth 100000 in
theorem right1_any (m v : BitVec 8) (O : Value) (o : List Int) (bt : Nat) (k i n : Int) (L : Value) (w : World) (hO : IntsAt w w.heap.size O o) (ht : w.heap[bt]? = some (tb k i n L)) :
    Calls Tryd.prog 23 #[lv m v O, .pointer (some ⟨bt, 0, none⟩)] w fun e w' => e = .returned (.bool (!lineB ⟨m, v, o⟩ i n)) ∧ Below w.heap.size w w' := by
  have HR := fun w (h : IntsAt w w.heap.size O o) => rightLine_any m v O o i n w h
  have hb := size_of_block ht
  have hO1 := (hO.below (below_alloc1 w (.cells #[bvv m, bvv v, O] 39 (0, 0)))).more (show w.heap.size ≤ (w.alloc (.cells #[bvv m, bvv v, O] 39 (0, 0))).heap.size by simp)
  have ht1 := keep_alloc (x := .cells #[bvv m, bvv v, O] 39 (0, 0)) ht
  obtain ⟨-, t1, t2, -⟩ := tb_now ht1
  generalize lineB ⟨m, v, o⟩ i n = q at *
  clear ht ht1 hO
  unfold lv bvv at *
  go_enter Tryd.func23, Tryd.ntmps23
  go_wp2_with fail
  refine (HR _ hO1).mono ?_
  rintro e w1 ⟨rfl, hb1⟩
  go_wp2
  go_ret
  exact ⟨rfl, (below_alloc1 w _).trans (hb1.mono (by simp))⟩
set_option maxHeartbeats 1000000 in
set_option maxRecDepth 100000 in
theorem indexLines_any (K : Nat) (caps : Array Value) (p : Ln → Bool) (L : Value) (ls : List Ln) (w : World)
    (hcf : ∀ (args : Array Value) (w1 : World), (Sem.run Tryd.prog (callFunc K args) w1) = .ok (.enter K args) w1)
    (hcl : ∀ m v O o w1, Below w.heap.size w w1 → IntsAt w1 w1.heap.size O o → Calls Tryd.prog K (#[lv m v O] ++ caps) w1 fun e w' => e = .returned (.bool (p ⟨m, v, o⟩)) ∧ Below w1.heap.size w1 w')
    (hL : LinesAt w w.heap.size L ls) :
    Calls Tryd.prog 41 #[L, .func (.func K) #[] caps] w fun e w' => e = .returned (.int .i64 (firstI p ls)) ∧ Below w.heap.size w w' := by
  have hat := Lib.hid (fun (j : Nat) (x : Ln) (h : ls[j]? = some x) (hn : (ls.take j).any p = false) (hp : p x = true) => firstI_at h hn hp)
  have hno := Lib.hid (fun (h : ls.any p = false) => firstI_none h)
  obtain ⟨A, c, rfl, hlen, hA⟩ := hL
  unfold lv at hcl
  go_enter Tryd.func41, Tryd.ntmps41
  go_wp2
  go_loopw [5, 8] (fun _ t wr => ∃ j : Nat, j ≤ ls.length ∧ t = .int .i64 j ∧ Hid ((ls.take j).any p = false) ∧ Below w.heap.size w wr) (fun _ t _ => ls.length - (intOf t).toNat)
  case atStart => exact ⟨0, by omega, rfl, Lib.hid (by simp), Below.refl _ _⟩
  case round =>
    obtain ⟨j, hj, rfl, hH, hb⟩ := hrel
    by_cases hlt : j < ls.length
    · obtain ⟨b, off, rfl, hB, hc⟩ := hA (by omega)
      obtain ⟨l, hl⟩ : ∃ l, ls[j]? = some l := ⟨_, List.getElem?_eq_getElem hlt⟩
      obtain ⟨ov, c0, c1, c2, hO⟩ := hc j l hl
      have d0 := (hb.cell (p := ⟨b, off + j * 3, none⟩) hB).trans c0
      have d1 := (hb.cell (p := ⟨b, off + j * 3 + 1, none⟩) hB).trans c1
      have d2 := (hb.cell (p := ⟨b, off + j * 3 + 2, none⟩) hB).trans c2
      have hgl := Lib.hid hl
      have HX := hcl l.m l.v ov l.o wr hb ((hO.below hb).more hb.size)
      unfold bvv at *
      clear hc hl hcl c0 c1 c2 hO hA
      cases hp : p ⟨l.m, l.v, l.o⟩
      · rw [hp] at HX
        have hp' := Lib.hid hp
        clear hp
        go_wp2_with fail
        refine HX.mono ?_
        rintro e w1 ⟨rfl, hb1⟩
        have hB1 := hb.trans (hb1.mono hb.size)
        clear hb1
        go_wp2
        go_roundw
        case rel => exact ⟨j + 1, by omega, by go_num, Lib.hid (any_take_succ hgl.out hH.out hp'.out), hB1⟩
        case measure => simp [intOf]; omega
      · rw [hp] at HX
        have hr := Lib.hid (hat.out j l hgl.out hH.out hp)
        clear hp
        go_wp2_with fail
        refine HX.mono ?_
        rintro e w1 ⟨rfl, hb1⟩
        have hB1 := hb.trans (hb1.mono hb.size)
        clear hb1
        go_wp2
        go_ret
        exact ⟨by rw [hr.out]; rfl, hB1⟩
    · have e : j = ls.length := by omega
      subst e
      have hr := Lib.hid (hno.out (by have := hH.out; rwa [List.take_length] at this))
      clear hA hcl hcf
      go_wp2
      go_ret
      exact ⟨by rw [hr.out]; rfl, hb⟩
theorem containsLines_any (K : Nat) (caps : Array Value) (p : Ln → Bool) (L : Value) (ls : List Ln) (w : World)
    (hcf : ∀ (args : Array Value) (w1 : World), (Sem.run Tryd.prog (callFunc K args) w1) = .ok (.enter K args) w1)
    (hcl : ∀ m v O o w1, Below w.heap.size w w1 → IntsAt w1 w1.heap.size O o → Calls Tryd.prog K (#[lv m v O] ++ caps) w1 fun e w' => e = .returned (.bool (p ⟨m, v, o⟩)) ∧ Below w1.heap.size w1 w')
    (hL : LinesAt w w.heap.size L ls) :
    Calls Tryd.prog 22 #[L, .func (.func K) #[] caps] w fun e w' => e = .returned (.bool (ls.any p)) ∧ Below w.heap.size w w' := by
  have H := indexLines_any K caps p L ls w hcf hcl hL
  have hr := Lib.hid (firstI_ge p ls)
  clear hL hcl hcf
  generalize firstI p ls = n at *
  go_enter Tryd.func22, Tryd.ntmps22
  go_wp2_with fail
  refine H.mono ?_
  rintro e w1 ⟨rfl, hb1⟩
  go_wp2
  go_ret
  exact ⟨by rw [← hr.out]; rfl, hb1⟩
end Go.Proofs.YtpjjnafegngdkaaDoor
