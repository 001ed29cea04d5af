/- Package search: whether a row has no column, what is refused, numbers and counts. Layer 15, plain: choices, what they stand for, and what becomes of them when they are reduced. -/
import Derived.Test.YtcbhcclickjpnaaGK04
import Derived.Test.YtcbhcclickjpnaaGK05
import Derived.Test.YtcbhcclickjpnaaGK08
namespace Go.Proofs.Ytcbhcclickjpnaa
open Go.RowKit Go.Joins

set_option maxRecDepth 100000 in
theorem hop1_any15 (v : Value) (l : List Int) (w : World) (hv : IntsAt w w.heap.size v l) :
    Calls Try.prog 51 #[v] w fun e w' => e = .returned (.bool (decide (l.length = 0))) ∧ Below w.heap.size w w' := by
  obtain ⟨A, c, rfl, hl, -⟩ := hv
  have hd : (((l.length : Nat) : Int) == 0) = decide (l.length = 0) := by
    rw [Bool.eq_iff_iff]; simp
  generalize decide (l.length = 0) = q at *
  go_enter Try.func51, Try.ntmps51
  go_wp2
  go_ret
  exact ⟨rfl, Below.refl _ _⟩
set_option maxRecDepth 100000 in
theorem hopeless15_any (n : Int) (V : Value) (ls : List (List Int)) (w : World) (hV : MatAt w w.heap.size V ls) :
    Calls Try.prog 37 #[mtv n V] w fun e w' => e = .returned (.bool (bareB ls)) ∧ Below w.heap.size w w' := by
  have hB0 := below_alloc1 w (mtb n V)
  have hbu : (w.alloc (mtb n V)).heap[w.heap.size]? = some (mtb n V) := heap_alloc_new _ _
  have H : Calls Try.prog 29 #[V, .func (.func 51) #[] #[]] (w.alloc (mtb n V)) fun e w' => e = .returned (.bool (bareB ls)) ∧ Below (w.alloc (mtb n V)).heap.size (w.alloc (mtb n V)) w' :=
    containsM_any 51 #[] (fun r => decide (r.length = 0)) V ls _ (fun _ _ => by kernel_rfl) (fun v x w1 hx hb hi => hop1_any15 v x w1 (hi.more hb.size)) ((hV.below hB0).more hB0.size)
  generalize bareB ls = q at *
  obtain ⟨A, c, rfl, -, -⟩ := hV
  unfold mtv
  unfold mtb at *
  obtain ⟨m0, m1, -⟩ := now2 hbu rfl
  go_enter Try.func37, Try.ntmps37
  go_wp2_with fail
  refine H.mono ?_
  rintro e w1 ⟨rfl, hb1⟩
  go_wp2
  go_ret
  exact ⟨rfl, hB0.trans (hb1.mono hB0.size)⟩
def refI (n : Int) (ls : List (List Int)) : Int := if rightM n ls = true then if bareB ls = true then 7 else 0 else 1
set_option maxRecDepth 100000 in
theorem refused15_any (n : Int) (V : Value) (ls : List (List Int)) (w : World) (hV : MatAt w w.heap.size V ls) :
    Calls Try.prog 24 #[mtv n V] w fun e w' => e = .returned (.int .i64 (refI n ls)) ∧ Below w.heap.size w w' := by
  have hB0 := below_alloc1 w (mtb n V)
  have hbu : (w.alloc (mtb n V)).heap[w.heap.size]? = some (mtb n V) := heap_alloc_new _ _
  have HR := cright13 n V ls _ ((hV.below hB0).more hB0.size)
  have HH := fun w1 (hb : Below (w.alloc (mtb n V)).heap.size (w.alloc (mtb n V)) w1) => hopeless15_any n V ls w1 ((hV.below (hB0.trans (hb.mono hB0.size))).more (hB0.trans (hb.mono hB0.size)).size)
  have hr : Hid (refI n ls = if rightM n ls = true then if bareB ls = true then 7 else 0 else 1) := Lib.hid rfl
  generalize refI n ls = R at *
  obtain ⟨A, c, rfl, -, -⟩ := hV
  unfold mtv at *
  unfold mtb at *
  obtain ⟨m0, m1, -⟩ := now2 hbu rfl
  cases h1 : rightM n ls
  · rw [h1] at HR hr
    have hR : Hid (R = 1) := Lib.hid (by rw [hr.out]; rfl)
    clear hr h1 HH
    go_enter Try.func24, Try.ntmps24
    go_wp2_with fail
    refine HR.mono ?_
    rintro e w1 ⟨rfl, hb1⟩
    go_wp2
    go_ret
    exact ⟨by rw [hR.out]; rfl, hB0.trans (hb1.mono hB0.size)⟩
  · rw [h1] at HR hr
    cases h2 : bareB ls
    · rw [h2] at HH hr
      have hR : Hid (R = 0) := Lib.hid (by rw [hr.out]; rfl)
      clear hr h1 h2
      go_enter Try.func24, Try.ntmps24
      go_wp2_with fail
      refine HR.mono ?_
      rintro e w1 ⟨rfl, hb1⟩
      have H2 := HH w1 hb1
      have hB1 := hB0.trans (hb1.mono hB0.size)
      have hbu1 := keep_blk hb1 hbu
      clear HH HR m0 m1
      obtain ⟨m0, m1, -⟩ := now2 hbu1 rfl
      go_wp2_with fail
      refine H2.mono ?_
      rintro e w2 ⟨rfl, hb2⟩
      go_wp2
      go_ret
      exact ⟨by rw [hR.out]; rfl, hB1.trans (hb2.mono hB1.size)⟩
    · rw [h2] at HH hr
      have hR : Hid (R = 7) := Lib.hid (by rw [hr.out]; rfl)
      clear hr h1 h2
      go_enter Try.func24, Try.ntmps24
      go_wp2_with fail
      refine HR.mono ?_
      rintro e w1 ⟨rfl, hb1⟩
      have H2 := HH w1 hb1
      have hB1 := hB0.trans (hb1.mono hB0.size)
      have hbu1 := keep_blk hb1 hbu
      clear HH HR m0 m1
      obtain ⟨m0, m1, -⟩ := now2 hbu1 rfl
      go_wp2_with fail
      refine H2.mono ?_
      rintro e w2 ⟨rfl, hb2⟩
      go_wp2
      go_ret
      exact ⟨by rw [hR.out]; rfl, hB1.trans (hb2.mono hB1.size)⟩
/-- The numbers below k. -/
def upTo (k : Nat) : List Int := (List.range k).map fun j : Nat => (j : Int)
set_option maxRecDepth 100000 in
theorem counted15_any (k : Nat) (hk : k ≤ 4000) (w : World) :
    Calls Try.prog 32 #[.int .i64 k] w fun e w' => ∃ bt, e = .returned (.slice (some ⟨bt, 0, none⟩) k k) ∧ w.heap.size ≤ bt ∧ w'.heap[bt]? = some (celO 3 k fun p => .int .i64 p) ∧ Below w.heap.size w w' := by
  have hmk := fun w => make_ints14 k (by omega) w
  have hB1 := below_alloc1 w (celO 3 k fun _ => .int .i64 0)
  have ha := heap_alloc_new w (celO 3 k fun _ => .int .i64 0)
  go_enter Try.func32, Try.ntmps32
  go_wp2
  generalize w.alloc _ = w1 at *
  generalize hgb : w.heap.size = gb at *
  have hgbH := Lib.hid hgb
  clear hgb
  go_loopw [4, 9] (fun _ t wr => ∃ j : Nat, j ≤ k ∧ t = .int .i64 j ∧ wr.heap[gb]? = some (celO 3 k fun p => .int .i64 (if p < j then (p : Int) else 0)) ∧ Below gb w wr) (fun _ t _ => k - (intOf t).toNat)
  case atStart => exact ⟨0, by omega, rfl, by simpa using ha, hB1⟩
  case round =>
    clear ha hB1
    obtain ⟨j, hj, rfl, hg, hb⟩ := hrel
    by_cases hlt : j < k
    · obtain ⟨y0, yf⟩ := cel_cell hg hlt
      have hg2 : (wr.setCell ⟨gb, j, none⟩ (.int .i64 j)).heap[gb]? = some (celO 3 k fun p => .int .i64 (if p < j + 1 then (p : Int) else 0)) := by
        refine (cel_set hg _).trans (congrArg some (celO_ext fun z hz => ?_))
        by_cases e : z = j
        · subst e; rw [if_pos rfl, if_pos (by omega)]
        · rw [if_neg e]
          by_cases h2 : z < j
          · rw [if_pos h2, if_pos (by omega)]
          · rw [if_neg h2, if_neg (by omega)]
      have hb2 := hb.setCell (p := ⟨gb, j, none⟩) (Nat.le_refl gb) (.int .i64 (j : Int))
      have j0 : (0 : Int) ≤ (j : Int) := by omega
      have j1 : (j : Int) < (k : Int) := by omega
      clear hg hb
      go_wp2
      go_roundw
      case rel => exact ⟨j + 1, by omega, by go_num, hg2, hb2⟩
      case measure => simp [intOf]; omega
    · have e : j = k := by omega
      subst e
      have hkd : ¬ (j : Int) < (j : Int) := by omega
      have hg2 : wr.heap[gb]? = some (celO 3 j fun p => .int .i64 p) := by
        rw [hg]
        exact congrArg some (celO_ext fun z hz => by rw [if_pos hz])
      clear hg
      go_wp2
      go_ret
      exact ⟨_, rfl, by rw [hgbH.out]; exact Nat.le_refl _, hg2, by rw [hgbH.out]; exact hb⟩
theorem upTo_get {k j : Nat} {x : Int} (h : (upTo k)[j]? = some x) : j < k ∧ x = j := by
  unfold upTo at h
  rw [List.getElem?_map] at h
  obtain ⟨i, hi, rfl⟩ := Option.map_eq_some_iff.1 h
  have := (List.getElem?_eq_some_iff.1 hi).1
  rw [List.length_range] at this
  rw [List.getElem?_range this] at hi
  injection hi with hi
  subst hi
  exact ⟨this, rfl⟩
theorem upTo_len (k : Nat) : (upTo k).length = k := by unfold upTo; simp
theorem upTo_mem {k : Nat} {x : Int} : x ∈ upTo k ↔ 0 ≤ x ∧ x < k := by
  unfold upTo
  rw [List.mem_map]
  constructor
  · rintro ⟨j, hj, rfl⟩
    have := List.mem_range.1 hj
    omega
  · intro h
    exact ⟨x.toNat, List.mem_range.2 (by omega), by omega⟩
/-- Cells of numbers, as a list. -/
theorem cel_intsN15 {w : World} {N : Nat → Prop} {bt n : Nat} {f : Nat → Value} {l : List Int} (h : w.heap[bt]? = some (celO 3 n f)) (hl : l.length = n) (hn : n ≤ 1000000) (hf : ∀ j x, l[j]? = some x → f j = .int .i64 x) (hN : N bt) : IntsN w N (.slice (some ⟨bt, 0, none⟩) n n) l := by
  subst hl
  refine ⟨_, _, rfl, by omega, fun _ => ⟨bt, 0, rfl, hN, fun j x hx => ?_⟩⟩
  have hj := (List.getElem?_eq_some_iff.1 hx).1
  rw [Nat.zero_add, (cel_cell h hj).1, hf j x hx]
theorem upTo_ints15 {w : World} {N : Nat → Prop} {bt k : Nat} (h : w.heap[bt]? = some (celO 3 k fun p => .int .i64 p)) (hk : k ≤ 4000) (hN : N bt) : IntsN w N (.slice (some ⟨bt, 0, none⟩) k k) (upTo k) :=
  cel_intsN15 h (upTo_len k) (by omega) (fun j x hx => by rw [(upTo_get hx).2]) hN
end Go.Proofs.Ytcbhcclickjpnaa
namespace Go.Proofs.Ytcbhcclickjpnaa
open Go.RowKit Go.Joins

def atL (l p : List Int) : List Int := p.map fun k => l.getD k.toNat 0
theorem atL_len (l p : List Int) : (atL l p).length = p.length := List.length_map _
/-- The columns that are in a row. -/
def usdT (ls : List (List Int)) : Int → Bool := fun x => ls.any fun r => decide (x ∈ r)
theorem usd_iff {ls : List (List Int)} {x : Int} : usdT ls x = true ↔ ∃ r, r ∈ ls ∧ x ∈ r := by
  unfold usdT
  rw [List.any_eq_true]
  exact ⟨fun ⟨r, h1, h2⟩ => ⟨r, h1, of_decide_eq_true h2⟩, fun ⟨r, h1, h2⟩ => ⟨r, h1, decide_eq_true h2⟩⟩
structure Cho where
  t : List Int
  nm : List Int
  ls : List (List Int)
/-- The rows by the names of their columns. -/
def Cho.N (c : Cho) : List (List Int) := c.ls.map (atL c.nm)
def SolN (L : List (List Int)) (R : List Int) : Prop := ∀ r, r ∈ L → ∃ x, x ∈ r ∧ x ∈ R
/-- The choice leads to k columns. -/
def Hop (c : Cho) (k : Nat) : Prop := ∃ T, SolT c.ls T ∧ c.t.length + crdT c.nm.length T ≤ k
/-- What is fewer than the best is still to be come to. -/
def Opn (root : Cho) (B : Nat) (stk : List Cho) : Prop := ∀ k, k < B → Hop root k → ∃ c, c ∈ stk ∧ Hop c k
def Snd (L : List (List Int)) (c : Cho) : Prop := ∀ R, SolN c.N R → SolN L (c.t ++ R)
theorem flg_succF (T : Int → Bool) (n : Nat) : flgL T (n + 1) = flgL T n ++ if T (n : Int) = true then [(n : Int)] else [] := by
  unfold flgL
  rw [List.range_succ, List.filter_append, List.map_append]
  congr 1
  by_cases h : T (n : Int) = true
  · rw [if_pos h, List.filter_cons_of_pos (by simpa using h)]; rfl
  · rw [if_neg h, List.filter_cons_of_neg (by simpa using h)]; rfl
theorem flg_get {T : Int → Bool} {x : Nat} (hT : T (x : Int) = true) : ∀ n, x < n → (flgL T n)[crdT x T]? = some (x : Int)
  | 0, h => absurd h (Nat.not_lt_zero _)
  | n + 1, h => by
    rw [flg_succF]
    by_cases e : x = n
    · subst e
      rw [List.getElem?_append_right (by rw [flg_len]; exact Nat.le_refl _), flg_len, Nat.sub_self, if_pos hT]; rfl
    · have ih := flg_get hT n (by omega)
      rw [List.getElem?_append_left (List.getElem?_eq_some_iff.1 ih).1]
      exact ih
theorem crd_mono {T : Int → Bool} {x : Nat} (hT : T (x : Int) = true) : ∀ n, x < n → crdT x T < crdT n T
  | 0, h => absurd h (Nat.not_lt_zero _)
  | n + 1, h => by
    rw [crd_succ]
    by_cases e : x = n
    · subst e; rw [if_pos hT]; omega
    · have := crd_mono hT n (by omega); omega
theorem crd_all (T : Int → Bool) (n : Nat) : crdT n T ≤ n := by
  unfold crdT
  exact Nat.le_trans List.countP_le_length (by rw [List.length_range]; exact Nat.le_refl _)
def LowM (n : Nat) (ls : List (List Int)) : Prop := ∀ r, r ∈ ls → ∀ c, c ∈ r → 0 ≤ c ∧ c < n
theorem low_of {n : Nat} {ls : List (List Int)} (h : rightM n ls = true) : LowM n ls := fun r hr => ((right_iff.1 h).2.2 r hr).1
theorem redI_of {n : Nat} {ls : List (List Int)} (h : rightM n ls = true) : RedI n ls (redL n ls).1 (redL n ls).2 := red_inv _ _ _ (red_start (low_of h))
/-- The columns that are left are columns that there were. -/
theorem red_sub {n : Nat} : ∀ (f : Nat) (t : Int → Bool) (ls : List (List Int)), ∀ r, r ∈ (redP n f t ls).2 → ∃ r0, r0 ∈ ls ∧ ∀ x, x ∈ r → x ∈ r0
  | 0, _, _, r, hr => ⟨r, hr, fun _ h => h⟩
  | f + 1, t, ls, r, hr => by
    unfold redP at hr
    split at hr
    · obtain ⟨r0, h0, h1⟩ := red_sub f _ _ r hr
      exact ⟨r0, (List.mem_filter.1 h0).1, h1⟩
    · split at hr
      · obtain ⟨r0, h0, h1⟩ := red_sub f _ _ r hr
        exact ⟨r0, List.mem_of_mem_eraseIdx h0, h1⟩
      · split at hr
        · obtain ⟨r0, h0, h1⟩ := red_sub f _ _ r hr
          obtain ⟨r1, h2, rfl⟩ := List.mem_map.1 h0
          exact ⟨r1, h2, fun x hx => (List.mem_filter.1 (h1 x hx)).1⟩
        · exact ⟨r, hr, fun _ h => h⟩
/-- Each column that is taken takes a row away. -/
theorem red_few {n : Nat} : ∀ (f : Nat) (t : Int → Bool) (ls : List (List Int)), LowM n ls → crdT n (redP n f t ls).1 + (redP n f t ls).2.length ≤ crdT n t + ls.length
  | 0, _, _, _ => Nat.le_refl _
  | f + 1, t, ls, hl => by
    unfold redP
    split
    · rename_i c hc
      have hm := tkC_some hc
      obtain ⟨c0, cn⟩ := hl _ hm c (List.mem_singleton.2 rfl)
      obtain ⟨k, rfl⟩ := Int.eq_ofNat_of_zero_le c0
      have ih := red_few f (fun x => t x || decide (x = (k : Int))) (tkR ls k) fun r hr => hl r (List.mem_filter.1 hr).1
      have h1 := crd_with (T := t) (c := k) n
      have h2 : (tkR ls (k : Int)).length < ls.length := by
        unfold tkR
        exact List.length_filter_lt_length_iff_exists.2 ⟨[(k : Int)], hm, by simp⟩
      have h3 : (if k < n then 1 else 0) ≤ 1 := by split <;> omega
      omega
    · split
      · rename_i i hi
        have ih := red_few f t (ls.eraseIdx i) fun r hr => hl r (List.mem_of_mem_eraseIdx hr)
        have := List.length_eraseIdx_le ls i
        omega
      · split
        · rename_i c hc
          have ih := red_few f t (clR ls c) fun r hr x hx => by
            obtain ⟨r1, h2, rfl⟩ := List.mem_map.1 hr
            exact hl r1 h2 x (List.mem_filter.1 hx).1
          have : (clR ls c).length = ls.length := List.length_map _
          omega
        · exact Nat.le_refl _
/-- A column that must be taken is in no row that is left, but if a row has no column. -/
theorem red_must {n : Nat} {x : Int} : ∀ (f : Nat) (t : Int → Bool) (ls : List (List Int)), ((∃ r, r ∈ ls ∧ ∀ y, y ∈ r → y = x) ∨ ∀ r, r ∈ ls → x ∉ r) →
    ((∃ r, r ∈ (redP n f t ls).2 ∧ ∀ y, y ∈ r → y = x) ∨ ∀ r, r ∈ (redP n f t ls).2 → x ∉ r)
  | 0, _, _, h => h
  | f + 1, t, ls, h => by
    unfold redP
    split
    · rename_i c hc
      refine red_must f _ _ ?_
      rcases h with ⟨r, hr, hx⟩ | h
      · by_cases e : c ∈ r
        · have := hx c e
          subst this
          exact .inr fun q hq => by
            have := (List.mem_filter.1 hq).2
            simpa using this
        · exact .inl ⟨r, List.mem_filter.2 ⟨hr, by simpa using e⟩, hx⟩
      · exact .inr fun q hq => h q (List.mem_filter.1 hq).1
    · split
      · rename_i i hi
        refine red_must f _ _ ?_
        rcases h with ⟨r, hr, hx⟩ | h
        · obtain ⟨h1, k, h2, h3, h4⟩ := rwI_some hi
          obtain ⟨j, hj, rfl⟩ := List.mem_iff_getElem.1 hr
          by_cases e : j = i
          · subst e
            have gk : ls.getD k [] = ls[k] := by rw [List.getD_eq_getElem?_getD, List.getElem?_eq_getElem h2]; rfl
            have gi : ls.getD j [] = ls[j] := by rw [List.getD_eq_getElem?_getD, List.getElem?_eq_getElem h1]; rfl
            rw [gk, gi] at h4
            exact .inl ⟨ls[k], List.mem_eraseIdx_iff_getElem.2 ⟨k, h2, h3, rfl⟩, fun y hy => hx y (h4 y hy)⟩
          · exact .inl ⟨_, List.mem_eraseIdx_iff_getElem.2 ⟨j, hj, e, rfl⟩, hx⟩
        · exact .inr fun q hq => h q (List.mem_of_mem_eraseIdx hq)
      · split
        · rename_i c hc
          refine red_must f _ _ ?_
          rcases h with ⟨r, hr, hx⟩ | h
          · exact .inl ⟨_, List.mem_map.2 ⟨r, hr, rfl⟩, fun y hy => hx y (List.mem_filter.1 hy).1⟩
          · refine .inr fun q hq hm => ?_
            obtain ⟨r1, h2, rfl⟩ := List.mem_map.1 hq
            exact h r1 h2 (List.mem_filter.1 hm).1
        · exact h
def rdR (c : Cho) : List (List Int) := (redL c.nm.length c.ls).2
/-- The new number of a column. -/
def plcI (ls : List (List Int)) (x : Int) : Int := (crdT x.toNat (usdT ls) : Nat)
def redC (c : Cho) : Cho := ⟨c.t ++ atL c.nm (takL c.nm.length c.ls), atL c.nm (flgL (usdT (rdR c)) c.nm.length), (rdR c).map fun r => r.map (plcI (rdR c))⟩
theorem redC_n (c : Cho) : (redC c).nm.length = crdT c.nm.length (usdT (rdR c)) := by
  unfold redC
  rw [atL_len, flg_len]
theorem rdR_right {c : Cho} (h : rightM c.nm.length c.ls = true) : rightM c.nm.length (rdR c) = true := red_right h
theorem plc_lt {n : Nat} {ls : List (List Int)} {r : List Int} {x : Int} (hl : LowM n ls) (hr : r ∈ ls) (hx : x ∈ r) : 0 ≤ plcI ls x ∧ plcI ls x < (crdT n (usdT ls) : Nat) := by
  obtain ⟨h0, h1⟩ := hl r hr x hx
  obtain ⟨k, rfl⟩ := Int.eq_ofNat_of_zero_le h0
  have := crd_mono (T := usdT ls) (x := k) (usd_iff.2 ⟨r, hr, hx⟩) n (by omega)
  unfold plcI
  rw [Int.toNat_natCast]
  omega
theorem redC_right {c : Cho} (h : rightM c.nm.length c.ls = true) : rightM (redC c).nm.length (redC c).ls = true := by
  have hR := rdR_right h
  obtain ⟨h1, h2, h3⟩ := right_iff.1 hR
  have hl := low_of hR
  rw [right_iff, redC_n]
  have := crd_all (usdT (rdR c)) c.nm.length
  refine ⟨by omega, by omega, fun l hm => ?_⟩
  obtain ⟨r, hr, rfl⟩ := List.mem_map.1 (show l ∈ (rdR c).map fun r => r.map (plcI (rdR c)) from hm)
  refine ⟨fun y hy => ?_, ?_⟩
  · obtain ⟨x, hx, rfl⟩ := List.mem_map.1 hy
    exact plc_lt hl hr hx
  · rw [List.pairwise_map]
    refine List.Pairwise.imp_of_mem (fun {a b} ha hb hab => ?_) (h3 r hr).2
    obtain ⟨a0, a1⟩ := hl r hr a ha
    obtain ⟨b0, b1⟩ := hl r hr b hb
    obtain ⟨p, rfl⟩ := Int.eq_ofNat_of_zero_le a0
    obtain ⟨q, rfl⟩ := Int.eq_ofNat_of_zero_le b0
    have := crd_mono (T := usdT (rdR c)) (x := p) (usd_iff.2 ⟨r, hr, ha⟩) q (by omega)
    unfold plcI
    rw [Int.toNat_natCast, Int.toNat_natCast]
    omega
/-- The new numbers have the names that the old ones had. -/
theorem redC_N {c : Cho} (h : rightM c.nm.length c.ls = true) : (redC c).N = (rdR c).map (atL c.nm) := by
  have hl := low_of (rdR_right h)
  show ((rdR c).map fun r => r.map (plcI (rdR c))).map (atL (atL c.nm (flgL (usdT (rdR c)) c.nm.length))) = _
  rw [List.map_map]
  refine List.map_congr_left fun r hr => ?_
  show atL _ (r.map (plcI (rdR c))) = atL c.nm r
  unfold atL
  rw [List.map_map]
  refine List.map_congr_left fun x hx => ?_
  obtain ⟨x0, x1⟩ := hl r hr x hx
  obtain ⟨k, rfl⟩ := Int.eq_ofNat_of_zero_le x0
  have hg := flg_get (T := usdT (rdR c)) (x := k) (usd_iff.2 ⟨r, hr, hx⟩) c.nm.length (by omega)
  show ((flgL (usdT (rdR c)) c.nm.length).map fun k => c.nm.getD k.toNat 0).getD (plcI (rdR c) k).toNat 0 = c.nm.getD (k : Int).toNat 0
  unfold plcI
  rw [Int.toNat_natCast, Int.toNat_natCast, List.getD_eq_getElem?_getD, List.getElem?_map, hg]
  rfl
theorem sol_names {_n : Nat} {nm : List Int} {ls : List (List Int)} {R : List Int} (h : SolN (ls.map (atL nm)) R) : SolT ls fun x => decide (nm.getD x.toNat 0 ∈ R) := by
  intro r hr
  obtain ⟨y, hy, hR⟩ := h _ (List.mem_map.2 ⟨r, hr, rfl⟩)
  obtain ⟨x, hx, rfl⟩ := List.mem_map.1 (show y ∈ r.map fun k => nm.getD k.toNat 0 from hy)
  exact ⟨x, hx, decide_eq_true hR⟩
theorem names_sol {nm : List Int} {ls : List (List Int)} {T : Int → Bool} {R : List Int} (h : SolT ls T) (hR : ∀ r, r ∈ ls → ∀ x, x ∈ r → T x = true → nm.getD x.toNat 0 ∈ R) : SolN (ls.map (atL nm)) R := by
  intro q hq
  obtain ⟨r, hr, rfl⟩ := List.mem_map.1 hq
  obtain ⟨x, hx, hT⟩ := h r hr
  exact ⟨_, List.mem_map.2 ⟨x, hx, rfl⟩, hR r hr x hx hT⟩
theorem redC_snd {L : List (List Int)} {c : Cho} (h : rightM c.nm.length c.ls = true) (hs : Snd L c) : Snd L (redC c) := by
  intro R hR
  rw [redC_N h] at hR
  have hI := redI_of h
  have hu := hI.up _ (sol_names (_n := c.nm.length) hR)
  have hl := low_of h
  show SolN L ((c.t ++ atL c.nm (takL c.nm.length c.ls)) ++ R)
  rw [List.append_assoc]
  refine hs _ (names_sol hu fun r hr x hx ht => ?_)
  rw [Bool.or_eq_true] at ht
  rw [List.mem_append]
  rcases ht with ht | ht
  · refine .inl (List.mem_map.2 ⟨x, ?_, rfl⟩)
    obtain ⟨x0, x1⟩ := hl r hr x hx
    obtain ⟨k, rfl⟩ := Int.eq_ofNat_of_zero_le x0
    unfold takL
    exact List.mem_map.2 ⟨k, List.mem_filter.2 ⟨List.mem_range.2 (by omega), ht⟩, rfl⟩
  · exact .inr (of_decide_eq_true ht)
theorem crd_comp (T : Int → Bool) (u : List Int) : crdT u.length (fun y => T (u.getD y.toNat 0)) = u.countP T := by
  unfold crdT
  have h : u = (List.range u.length).map fun k => u.getD k 0 := by
    refine List.ext_getElem? fun i => ?_
    rw [List.getElem?_map]
    by_cases hi : i < u.length
    · simp [hi]
    · simp [hi]
  conv => rhs; rw [h]
  rw [List.countP_map]
  rfl
theorem crd_and (T U : Int → Bool) (n : Nat) : (flgL U n).countP T = crdT n fun x => U x && T x := by
  unfold flgL crdT
  rw [List.countP_map, List.countP_filter]
  congr 1
  funext x
  show (T (x : Int) && U (x : Int)) = (U (x : Int) && T (x : Int))
  exact Bool.and_comm _ _
theorem redC_hop {c : Cho} {k : Nat} (h : rightM c.nm.length c.ls = true) (hk : Hop c k) : Hop (redC c) k := by
  obtain ⟨T, hT, hle⟩ := hk
  have hI := redI_of h
  obtain ⟨T', h1, h2⟩ := hI.down T hT
  have hl := low_of (rdR_right h)
  refine ⟨fun y => T' ((flgL (usdT (rdR c)) c.nm.length).getD y.toNat 0), fun q hq => ?_, ?_⟩
  · obtain ⟨r, hr, rfl⟩ := List.mem_map.1 (show q ∈ (rdR c).map fun r => r.map (plcI (rdR c)) from hq)
    obtain ⟨x, hx, hx2⟩ := h1 r hr
    refine ⟨_, List.mem_map.2 ⟨x, hx, rfl⟩, ?_⟩
    obtain ⟨x0, x1⟩ := hl r hr x hx
    obtain ⟨j, rfl⟩ := Int.eq_ofNat_of_zero_le x0
    have hg := flg_get (T := usdT (rdR c)) (x := j) (usd_iff.2 ⟨r, hr, hx⟩) c.nm.length (by omega)
    unfold plcI
    rw [Int.toNat_natCast]
    show T' ((flgL (usdT (rdR c)) c.nm.length).getD (crdT j (usdT (rdR c)) : Int).toNat 0) = true
    rw [Int.toNat_natCast, List.getD_eq_getElem?_getD, hg]
    exact hx2
  · have e1 : (redC c).nm.length = (flgL (usdT (rdR c)) c.nm.length).length := by rw [redC_n, flg_len]
    have e2 : (redC c).t.length = c.t.length + crdT c.nm.length (redL c.nm.length c.ls).1 := by
      show (c.t ++ atL c.nm (takL c.nm.length c.ls)).length = _
      rw [List.length_append, atL_len, tak_len]; rfl
    have e3 : crdT (redC c).nm.length (fun y => T' ((flgL (usdT (rdR c)) c.nm.length).getD y.toNat 0)) ≤ crdT c.nm.length T' := by
      rw [e1, crd_comp, crd_and]
      exact crd_le fun x _ hx => by
        rw [Bool.and_eq_true] at hx
        exact hx.2
    omega
theorem redC_few {c : Cho} (h : rightM c.nm.length c.ls = true) : (redC c).t.length + (redC c).ls.length ≤ c.t.length + c.ls.length := by
  have h1 := red_few (n := c.nm.length) (masR c.ls + 1) (fun _ => false) c.ls (low_of h)
  rw [crd_zero] at h1
  have e2 : (redC c).t.length = c.t.length + crdT c.nm.length (redL c.nm.length c.ls).1 := by
    show (c.t ++ atL c.nm (takL c.nm.length c.ls)).length = _
    rw [List.length_append, atL_len, tak_len]; rfl
  have e3 : (redC c).ls.length = (redL c.nm.length c.ls).2.length := List.length_map _
  have e4 : redL c.nm.length c.ls = redP c.nm.length (masR c.ls + 1) (fun _ => false) c.ls := rfl
  rw [← e4] at h1
  omega
theorem redC_cols {c : Cho} : (redC c).nm.length ≤ crdT c.nm.length (usdT c.ls) := by
  rw [redC_n]
  refine crd_le fun x _ hx => ?_
  obtain ⟨r, hr, hx⟩ := usd_iff.1 hx
  obtain ⟨r0, h0, h1⟩ := red_sub _ _ _ r (show r ∈ (redP c.nm.length (masR c.ls + 1) (fun _ => false) c.ls).2 from hr)
  exact usd_iff.2 ⟨r0, h0, h1 _ hx⟩
theorem crd_miss {T : Int → Bool} {n x : Nat} (hx : x < n) (h : T (x : Int) = false) : crdT n T + 1 ≤ n := by
  have := crd_more (n := n) (U := T) (V := fun _ => true) (c := x) (fun _ _ _ => rfl) hx h rfl
  have := crd_all (fun _ => true) n
  omega
theorem redC_bare {c : Cho} : bareB (redC c).ls = bareB (rdR c) := by
  unfold bareB
  show ((rdR c).map fun r => r.map (plcI (rdR c))).any _ = _
  rw [List.any_map]
  congr 1
  funext r
  show decide ((r.map (plcI (rdR c))).length = 0) = decide (r.length = 0)
  rw [List.length_map]
/-- What must be taken is no column afterwards. -/
theorem redC_with {c : Cho} {x : Nat} (h : rightM c.nm.length c.ls = true) (hx : x < c.nm.length) (hr : ∃ r, r ∈ c.ls ∧ ∀ y, y ∈ r → y = (x : Int)) (hb : bareB (redC c).ls = false) : (redC c).nm.length + 1 ≤ c.nm.length := by
  rw [redC_n]
  rw [redC_bare] at hb
  refine crd_miss hx ?_
  rcases red_must (n := c.nm.length) (masR c.ls + 1) (fun _ => false) c.ls (.inl hr) with ⟨r, h1, h2⟩ | h1
  · exfalso
    have hd := (red_done (n := c.nm.length) (masR c.ls + 1) (fun _ => false) c.ls (Nat.lt_succ_self _)).1
    have hris := ((right_iff.1 (rdR_right h)).2.2 r h1).2
    have hne : r ≠ [] := fun e => by
      unfold bareB at hb
      rw [List.any_eq_false] at hb
      exact hb r h1 (by rw [e]; rfl)
    match r, hne, hris, h1, h2 with
    | [y], _, _, h1, _ =>
      unfold tkC at hd
      rw [Option.map_eq_none_iff, List.find?_eq_none] at hd
      exact hd [y] h1 (by simp)
    | y :: z :: r, _, hris, _, h2 =>
      have := (List.pairwise_cons.1 hris).1 z (List.mem_cons_self ..)
      rw [h2 y (List.mem_cons_self ..), h2 z (List.mem_cons_of_mem _ (List.mem_cons_self ..))] at this
      omega
  · cases e : usdT (rdR c) (x : Int) with
    | false => rfl
    | true =>
      obtain ⟨r, hr, hx⟩ := usd_iff.1 e
      exact absurd hx (h1 r hr)
end Go.Proofs.Ytcbhcclickjpnaa
