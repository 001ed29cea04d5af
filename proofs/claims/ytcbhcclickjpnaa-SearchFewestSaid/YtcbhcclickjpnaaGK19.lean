/- The way of Reduce that takes a column, and keeps it. What Reduce knows on its way: facts of the reductions, its memory, the sort at its end. -/
import Derived.Test.YtcbhcclickjpnaaGK18
import Derived.Test.YtcbhcclickjpnaaGK04
import Derived.Sort.OwnSortedInts
namespace Go.Proofs.Ytcbhcclickjpnaa
open Go.RowKit Go.Joins

theorem keepC_put14 {D : Nat → Prop} (W : World) {b : Nat} (j : Nat) (v : Value) (h : D b) : KeepC D W (W.setCell ⟨b, j, none⟩ v) := ⟨by simp [World.setCell], fun c o h1 _ h3 => (Below.heap_setCell _ _ _ _ (fun e => h3 (by rw [show c = b from e]; exact h))).trans h1⟩
theorem keepC_by14 {D : Nat → Prop} {W W' : World} {row : Option Nat} (h : W.grownBy W' row) (hD : ∀ g, row = some g → D g) : KeepC D W W' := ⟨h.size, fun b _ h1 _ h3 => (h.block b (size_of_block h1) (fun e => h3 (hD b e.symm))).trans h1⟩
theorem keepC_mono14 {D E : Nat → Prop} {W W' : World} (h : KeepC D W W') (hD : ∀ b, D b → E b) : KeepC E W W' := ⟨h.size, fun b o h1 h2 h3 => h.same b o h1 h2 (fun e => h3 (hD b e))⟩
theorem keepC_old14 {D E : Nat → Prop} {W W' : World} (h : KeepC D W W') (hD : ∀ b, b < W.heap.size → D b → E b) : KeepC E W W' := ⟨h.size, fun b o h1 h2 h3 => h.same b o h1 h2 (fun e => h3 (hD b (size_of_block h1) e))⟩
theorem CapM.keep14 {D : Nat → Prop} {w w' : World} {u : Value} {ls : List (List Int)} (h : CapM w u) (hm : MatN w (fun b => ¬ D b) u ls) (hk : KeepC D w w') : CapM w' u := by
  obtain ⟨A, c, rfl, -, hc⟩ := hm
  intro A' n' c' e
  injection e with e1 e2 e3
  subst e1
  subst e2
  subst e3
  obtain ⟨h1, h2⟩ := h _ _ _ rfl
  refine ⟨h1, fun h0 => ?_⟩
  obtain ⟨b, off, e, hb, hcell⟩ := h2 h0
  obtain ⟨b', off', e', hD, -⟩ := hc h0
  rw [e] at e'
  injection e' with e'
  injection e' with e1 e2
  subst e1
  subst e2
  refine ⟨b, off, e, Nat.lt_of_lt_of_le hb hk.size, fun j hj => ?_⟩
  obtain ⟨A2, n2, c2, h3, h4⟩ := hcell j hj
  exact ⟨A2, n2, c2, hk.cell h3 hD, h4⟩
theorem one_put14 {w : World} {b : Nat} {T : TypeId} {x y : Value} (h : w.heap[b]? = some (.cells #[y] T (0, 0))) : (w.setCell ⟨b, 0, none⟩ x).heap[b]? = some (.cells #[x] T (0, 0)) := by
  rw [block_setCell h x]
  rfl
theorem heap_ne14 {w : World} {b c : Nat} {j : Nat} {v : Value} {o : Option Obj} (hne : c ≠ b) (h : w.heap[c]? = o) : (w.setCell ⟨b, j, none⟩ v).heap[c]? = o := (Below.heap_setCell _ _ _ _ hne).trans h
set_option maxHeartbeats 8000000 in
set_option maxRecDepth 100000 in
theorem red1_any14 (E : Nat → Prop) (base tq n : Nat) (U T : Value) (ls : List (List Int)) (K : List Int) (w : World) (hE : ∀ b, E b → b < w.heap.size) (hU : MatN w (fun b => ¬ E b) U ls) (hcap : CapM w U) (hls : ls.length ≤ 4000)
    (hT : w.heap[tq]? = some (.cells #[T] 30 (0, 0))) (hEt : E tq) (ho : w.ownsRow base 3 1 T K.length (intI K)) (hEo : ∀ g, T.ownBlock = some g → E g) (hK : K.length ≤ 4000) (hbt : base ≤ tq) (hbw : base ≤ w.heap.size) :
    Calls Try.prog 91 #[mtv n U, .pointer (some ⟨tq, 0, none⟩)] w fun e w' => ∃ u T', e = .returned (.tuple #[mtv n u, .bool (tkC ls).isSome]) ∧ MatN w' (fun b => ¬ (E b ∨ T'.ownBlock = some b)) u (tkL ls) ∧ CapM w' u ∧ w'.heap[tq]? = some (.cells #[T'] 30 (0, 0)) ∧
      w'.ownsRow base 3 1 T' (K ++ (tkC ls).toList).length (intI (K ++ (tkC ls).toList)) ∧ (∀ g, T'.ownBlock = some g → E g ∨ w.heap.size ≤ g) ∧ KeepC (fun b => b = tq ∨ T.ownBlock = some b) w w' ∧ Below base w w' := by
  have hB0 := two_below14 w (mtb n U) (.cells #[.int .i64 0, .slice none 0 0] 24 (0, 0))
  have ht := two_made14 w (mtb n U) (.cells #[.int .i64 0, .slice none 0 0] 24 (0, 0))
  have hsz : ((w.alloc (mtb n U)).alloc (.cells #[.int .i64 0, .slice none 0 0] 24 (0, 0))).heap.size = w.heap.size + 2 := by simp
  have HT := takeN14_any (fun b => E b ∨ b = w.heap.size ∨ b = w.heap.size + 1) n U ls _ (fun b h => by rw [hsz]; rcases h with h | h | h <;> first | omega | (have := hE b h; omega)) ((hU.imp14 (N' := fun b => ¬ (E b ∨ b = w.heap.size ∨ b = w.heap.size + 1)) (fun b h hb h2 => h2.elim h (fun h3 => by omega))).below14 hB0) (hcap.below hB0) hls
  have hTt := size_of_block hT
  have hT0 := keep_blk hB0 hT
  have ho0 := owns_below ho hB0
  have hEH := Lib.hid hE
  have hEoH := Lib.hid hEo
  obtain ⟨i0, hi0, hz0, hz1, hz2⟩ := info_parts Try.infoInt
  obtain ⟨A, cp, rfl, hl, -⟩ := hU
  obtain ⟨AT, cT, rfl⟩ := own_form ho
  unfold tkV at HT
  have hcs : ((tkC ls) = none ∨ ∃ c, tkC ls = some c) := by cases tkC ls; exact .inl rfl; exact .inr ⟨_, rfl⟩
  generalize tkC ls = C at *
  generalize tkL ls = XL at *
  unfold mtv at *
  unfold mtb at hB0 ht hsz HT hT0 ho0
  clear hE hEo hT ho hcap
  go_enter Try.func91, Try.ntmps91
  go_wp2_with fail
  generalize (w.alloc _).alloc _ = w0 at *
  refine HT.mono ?_
  rintro e w1 ⟨u, rfl, hu, hcu, hb1⟩
  obtain ⟨Au, cu, rfl, -, -⟩ := id hu
  have hB1 : Below w.heap.size w w1 := hB0.trans (hb1.mono (by omega))
  have hs1 : w.heap.size + 2 ≤ w1.heap.size := by have := hb1.size; omega
  have hbx := below_alloc1 w1 (.cells #[.int .i64 n, .slice Au XL.length cu] 24 (0, 0))
  have hx := heap_alloc_new w1 (.cells #[.int .i64 n, .slice Au XL.length cu] 24 (0, 0))
  have hrr := keep_blk hbx (keep_blk hb1 ht.2)
  have hT2 := keep_blk hbx (keep_blk hb1 hT0)
  have ho2 := owns_below (owns_below ho0 hb1) hbx
  have hB2 : Below w.heap.size w (w1.alloc (.cells #[.int .i64 n, .slice Au XL.length cu] 24 (0, 0))) := hB1.trans (hbx.mono (by omega))
  have hs2 : (w1.alloc (.cells #[.int .i64 n, .slice Au XL.length cu] 24 (0, 0))).heap.size = w1.heap.size + 1 := World.size_alloc ..
  have hu2 : MatN w1 (fun b => ¬ ((E b ∨ b = w.heap.size ∨ b = w.heap.size + 1) ∨ w1.heap.size ≤ b)) (.slice Au XL.length cu) XL := hu.imp14 (fun b h hb h2 => h2.elim h (fun h3 => by omega))
  have hd32 : Hid (∀ b, (fun b => (b = tq ∨ (Value.slice AT K.length cT).ownBlock = some b) ∨ (b = w.heap.size ∨ b = w.heap.size + 1) ∨ w1.heap.size ≤ b) b → (fun b => (E b ∨ b = w.heap.size ∨ b = w.heap.size + 1) ∨ w1.heap.size ≤ b) b) := Lib.hid (fun b h => by
    rcases h with (h | h) | (h | h) | h
    · exact Or.inl (Or.inl (by rw [h]; exact hEt))
    · exact Or.inl (Or.inl (hEoH.out b h))
    · exact Or.inl (Or.inr (Or.inl h))
    · exact Or.inl (Or.inr (Or.inr h))
    · exact Or.inr h)
  have hk2 : KeepC (fun b => (b = tq ∨ (Value.slice AT K.length cT).ownBlock = some b) ∨ (b = w.heap.size ∨ b = w.heap.size + 1) ∨ w1.heap.size ≤ b) w1 (w1.alloc (.cells #[.int .i64 n, .slice Au XL.length cu] 24 (0, 0))) := KeepC.of_below hbx
  have hold : Hid (∀ W, KeepC (fun b => (b = tq ∨ (Value.slice AT K.length cT).ownBlock = some b) ∨ (b = w.heap.size ∨ b = w.heap.size + 1) ∨ w1.heap.size ≤ b) w1 W → KeepC (fun b => b = tq ∨ (Value.slice AT K.length cT).ownBlock = some b) w W) := Lib.hid (fun W h => keepC_old14 ((KeepC.of_below hB1).trans h) (fun b hb h2 => by
    rcases h2 with h2 | (h2 | h2) | h2
    · exact h2
    · omega
    · omega
    · omega))
  have hne1 : (3 : TypeId) ≠ 24 := by decide
  have hne2 : (3 : TypeId) ≠ 30 := by decide
  have htr : tq ≠ w.heap.size + 1 := by omega
  have htx : tq ≠ w1.heap.size := by omega
  clear HT hb1 hB0 ht hT0 ho0 hbx hu
  obtain ⟨x0, x1, -⟩ := now2 hx rfl
  obtain ⟨r0, r1, rf⟩ := now2 hrr rfl
  rcases hcs with rfl | ⟨c, rfl⟩
  · have hr3 := put2 (x0 := .int .i64 n) (x1 := .slice Au XL.length cu) hrr
    obtain ⟨q0, q1, -⟩ := now2 hr3 rfl
    have hkz := (hk2.trans (keepC_put14 _ 0 (.int .i64 n) (b := w.heap.size + 1) (Or.inr (Or.inl (Or.inr rfl))))).trans (keepC_put14 _ 1 (.slice Au XL.length cu) (b := w.heap.size + 1) (Or.inr (Or.inl (Or.inr rfl))))
    have hBz := below2 (x0 := .int .i64 n) (x1 := .slice Au XL.length cu) (by omega : w.heap.size ≤ w.heap.size + 1) hB2
    have hoz := own_set (own_set ho2 (own_ne ho2 hrr hne1) 0 (.int .i64 n)) (own_ne ho2 hrr hne1) 1 (.slice Au XL.length cu)
    have hTz := heap_ne14 (v := .slice Au XL.length cu) (j := 1) htr (heap_ne14 (v := .int .i64 n) (j := 0) htr hT2)
    have hMz := (keepC_mono14 hkz hd32.out).mat hu2
    have hCz := hcu.keep14 hu2 (keepC_mono14 hkz hd32.out)
    have hMz2 : Hid (MatN _ (fun b => ¬ (E b ∨ (Value.slice AT K.length cT).ownBlock = some b)) (.slice Au XL.length cu) XL) := Lib.hid (hMz.imp14 (fun b h _ h2 => h2.elim (fun h3 => h (Or.inl (Or.inl h3))) (fun h3 => h (Or.inl (Or.inl (hEoH.out b h3))))))
    have hAll := Lib.hid (And.intro hCz (And.intro hTz (And.intro hoz (And.intro (hold.out _ hkz) (hBz.mono hbw)))))
    clear hkz hBz hoz hTz hMz hCz hx hrr hT2 ho2 hB2 hu2 hk2 hr3 hcu
    go_wp2
    refine bodyPost_ret (v := .tuple #[.agg #[.int .i64 n, .slice Au XL.length cu], .bool false]) (by simp [results, Try.results91, go_sem, q0, q1]) rfl ?_
    exact ⟨_, _, rfl, hMz2.out, hAll.out.1, hAll.out.2.1, by rw [show K ++ (none : Option Int).toList = K from List.append_nil _]; exact hAll.out.2.2.1, fun g hg => Or.inl (hEoH.out g hg), hAll.out.2.2.2.1, hAll.out.2.2.2.2⟩
  · go_upto_region 3 with (fail)
    have hcuH := Lib.hid hcu
    clear hcu hB1
    generalize w1.alloc (.cells #[.int .i64 n, .slice Au XL.length cu] 24 (0, 0)) = w2 at *
    have t0 : w2.cell? ⟨tq, 0, none⟩ = some (.slice AT K.length cT) := by rw [cell_of_block hT2]; rfl
    have tf := unfrozen_of_block hT2 0
    have hTH := Lib.hid hT2
    have hrH := Lib.hid hrr
    have hxH := Lib.hid hx
    have hs2H := Lib.hid hs2
    clear x0 x1 r0 r1 rf hT2 hrr hx hs2
    go_wp2_with (at_builtin; refine wpList_append_own_at _ rfl _ _ 30 rfl base 3 i0 (.int .i64 0) 1 8 Try.underlying30 hi0 hz0 hz1 hz2 rfl (by decide) _ _ _ rfl (ho2.alloc _) ⟨w2.heap.size, 0, none⟩ 1 1 [.int .i64 c] rfl rfl one_new13 (fun u hu => by rw [List.mem_singleton.1 hu]; rfl) ?c3 ?c4 ?c5 ?_)
    case c3 => unfold maxLen; omega
    case c4 => omega
    case c5 => simp; have := hs2H.out; omega
    intro v8 w8 ho8 hg8 _ hloc
    have hs2 := hs2H.out
    have hby := below_alloc1 w2 (.cells #[.int .i64 c] 3 (0, 0))
    have hs3 : (w2.alloc (.cells #[.int .i64 c] 3 (0, 0))).heap.size = w2.heap.size + 1 := World.size_alloc ..
    have ho3 := ho2.alloc (.cells #[.int .i64 c] 3 (0, 0))
    have hT3 := keep_blk hby hTH.out
    have hr3 := keep_blk hby hrH.out
    have hx3 := keep_blk hby hxH.out
    have nT := own_ne ho3 hT3 hne2
    have nr := own_ne ho3 hr3 hne1
    have nx := own_ne ho3 hx3 hne1
    have hT8 := (hg8.block _ (size_of_block hT3) (fun e => nT e.symm)).trans hT3
    have hr8 := (hg8.block _ (size_of_block hr3) (fun e => nr e.symm)).trans hr3
    have hx8 := (hg8.block _ (size_of_block hx3) (fun e => nx e.symm)).trans hx3
    have ho9 : w8.ownsRow base 3 1 v8 (K ++ [c]).length (intI (K ++ [c])) := by
      rw [List.length_append, show intI (K ++ [c]) = intI K ++ [.int .i64 c] from List.map_append]
      exact ho8
    clear ho8
    generalize hK2 : K ++ [c] = K2 at *
    have hK2H := Lib.hid hK2
    clear hK2
    obtain ⟨A8, c8, rfl⟩ := own_form ho9
    have n8 := own_ne ho9 hT8 hne2
    have m8 := own_ne ho9 hr8 hne1
    have hT9 := one_put14 (x := .slice A8 K2.length c8) hT8
    have hr9 := heap_ne14 (v := .slice A8 K2.length c8) (j := 0) (fun e => htr e.symm) hr8
    have hx9 := heap_ne14 (v := .slice A8 K2.length c8) (j := 0) (fun e => htx e.symm) hx8
    have hr10 := put2 (x0 := .int .i64 n) (x1 := .slice Au XL.length cu) hr9
    obtain ⟨t8, -, tf8⟩ : w8.cell? ⟨tq, 0, none⟩ = some (.slice AT K.length cT) ∧ True ∧ w8.frozen? ⟨tq, 0, none⟩ = false := ⟨by rw [cell_of_block hT8]; rfl, trivial, unfrozen_of_block hT8 0⟩
    obtain ⟨x0, x1, -⟩ := now2 hx9 rfl
    obtain ⟨r0, r1, rf⟩ := now2 hr9 rfl
    obtain ⟨q0, q1, -⟩ := now2 hr10 rfl
    have hk8 := ((hk2.trans (KeepC.of_below hby)).trans (keepC_by14 hg8 (fun g hg => Or.inl (Or.inr hg)))).trans (keepC_put14 w8 0 (.slice A8 K2.length c8) (b := tq) (Or.inl (Or.inl rfl)))
    have hkz := (hk8.trans (keepC_put14 _ 0 (.int .i64 n) (b := w.heap.size + 1) (Or.inr (Or.inl (Or.inr rfl))))).trans (keepC_put14 _ 1 (.slice Au XL.length cu) (b := w.heap.size + 1) (Or.inr (Or.inl (Or.inr rfl))))
    have hB3 : Below base w (w2.alloc (.cells #[.int .i64 c] 3 (0, 0))) := (hB2.mono hbw).trans (hby.mono (by omega))
    have hB8 := (hB3.grown hg8 (by omega) (fun k hk => (ho3.lt k hk).1)).setCell (p := ⟨tq, 0, none⟩) hbt (.slice A8 K2.length c8)
    have hBz := below2 (b := w.heap.size + 1) (x0 := .int .i64 n) (x1 := .slice Au XL.length cu) (by omega) hB8
    have hoz := own_set (own_set (own_set ho9 n8 0 (.slice A8 K2.length c8)) m8 0 (.int .i64 n)) m8 1 (.slice Au XL.length cu)
    have hTz := heap_ne14 (v := .slice Au XL.length cu) (j := 1) htr (heap_ne14 (v := .int .i64 n) (j := 0) htr hT9)
    have hMz := (keepC_mono14 hkz hd32.out).mat hu2
    have hCz := hcuH.out.keep14 hu2 (keepC_mono14 hkz hd32.out)
    have hOB : ∀ g, (Value.slice A8 K2.length c8).ownBlock = some g → E g ∨ w1.heap.size ≤ g := fun g hg => by
      rcases hloc with h | h
      · exact Or.inl (hEoH.out g (h ▸ hg))
      · refine Or.inr ?_
        rw [hg] at h
        injection h with h
        omega
    have hMz2 : Hid (MatN _ (fun b => ¬ (E b ∨ (Value.slice A8 K2.length c8).ownBlock = some b)) (.slice Au XL.length cu) XL) := Lib.hid (hMz.imp14 (fun b h _ h2 => h2.elim (fun h3 => h (Or.inl (Or.inl h3))) (fun h3 => (hOB b h3).elim (fun h4 => h (Or.inl (Or.inl h4))) (fun h4 => h (Or.inr h4)))))
    have hAll := Lib.hid (And.intro hCz (And.intro hTz (And.intro hoz (And.intro (hold.out _ hkz) hBz))))
    have hOBH : Hid (∀ g, (Value.slice A8 K2.length c8).ownBlock = some g → E g ∨ w.heap.size ≤ g) := Lib.hid (fun g hg => (hOB g hg).imp id (fun h => by omega))
    clear hkz hBz hoz hTz hMz hCz hB2 hu2 hk2 hk8 hB3 hB8 hr10 hr9 hx9 hT9 hT8 hr8 hx8 hT3 hr3 hx3 ho3 ho9 hg8 hloc hby nT nr nx n8 m8 hOB t0 tf ho2 hs2 hs3
    go_wp2
    refine bodyPost_ret (v := .tuple #[.agg #[.int .i64 n, .slice Au XL.length cu], .bool true]) (by simp [results, Try.results91, go_sem, q0, q1]) rfl ?_
    exact ⟨_, _, rfl, hMz2.out, hAll.out.1, hAll.out.2.1, by rw [show K ++ (some c : Option Int).toList = K ++ [c] from rfl, hK2H.out]; exact hAll.out.2.2.1, hOBH.out, hAll.out.2.2.2.1, hAll.out.2.2.2.2⟩
end Go.Proofs.Ytcbhcclickjpnaa
namespace Go.Proofs.Ytcbhcclickjpnaa
open Go.RowKit Go.Joins

/-- How far the reductions are. -/
structure RedF (P : (Int → Bool) × List (List Int)) (n : Nat) (l : List (List Int)) (K : List Int) : Prop where
  way : ∃ F t, masR l < F ∧ P = redP n F t l ∧ (∀ x, t x = true ↔ x ∈ K) ∧ ∀ r, r ∈ l → ∀ x, x ∈ r → t x = false
  once : K.Nodup
  low : ∀ x, x ∈ K → 0 ≤ x ∧ x < n
  ris : ∀ r, r ∈ l → risL n r
  len : K.length + l.length ≤ 4000
theorem RedF.start14 {n : Nat} {ls : List (List Int)} (hr : ∀ r, r ∈ ls → risL n r) (hl : ls.length ≤ 4000) : RedF (redP n (masR ls + 1) (fun _ => false) ls) n ls [] :=
  ⟨⟨_, _, Nat.lt_succ_self _, rfl, fun x => by simp, fun _ _ _ _ => rfl⟩, List.nodup_nil, fun x h => absurd h List.not_mem_nil, hr, by simpa using hl⟩
theorem RedF.take14 {P : (Int → Bool) × List (List Int)} {n : Nat} {l : List (List Int)} {K : List Int} {c : Int} (h : RedF P n l K) (ht : tkC l = some c) : RedF P n (tkR l c) (K ++ [c]) ∧ masR (tkR l c) < masR l := by
  obtain ⟨F, t, hF, hP, hK, hT⟩ := h.way
  have hc := tkC_some ht
  have hm : masR (tkR l c) < masR l := mas_filter_lt (fun r => !decide (c ∈ r)) hc (by simp)
  obtain ⟨f, rfl⟩ : ∃ f, F = f + 1 := ⟨F - 1, by omega⟩
  have htc : t c = false := hT _ hc c (List.mem_singleton.2 rfl)
  have hcK : c ∉ K := fun e => by rw [(hK c).2 e] at htc; cases htc
  have hsub : ∀ r, r ∈ tkR l c → r ∈ l ∧ ¬ c ∈ r := fun r hr => by
    have := List.mem_filter.1 hr
    exact ⟨this.1, by simpa using this.2⟩
  refine ⟨⟨⟨f, _, by omega, by rw [hP, red_t ht], fun x => ?_, fun r hr x hx => ?_⟩, ?_, fun x hx => ?_, fun r hr => h.ris r (hsub r hr).1, ?_⟩, hm⟩
  · rw [List.mem_append, List.mem_singleton, Bool.or_eq_true, hK, decide_eq_true_iff]
  · rw [Bool.or_eq_false_iff, decide_eq_false_iff_not]
    exact ⟨hT r (hsub r hr).1 x hx, fun e => (hsub r hr).2 (e ▸ hx)⟩
  · rw [List.nodup_append]
    refine ⟨h.once, by simp, fun a ha b hb e => ?_⟩
    rw [List.mem_singleton.1 hb] at e
    exact hcK (e ▸ ha)
  · rcases List.mem_append.1 hx with h1 | h1
    · exact h.low x h1
    · rw [List.mem_singleton.1 h1]
      exact (h.ris _ hc).1 c (List.mem_singleton.2 rfl)
  · have h1 : (tkR l c).length < l.length := by
      unfold tkR
      exact List.length_filter_lt_length_iff_exists.2 ⟨[c], hc, by simp⟩
    have := h.len
    rw [List.length_append, List.length_singleton]
    omega
theorem RedF.rows14 {P : (Int → Bool) × List (List Int)} {n : Nat} {l : List (List Int)} {K : List Int} {i : Nat} (h : RedF P n l K) (ht : tkC l = none) (hr : rwI l = some i) : RedF P n (splR l) K ∧ masR (splR l) < masR l := by
  obtain ⟨F, t, hF, hP, hK, hT⟩ := h.way
  have hR : RiseM l := rise_m14 fun r hr => (h.ris r hr).2
  obtain ⟨F', hP', hF'⟩ := red_rows14 (n := n) (t := t) F l hF hR ht
  have hs := spl_lt14 hR hr
  exact ⟨⟨⟨F', t, hF', by rw [hP, hP'], hK, fun r hr => hT r (keepL_sub _ _ hr)⟩, h.once, h.low, fun r hr => h.ris r (keepL_sub _ _ hr), by have := h.len; have := hs.2; omega⟩, hs.1⟩
theorem RedF.cols14 {P : (Int → Bool) × List (List Int)} {n : Nat} {l : List (List Int)} {K : List Int} {c : Nat} (h : RedF P n l K) (ht : tkC l = none) (hr : rwI l = none) (hc : clI l n = some c) : RedF P n (clR l c) K ∧ masR (clR l c) < masR l := by
  obtain ⟨F, t, hF, hP, hK, hT⟩ := h.way
  obtain ⟨-, ⟨r, m1, m2⟩, -⟩ := clI_some hc
  have hm := mas_col (c : Int) m1 m2
  obtain ⟨f, rfl⟩ : ∃ f, F = f + 1 := ⟨F - 1, by omega⟩
  have hsub : ∀ r, r ∈ clR l c → ∃ r0, r0 ∈ l ∧ r = r0.filter fun x => !decide (x = (c : Int)) := fun r hr => by
    obtain ⟨r0, h0, e⟩ := List.mem_map.1 hr
    exact ⟨r0, h0, e.symm⟩
  refine ⟨⟨⟨f, t, by omega, by rw [hP, red_c ht hr hc], hK, fun r hr x hx => ?_⟩, h.once, h.low, fun r hr => ?_, by unfold clR; rw [List.length_map]; exact h.len⟩, hm⟩
  · obtain ⟨r0, h0, rfl⟩ := hsub r hr
    exact hT r0 h0 x (List.mem_filter.1 hx).1
  · obtain ⟨r0, h0, rfl⟩ := hsub r hr
    exact ⟨fun x hx => (h.ris r0 h0).1 x (List.mem_filter.1 hx).1, (h.ris r0 h0).2.filter _⟩
/-- Two rising lists with the same numbers. -/
theorem rise_same14 : ∀ {a b : List Int}, a.Pairwise (· < ·) → b.Pairwise (· < ·) → (∀ x, x ∈ a ↔ x ∈ b) → a = b
  | [], [], _, _, _ => rfl
  | [], y :: b, _, _, h => absurd ((h y).2 (List.mem_cons_self ..)) List.not_mem_nil
  | x :: a, [], _, _, h => absurd ((h x).1 (List.mem_cons_self ..)) List.not_mem_nil
  | x :: a, y :: b, ha, hb, h => by
    obtain ⟨h1, h2⟩ := List.pairwise_cons.1 ha
    obtain ⟨h3, h4⟩ := List.pairwise_cons.1 hb
    have e : x = y := by
      rcases List.mem_cons.1 ((h x).1 (List.mem_cons_self ..)) with e | e
      · exact e
      · rcases List.mem_cons.1 ((h y).2 (List.mem_cons_self ..)) with e2 | e2
        · exact e2.symm
        · have := h3 x e
          have := h1 y e2
          omega
    subst e
    refine congrArg _ (rise_same14 h2 h4 fun z => ⟨fun hz => ?_, fun hz => ?_⟩)
    · rcases List.mem_cons.1 ((h z).1 (List.mem_cons_of_mem _ hz)) with e | e
      · have := h1 z hz; omega
      · exact e
    · rcases List.mem_cons.1 ((h z).2 (List.mem_cons_of_mem _ hz)) with e | e
      · have := h3 z hz; omega
      · exact e
theorem RedF.done14 {P : (Int → Bool) × List (List Int)} {n : Nat} {l : List (List Int)} {K : List Int} (h : RedF P n l K) (h1 : tkC l = none) (h2 : rwI l = none) (h3 : clI l n = none) : P.2 = l ∧ K.mergeSort (fun x y => decide (x ≤ y)) = ((List.range n).filter fun c : Nat => P.1 (c : Int)).map fun c : Nat => (c : Int) := by
  obtain ⟨F, t, hF, hP, hK, hT⟩ := h.way
  have e := red_stay (t := t) h1 h2 h3 F
  rw [e] at hP
  subst hP
  refine ⟨rfl, rise_same14 ?_ ?_ fun x => ?_⟩
  · have hs := List.pairwise_mergeSort (le := fun x y : Int => decide (x ≤ y)) (fun a b c h1 h2 => by simp at *; omega) (fun a b => by simp; omega) K
    have hn : (K.mergeSort fun x y => decide (x ≤ y)).Nodup := (List.mergeSort_perm K _).nodup_iff.2 h.once
    rw [List.nodup_iff_pairwise_ne] at hn
    exact (hs.and hn).imp fun h => by
      have := h.1
      have := h.2
      simp at *
      omega
  · rw [List.pairwise_map]
    exact ((List.pairwise_lt_range).filter _).imp fun h => by omega
  · rw [(List.mergeSort_perm K _).mem_iff, ← hK]
    constructor
    · intro hx
      have hl := h.low x ((hK x).1 hx)
      obtain ⟨q, rfl⟩ := Int.eq_ofNat_of_zero_le hl.1
      exact List.mem_map.2 ⟨q, List.mem_filter.2 ⟨List.mem_range.2 (by omega), hx⟩, rfl⟩
    · intro hx
      obtain ⟨q, hq, rfl⟩ := List.mem_map.1 hx
      exact (List.mem_filter.1 hq).2
theorem sort14_any {w : World} {B : Nat} {K : List Int} {T : Value} (h : w.ownsRow B 3 1 T K.length (intI K)) (hl : K.length ≤ 1000000) :
    Calls Try.prog 33 #[T] w fun e w' => e = .returned (.tuple #[]) ∧ w'.ownsRow B 3 1 T (K.mergeSort fun x y => decide (x ≤ y)).length (intI (K.mergeSort fun x y => decide (x ≤ y))) ∧ w.grownBy w' T.ownBlock := by
  have hml : (K.mergeSort fun x y => decide (x ≤ y)).length = K.length := List.length_mergeSort K
  rcases h.2 with ⟨rfl, h0⟩ | ⟨g, cap, cur, rfl, hg, hgg, h1, h2, h3, h4⟩
  · have : K = [] := List.length_eq_zero_iff.1 h0
    subst this
    refine (Try.slices_Sort_int_none none 0 w).mono ?_
    rintro e w' ⟨rfl, rfl⟩
    exact ⟨rfl, by rw [show ([] : List Int).mergeSort (fun x y => decide (x ≤ y)) = [] by simp]; exact World.ownsRow_nil _ _ _ _, ⟨rfl, rfl, rfl, Nat.le_refl _, fun _ _ _ => rfl⟩⟩
  · have hH : Go.Sort.Holds (Value.int .i64) w g 0 K.toArray := holds_of_blockI hgg (by rw [Nat.mul_one] at h4; exact h4)
    have hSrt := Try.slices_Sort_int g 0 cap K w hH (size_of_block hgg) (by omega)
    refine hSrt.mono ?_
    rintro e w' ⟨rfl, q, os, rfl⟩
    have hown := ownsRow_sortedI (n := q) (os := os) (ss := K) (ts := K.mergeSort fun x y => decide (x ≤ y)) hml hg hgg h1 h2 h3
    exact ⟨rfl, by rw [hml]; exact hown, grownBy_sortedI _⟩
/-- Reduce's memory. -/
structure RedW (W0 : World) (fo : Obj) (gb tq n : Nat) (U T : Value) (l : List (List Int)) (K : List Int) (W : World) : Prop where
  mat : MatN W (fun b => ¬ ((b = gb ∨ b = gb + 1 ∨ b = tq ∨ b = tq + 1) ∨ T.ownBlock = some b)) U l
  cap : CapM W U
  box : W.heap[gb]? = some (.cells #[.int .i64 n, U] 24 (0, 0))
  res : W.heap[gb + 1]? = some (.cells #[.int .i64 0, .slice none 0 0] 24 (0, 0))
  tak : W.heap[tq]? = some (.cells #[T] 30 (0, 0))
  ways : W.heap[tq + 1]? = some fo
  own : W.ownsRow gb 3 1 T K.length (intI K)
  bel : Below gb W0 W
theorem RedW.below14 {W0 W W' : World} {fo : Obj} {gb tq n : Nat} {U T : Value} {l : List (List Int)} {K : List Int} (h : RedW W0 fo gb tq n U T l K W) (hb : Below W.heap.size W W') : RedW W0 fo gb tq n U T l K W' :=
  ⟨h.mat.below14 hb, h.cap.below hb, keep_blk hb h.box, keep_blk hb h.res, keep_blk hb h.tak, keep_blk hb h.ways, owns_below h.own hb, h.bel.trans (hb.mono (Nat.le_of_lt (size_of_block h.box)))⟩
theorem RedW.put14 {W0 W : World} {fo : Obj} {gb tq n : Nat} {U T U' : Value} {l l' : List (List Int)} {K : List Int} (h : RedW W0 fo gb tq n U T l K W) (hq : gb + 2 ≤ tq) (hm : MatN W (fun b => ¬ ((b = gb ∨ b = gb + 1 ∨ b = tq ∨ b = tq + 1) ∨ T.ownBlock = some b)) U' l') (hc : CapM W U') :
    RedW W0 fo gb tq n U' T l' K ((W.setCell ⟨gb, 0, none⟩ (.int .i64 n)).setCell ⟨gb, 1, none⟩ U') := by
  have hk := (keepC_put14 (D := fun b => (b = gb ∨ b = gb + 1 ∨ b = tq ∨ b = tq + 1) ∨ T.ownBlock = some b) W 0 (.int .i64 n) (b := gb) (Or.inl (Or.inl rfl))).trans (keepC_put14 _ 1 U' (b := gb) (Or.inl (Or.inl rfl)))
  have hne : (3 : TypeId) ≠ 24 := by decide
  have nb := own_ne h.own h.box hne
  exact ⟨hk.mat hm, hc.keep14 hm hk, put2 h.box, heap_ne14 (by omega) (heap_ne14 (by omega) h.res), heap_ne14 (by omega) (heap_ne14 (by omega) h.tak), heap_ne14 (by omega) (heap_ne14 (by omega) h.ways), own_set (own_set h.own nb 0 _) nb 1 _, below2 (Nat.le_refl _) h.bel⟩
theorem RedW.lt14 {W0 W : World} {fo : Obj} {gb tq n : Nat} {U T : Value} {l : List (List Int)} {K : List Int} (h : RedW W0 fo gb tq n U T l K W) : ∀ b, ((b = gb ∨ b = gb + 1 ∨ b = tq ∨ b = tq + 1) ∨ T.ownBlock = some b) → b < W.heap.size := by
  rintro b ((rfl | rfl | rfl | rfl) | e)
  · exact size_of_block h.box
  · exact size_of_block h.res
  · exact size_of_block h.tak
  · exact size_of_block h.ways
  · exact (h.own.lt b e).2
/-- The way that takes a column. -/
theorem RedW.one14 {W0 W : World} {fo : Obj} {gb tq n : Nat} {U T : Value} {l : List (List Int)} {K : List Int} (h0 : RedW W0 fo gb tq n U T l K W) (hq : gb + 2 ≤ tq) (hfo : fo.isCells = true) (hfn : ¬ (tq + 1 = tq ∨ T.ownBlock = some (tq + 1))) (hl : l.length ≤ 4000) (hK : K.length ≤ 4000) :
    Calls Try.prog 91 #[mtv n U, .pointer (some ⟨tq, 0, none⟩)] W fun e W' => ∃ u T', e = .returned (.tuple #[mtv n u, .bool (tkC l).isSome]) ∧ RedW W0 fo gb tq n U T' l (K ++ (tkC l).toList) W' ∧
      MatN W' (fun b => ¬ ((b = gb ∨ b = gb + 1 ∨ b = tq ∨ b = tq + 1) ∨ T'.ownBlock = some b)) u (tkL l) ∧ CapM W' u := by
  have hgs := size_of_block h0.box
  have hqs := size_of_block h0.ways
  refine (red1_any14 (fun b => (b = gb ∨ b = gb + 1 ∨ b = tq ∨ b = tq + 1) ∨ T.ownBlock = some b) gb tq n U T l K W h0.lt14 h0.mat h0.cap hl h0.tak (Or.inl (Or.inr (Or.inr (Or.inl rfl)))) h0.own (fun g hg => Or.inr hg) hK (by omega) (by omega)).mono ?_
  rintro e W' ⟨u, T', rfl, hu, hcu, hT, ho, hob, hk, hb⟩
  have hD : ∀ b, (b = tq ∨ T.ownBlock = some b) → ((b = gb ∨ b = gb + 1 ∨ b = tq ∨ b = tq + 1) ∨ T.ownBlock = some b) := fun b h => h.elim (fun h => Or.inl (Or.inr (Or.inr (Or.inl h)))) Or.inr
  have nb : ∀ {c : Nat} {cs : Array Value} {X : TypeId}, W.heap[c]? = some (.cells cs X (0, 0)) → (3 : TypeId) ≠ X → c ≠ tq → ¬ (c = tq ∨ T.ownBlock = some c) := fun hc hX hne h => h.elim hne (own_ne h0.own hc hX)
  have m1 : MatN W (fun b => ¬ (((b = gb ∨ b = gb + 1 ∨ b = tq ∨ b = tq + 1) ∨ T.ownBlock = some b) ∨ W.heap.size ≤ b)) U l := h0.mat.imp14 (fun b h hb h2 => h2.elim h (fun h3 => by omega))
  have m2 := (keepC_mono14 hk (fun b h => Or.inl (hD b h))).mat m1
  refine ⟨u, T', rfl, ⟨m2.imp14 (fun b h _ h2 => h2.elim (fun h3 => h (Or.inl (Or.inl h3))) (fun h3 => (hob b h3).elim (fun h4 => h (Or.inl h4)) (fun h4 => h (Or.inr h4)))), h0.cap.keep14 h0.mat (keepC_mono14 hk hD), hk.same _ _ h0.box rfl (nb h0.box (by decide) (by omega)), hk.same _ _ h0.res rfl (nb h0.res (by decide) (by omega)), hT, hk.same _ _ h0.ways hfo (hfn), ho, h0.bel.trans hb⟩, hu.imp14 (fun b h _ h2 => h (h2.elim (fun h3 => Or.inl (Or.inl h3)) Or.inr)), hcu⟩
end Go.Proofs.Ytcbhcclickjpnaa
