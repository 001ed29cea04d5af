/- Take and Columns of the package reduce, as they are called. -/
import Derived.Test.YtjjpobpcpgcbaaaGJxRmc14
import Derived.Test.YtjjpobpcpgcbaaaGJ26
namespace Go.Proofs.Ytjjpobpcpgcbaaa
open Go.RowKit Go.Joins

/-- Behind the copy's storing as the result. -/
theorem fin_copied14 {w : World} {B g : Nat} {u x : Value} {ls : List (List Int)} {vs : List Value} (ho : w.ownsRow B 38 1 u ls.length vs) (hl : vs.length = ls.length) (hi : RowsX (fun b => b < B) w u ls vs) (hac : AllCap vs) (hg : g < B) :
    MatAt ((w.setCell ⟨g, 0, none⟩ x).setCell ⟨g, 1, none⟩ u) ((w.setCell ⟨g, 0, none⟩ x).setCell ⟨g, 1, none⟩ u).heap.size u ls ∧ CapM ((w.setCell ⟨g, 0, none⟩ x).setCell ⟨g, 1, none⟩ u) u := by
  have hnb : u.ownBlock ≠ some g := fun e => by have := (ho.lt _ e).1; omega
  have ho2 := own_set (own_set ho hnb 0 x) hnb 1 u
  have hi2 := (hi.set (b := g) (j := 0) (u := x) hg).set (b := g) (j := 1) (u := u) hg
  exact ⟨hi2.rows.mat ho2, own_capM14 ho2 hl hac⟩
theorem tkl_small14 {ls : List (List Int)} (hls : ls.length ≤ 4000) (hlen : ∀ r, r ∈ ls → r.length ≤ 4000) : (tkL ls).length ≤ 4000 ∧ ∀ r, r ∈ tkL ls → r.length ≤ 4000 := by
  unfold tkL
  cases tkC ls with
  | none => exact ⟨hls, hlen⟩
  | some c =>
    show (tkR ls c).length ≤ 4000 ∧ ∀ r, r ∈ tkR ls c → r.length ≤ 4000
    unfold tkR
    exact ⟨Nat.le_trans (List.length_filter_le _ _) hls, fun r h => hlen r (List.mem_filter.1 h).1⟩
theorem cll_small14 {ls : List (List Int)} {n : Nat} (hls : ls.length ≤ 4000) (hlen : ∀ r, r ∈ ls → r.length ≤ 4000) : (clL ls n).length ≤ 4000 ∧ ∀ r, r ∈ clL ls n → r.length ≤ 4000 := by
  unfold clL
  cases clI ls n with
  | none => exact ⟨hls, hlen⟩
  | some c =>
    show (clR ls c).length ≤ 4000 ∧ ∀ r, r ∈ clR ls c → r.length ≤ 4000
    unfold clR
    refine ⟨by rw [List.length_map]; exact hls, fun r h => ?_⟩
    obtain ⟨q, hq, rfl⟩ := List.mem_map.1 h
    exact Nat.le_trans (List.length_filter_le _ _) (hlen q hq)
set_option maxHeartbeats 8000000 in
set_option maxRecDepth 100000 in
theorem take_bad14 (n : Int) (V : Value) (ls : List (List Int)) (w : World) (hz : MatAt w w.heap.size V ls) (hls : ls.length ≤ 4000) (hlen : ∀ r, r ∈ ls → r.length ≤ 4000) (hr : rightM n ls = false) :
    Calls Try.prog 9 #[mtv n V] w fun e w' => ∃ u, e = .returned (.tuple #[mtv n u, .int .i64 0, .bool false]) ∧ MatAt w' w'.heap.size u ls ∧ CapM w' u ∧ Below w.heap.size w w' := by
  have hB0 := two_below14 w (mtb n V) (.cells #[.int .i64 0, .slice none 0 0] 24 (0, 0))
  have ht := two_made14 w (mtb n V) (.cells #[.int .i64 0, .slice none 0 0] 24 (0, 0))
  have hsz : ((w.alloc (mtb n V)).alloc (.cells #[.int .i64 0, .slice none 0 0] 24 (0, 0))).heap.size = w.heap.size + 2 := by simp
  have HR := cright13 n V ls _ ((hz.below hB0).more hB0.size)
  rw [hr] at HR
  have hzz := hz.below hB0
  have HC := fun (U : Value) (rs : List (List Int)) W (h1 : MatAt W W.heap.size U rs) (h2 : rs.length ≤ 4000) (h3 : ∀ r, r ∈ rs → r.length ≤ 4000) => copied14_any n U rs W h1 h2 h3
  obtain ⟨A, cp, rfl, hl, -⟩ := hz
  unfold mtv at *
  unfold mtb at hB0 ht hzz hsz HR
  go_enter Try.func9, Try.ntmps9
  go_wp2_with fail
  generalize (w.alloc _).alloc _ = w0 at *
  generalize hgb : w.heap.size = gb at *
  have hgbH := Lib.hid hgb
  have hszH := Lib.hid hsz
  clear hgb hsz
  refine HR.mono ?_
  rintro e w1 ⟨rfl, hb1⟩
  have hm := keep_blk hb1 ht.1
  have hrr := keep_blk hb1 ht.2
  have hB1 := hB0.trans (hb1.mono (by have := hszH.out; omega))
  have hz1 := hzz.below (hb1.mono (by have := hszH.out; omega : gb ≤ w0.heap.size))
  have hgz : gb + 2 ≤ w1.heap.size := by have := hszH.out; have := hb1.size; omega
  obtain ⟨m0, m1, -⟩ := now2 hm rfl
  clear HR hb1 hB0 ht hzz
  have HC1 := HC _ ls w1 (hz1.more (by omega : gb ≤ w1.heap.size)) hls hlen
  go_wp2_with fail
  refine HC1.mono ?_
  rintro e w9 ⟨u, vs, rfl, ho, hvl, hi, hac, hb9⟩
  obtain ⟨Au, cu, rfl⟩ := own_form ho
  have hr9 := keep_blk hb9 hrr
  obtain ⟨r0, r1, rf⟩ := now2 hr9 rfl
  have hF := fin_copied14 (g := gb + 1) (x := .int .i64 n) ho hvl hi hac (by omega)
  have hr3 := put2 (x0 := .int .i64 n) (x1 := .slice Au ls.length cu) hr9
  obtain ⟨q0, q1, -⟩ := now2 hr3 rfl
  have hB9 := hB1.trans (hb9.mono (by omega : gb ≤ w1.heap.size))
  have hBz := below2 (x0 := .int .i64 n) (x1 := .slice Au ls.length cu) (by omega : gb ≤ gb + 1) hB9
  clear HC1 hr9 hB9 hb9 ho hi hac m0 m1
  go_wp2
  refine bodyPost_ret (v := .tuple #[.agg #[.int .i64 n, .slice Au ls.length cu], .int .i64 0, .bool false]) (by simp [results, Try.results9, go_sem, q0, q1]) rfl ?_
  exact ⟨_, rfl, hF.1, hF.2, by rw [hgbH.out]; exact hBz⟩
set_option maxHeartbeats 8000000 in
set_option maxRecDepth 100000 in
theorem cols_bad14 (n : Int) (V : Value) (ls : List (List Int)) (w : World) (hz : MatAt w w.heap.size V ls) (hls : ls.length ≤ 4000) (hlen : ∀ r, r ∈ ls → r.length ≤ 4000) (hr : rightM n ls = false) :
    Calls Try.prog 11 #[mtv n V] w fun e w' => ∃ u, e = .returned (.tuple #[mtv n u, .bool false]) ∧ MatAt w' w'.heap.size u ls ∧ CapM w' u ∧ Below w.heap.size w w' := by
  have hB0 := two_below14 w (mtb n V) (.cells #[.int .i64 0, .slice none 0 0] 24 (0, 0))
  have ht := two_made14 w (mtb n V) (.cells #[.int .i64 0, .slice none 0 0] 24 (0, 0))
  have hsz : ((w.alloc (mtb n V)).alloc (.cells #[.int .i64 0, .slice none 0 0] 24 (0, 0))).heap.size = w.heap.size + 2 := by simp
  have HR := cright13 n V ls _ ((hz.below hB0).more hB0.size)
  rw [hr] at HR
  have hzz := hz.below hB0
  have HC := fun (U : Value) (rs : List (List Int)) W (h1 : MatAt W W.heap.size U rs) (h2 : rs.length ≤ 4000) (h3 : ∀ r, r ∈ rs → r.length ≤ 4000) => copied14_any n U rs W h1 h2 h3
  obtain ⟨A, cp, rfl, hl, -⟩ := hz
  unfold mtv at *
  unfold mtb at hB0 ht hzz hsz HR
  go_enter Try.func11, Try.ntmps11
  go_wp2_with fail
  generalize (w.alloc _).alloc _ = w0 at *
  generalize hgb : w.heap.size = gb at *
  have hgbH := Lib.hid hgb
  have hszH := Lib.hid hsz
  clear hgb hsz
  refine HR.mono ?_
  rintro e w1 ⟨rfl, hb1⟩
  have hm := keep_blk hb1 ht.1
  have hrr := keep_blk hb1 ht.2
  have hB1 := hB0.trans (hb1.mono (by have := hszH.out; omega))
  have hz1 := hzz.below (hb1.mono (by have := hszH.out; omega : gb ≤ w0.heap.size))
  have hgz : gb + 2 ≤ w1.heap.size := by have := hszH.out; have := hb1.size; omega
  obtain ⟨m0, m1, -⟩ := now2 hm rfl
  clear HR hb1 hB0 ht hzz
  have HC1 := HC _ ls w1 (hz1.more (by omega : gb ≤ w1.heap.size)) hls hlen
  go_wp2_with fail
  refine HC1.mono ?_
  rintro e w9 ⟨u, vs, rfl, ho, hvl, hi, hac, hb9⟩
  obtain ⟨Au, cu, rfl⟩ := own_form ho
  have hr9 := keep_blk hb9 hrr
  obtain ⟨r0, r1, rf⟩ := now2 hr9 rfl
  have hF := fin_copied14 (g := gb + 1) (x := .int .i64 n) ho hvl hi hac (by omega)
  have hr3 := put2 (x0 := .int .i64 n) (x1 := .slice Au ls.length cu) hr9
  obtain ⟨q0, q1, -⟩ := now2 hr3 rfl
  have hB9 := hB1.trans (hb9.mono (by omega : gb ≤ w1.heap.size))
  have hBz := below2 (x0 := .int .i64 n) (x1 := .slice Au ls.length cu) (by omega : gb ≤ gb + 1) hB9
  clear HC1 hr9 hB9 hb9 ho hi hac m0 m1
  go_wp2
  refine bodyPost_ret (v := .tuple #[.agg #[.int .i64 n, .slice Au ls.length cu], .bool false]) (by simp [results, Try.results11, go_sem, q0, q1]) rfl ?_
  exact ⟨_, rfl, hF.1, hF.2, by rw [hgbH.out]; exact hBz⟩
set_option maxHeartbeats 8000000 in
set_option maxRecDepth 100000 in
theorem rows_bad14 (n : Int) (V : Value) (ls : List (List Int)) (w : World) (hz : MatAt w w.heap.size V ls) (hls : ls.length ≤ 4000) (hlen : ∀ r, r ∈ ls → r.length ≤ 4000) (hr : rightM n ls = false) :
    Calls Try.prog 10 #[mtv n V] w fun e w' => ∃ u, e = .returned (.tuple #[mtv n u, .bool false]) ∧ MatAt w' w'.heap.size u ls ∧ CapM w' u ∧ Below w.heap.size w w' := by
  have hB0 := two_below14 w (mtb n V) (.cells #[.int .i64 0, .slice none 0 0] 24 (0, 0))
  have ht := two_made14 w (mtb n V) (.cells #[.int .i64 0, .slice none 0 0] 24 (0, 0))
  have hsz : ((w.alloc (mtb n V)).alloc (.cells #[.int .i64 0, .slice none 0 0] 24 (0, 0))).heap.size = w.heap.size + 2 := by simp
  have HR := cright13 n V ls _ ((hz.below hB0).more hB0.size)
  rw [hr] at HR
  have hzz := hz.below hB0
  have HC := fun (U : Value) (rs : List (List Int)) W (h1 : MatAt W W.heap.size U rs) (h2 : rs.length ≤ 4000) (h3 : ∀ r, r ∈ rs → r.length ≤ 4000) => copied14_any n U rs W h1 h2 h3
  obtain ⟨A, cp, rfl, hl, -⟩ := hz
  unfold mtv at *
  unfold mtb at hB0 ht hzz hsz HR
  go_enter Try.func10, Try.ntmps10
  go_wp2_with fail
  generalize (w.alloc _).alloc _ = w0 at *
  generalize hgb : w.heap.size = gb at *
  have hgbH := Lib.hid hgb
  have hszH := Lib.hid hsz
  clear hgb hsz
  refine HR.mono ?_
  rintro e w1 ⟨rfl, hb1⟩
  have hm := keep_blk hb1 ht.1
  have hrr := keep_blk hb1 ht.2
  have hB1 := hB0.trans (hb1.mono (by have := hszH.out; omega))
  have hz1 := hzz.below (hb1.mono (by have := hszH.out; omega : gb ≤ w0.heap.size))
  have hgz : gb + 2 ≤ w1.heap.size := by have := hszH.out; have := hb1.size; omega
  obtain ⟨m0, m1, -⟩ := now2 hm rfl
  clear HR hb1 hB0 ht hzz
  have HC1 := HC _ ls w1 (hz1.more (by omega : gb ≤ w1.heap.size)) hls hlen
  go_wp2_with fail
  refine HC1.mono ?_
  rintro e w9 ⟨u, vs, rfl, ho, hvl, hi, hac, hb9⟩
  obtain ⟨Au, cu, rfl⟩ := own_form ho
  have hr9 := keep_blk hb9 hrr
  obtain ⟨r0, r1, rf⟩ := now2 hr9 rfl
  have hF := fin_copied14 (g := gb + 1) (x := .int .i64 n) ho hvl hi hac (by omega)
  have hr3 := put2 (x0 := .int .i64 n) (x1 := .slice Au ls.length cu) hr9
  obtain ⟨q0, q1, -⟩ := now2 hr3 rfl
  have hB9 := hB1.trans (hb9.mono (by omega : gb ≤ w1.heap.size))
  have hBz := below2 (x0 := .int .i64 n) (x1 := .slice Au ls.length cu) (by omega : gb ≤ gb + 1) hB9
  clear HC1 hr9 hB9 hb9 ho hi hac m0 m1
  go_wp2
  refine bodyPost_ret (v := .tuple #[.agg #[.int .i64 n, .slice Au ls.length cu], .bool false]) (by simp [results, Try.results10, go_sem, q0, q1]) rfl ?_
  exact ⟨_, rfl, hF.1, hF.2, by rw [hgbH.out]; exact hBz⟩
set_option maxHeartbeats 8000000 in
set_option maxRecDepth 100000 in
theorem take_good14 (n : Int) (V : Value) (ls : List (List Int)) (w : World) (hz : MatAt w w.heap.size V ls) (hcap : CapM w V) (hls : ls.length ≤ 4000) (hlen : ∀ r, r ∈ ls → r.length ≤ 4000) (hr : rightM n ls = true) :
    Calls Try.prog 9 #[mtv n V] w fun e w' => ∃ u, e = .returned (.tuple #[mtv n u, .int .i64 (tkV ls), .bool (tkC ls).isSome]) ∧ MatAt w' w'.heap.size u (tkL ls) ∧ CapM w' u ∧ Below w.heap.size w w' := by
  have hB0 := two_below14 w (mtb n V) (.cells #[.int .i64 0, .slice none 0 0] 24 (0, 0))
  have ht := two_made14 w (mtb n V) (.cells #[.int .i64 0, .slice none 0 0] 24 (0, 0))
  have hsz : ((w.alloc (mtb n V)).alloc (.cells #[.int .i64 0, .slice none 0 0] 24 (0, 0))).heap.size = w.heap.size + 2 := by simp
  have HR := cright13 n V ls _ ((hz.below hB0).more hB0.size)
  rw [hr] at HR
  have hzz := hz.below hB0
  have HC := fun (U : Value) (rs : List (List Int)) W (h1 : MatAt W W.heap.size U rs) (h2 : rs.length ≤ 4000) (h3 : ∀ r, r ∈ rs → r.length ≤ 4000) => copied14_any n U rs W h1 h2 h3
  have HT := fun (U : Value) W (h1 : MatAt W W.heap.size U ls) (h2 : CapM W U) => take14_any n U ls W h1 h2 hls
  have HL1 : (tkL ls).length ≤ 4000 ∧ ∀ r, r ∈ tkL ls → r.length ≤ 4000 := tkl_small14 hls hlen
  generalize tkL ls = XL at *
  generalize tkV ls = X2 at *
  generalize (tkC ls).isSome = X3 at *
  obtain ⟨A, cp, rfl, hl, -⟩ := hz
  have hcapH := Lib.hid hcap
  clear hcap
  unfold mtv at *
  unfold mtb at hB0 ht hzz hsz HR
  go_enter Try.func9, Try.ntmps9
  go_wp2_with fail
  generalize (w.alloc _).alloc _ = w0 at *
  generalize hgb : w.heap.size = gb at *
  have hgbH := Lib.hid hgb
  have hszH := Lib.hid hsz
  clear hgb hsz
  refine HR.mono ?_
  rintro e w1 ⟨rfl, hb1⟩
  have hm := keep_blk hb1 ht.1
  have hrr := keep_blk hb1 ht.2
  have hB1 := hB0.trans (hb1.mono (by have := hszH.out; omega))
  have hz1 := hzz.below (hb1.mono (by have := hszH.out; omega : gb ≤ w0.heap.size))
  have hgz : gb + 2 ≤ w1.heap.size := by have := hszH.out; have := hb1.size; omega
  obtain ⟨m0, m1, -⟩ := now2 hm rfl
  clear HR hb1 hB0 ht hzz
  have HT1 := HT _ w1 (hz1.more (by omega : gb ≤ w1.heap.size)) (hcapH.out.below (by rw [hgbH.out]; exact hB1))
  go_wp2_with fail
  refine HT1.mono ?_
  rintro e w2 ⟨v, rfl, hv, hcv, hb2⟩
  obtain ⟨Av, cv, rfl, -, -⟩ := id hv
  have hbx := below_alloc1 w2 (.cells #[.int .i64 n, .slice Av XL.length cv] 24 (0, 0))
  have hx := heap_alloc_new w2 (.cells #[.int .i64 n, .slice Av XL.length cv] 24 (0, 0))
  replace hrr := keep_blk hbx (keep_blk hb2 hrr)
  have hB3 := (hB1.trans (hb2.mono (by omega))).trans (hbx.mono (by have := hb2.size; omega))
  have hv3 := (hv.below hbx).more hbx.size
  have hgz3 : gb + 2 ≤ (w2.alloc (.cells #[.int .i64 n, .slice Av XL.length cv] 24 (0, 0))).heap.size := by have := hb2.size; have := hbx.size; omega
  clear HT1 HT m0 m1 hz1 hv hb2 hbx hm
  obtain ⟨m0, m1, -⟩ := now2 hx rfl
  have HC1 := HC _ XL (w2.alloc (.cells #[.int .i64 n, .slice Av XL.length cv] 24 (0, 0))) hv3 HL1.1 HL1.2
  go_wp2_with fail
  refine HC1.mono ?_
  rintro e w9 ⟨u, vs, rfl, ho, hvl, hi, hac, hb9⟩
  obtain ⟨Au, cu, rfl⟩ := own_form ho
  have hr9 := keep_blk hb9 hrr
  obtain ⟨r0, r1, rf⟩ := now2 hr9 rfl
  have hF := fin_copied14 (g := gb + 1) (x := .int .i64 n) ho hvl hi hac (by omega)
  have hr3 := put2 (x0 := .int .i64 n) (x1 := .slice Au XL.length cu) hr9
  obtain ⟨q0, q1, -⟩ := now2 hr3 rfl
  have hB9 := hB3.trans (hb9.mono (by omega : gb ≤ (w2.alloc (.cells #[.int .i64 n, .slice Av XL.length cv] 24 (0, 0))).heap.size))
  have hBz := below2 (x0 := .int .i64 n) (x1 := .slice Au XL.length cu) (by omega : gb ≤ gb + 1) hB9
  clear HC1 hr9 hB9 hb9 ho hi hac m0 m1
  go_wp2
  refine bodyPost_ret (v := .tuple #[.agg #[.int .i64 n, .slice Au XL.length cu], .int .i64 X2, .bool X3]) (by simp [results, Try.results9, go_sem, q0, q1]) rfl ?_
  exact ⟨_, rfl, hF.1, hF.2, by rw [hgbH.out]; exact hBz⟩
set_option maxHeartbeats 8000000 in
set_option maxRecDepth 100000 in
theorem cols_good14 (n : Int) (V : Value) (ls : List (List Int)) (w : World) (hz : MatAt w w.heap.size V ls) (hcap : CapM w V) (hls : ls.length ≤ 4000) (hlen : ∀ r, r ∈ ls → r.length ≤ 4000) (hr : rightM n ls = true) :
    Calls Try.prog 11 #[mtv n V] w fun e w' => ∃ u, e = .returned (.tuple #[mtv n u, .bool (clI ls n.toNat).isSome]) ∧ MatAt w' w'.heap.size u (clL ls n.toNat) ∧ CapM w' u ∧ Below w.heap.size w w' := by
  have hB0 := two_below14 w (mtb n V) (.cells #[.int .i64 0, .slice none 0 0] 24 (0, 0))
  have ht := two_made14 w (mtb n V) (.cells #[.int .i64 0, .slice none 0 0] 24 (0, 0))
  have hsz : ((w.alloc (mtb n V)).alloc (.cells #[.int .i64 0, .slice none 0 0] 24 (0, 0))).heap.size = w.heap.size + 2 := by simp
  have HR := cright13 n V ls _ ((hz.below hB0).more hB0.size)
  rw [hr] at HR
  have hzz := hz.below hB0
  have HC := fun (U : Value) (rs : List (List Int)) W (h1 : MatAt W W.heap.size U rs) (h2 : rs.length ≤ 4000) (h3 : ∀ r, r ∈ rs → r.length ≤ 4000) => copied14_any n U rs W h1 h2 h3
  obtain ⟨hn0, hn4, hri⟩ := right_iff.1 hr
  obtain ⟨N, rfl⟩ : ∃ N : Nat, n = N := ⟨n.toNat, by omega⟩
  rw [Int.toNat_natCast]
  have HT := fun (U : Value) W (h1 : MatAt W W.heap.size U ls) (h2 : CapM W U) => removeColumn14_any N U ls W h1 h2 (by omega) hls hri
  have HL1 : (clL ls N).length ≤ 4000 ∧ ∀ r, r ∈ clL ls N → r.length ≤ 4000 := cll_small14 hls hlen
  generalize clL ls N = XL at *
  generalize (clI ls N).isSome = X3 at *
  have hid : ∃ n : Int, n = (N : Int) := ⟨_, rfl⟩
  obtain ⟨A, cp, rfl, hl, -⟩ := hz
  have hcapH := Lib.hid hcap
  clear hcap
  unfold mtv at *
  unfold mtb at hB0 ht hzz hsz HR
  go_enter Try.func11, Try.ntmps11
  go_wp2_with fail
  generalize (w.alloc _).alloc _ = w0 at *
  generalize hgb : w.heap.size = gb at *
  have hgbH := Lib.hid hgb
  have hszH := Lib.hid hsz
  clear hgb hsz
  refine HR.mono ?_
  rintro e w1 ⟨rfl, hb1⟩
  have hm := keep_blk hb1 ht.1
  have hrr := keep_blk hb1 ht.2
  have hB1 := hB0.trans (hb1.mono (by have := hszH.out; omega))
  have hz1 := hzz.below (hb1.mono (by have := hszH.out; omega : gb ≤ w0.heap.size))
  have hgz : gb + 2 ≤ w1.heap.size := by have := hszH.out; have := hb1.size; omega
  obtain ⟨m0, m1, -⟩ := now2 hm rfl
  clear HR hb1 hB0 ht hzz
  have HT1 := HT _ w1 (hz1.more (by omega : gb ≤ w1.heap.size)) (hcapH.out.below (by rw [hgbH.out]; exact hB1))
  go_wp2_with fail
  refine HT1.mono ?_
  rintro e w2 ⟨v, rfl, hv, hcv, hb2⟩
  obtain ⟨Av, cv, rfl, -, -⟩ := id hv
  have hbx := below_alloc1 w2 (.cells #[.int .i64 N, .slice Av XL.length cv] 24 (0, 0))
  have hx := heap_alloc_new w2 (.cells #[.int .i64 N, .slice Av XL.length cv] 24 (0, 0))
  replace hrr := keep_blk hbx (keep_blk hb2 hrr)
  have hB3 := (hB1.trans (hb2.mono (by omega))).trans (hbx.mono (by have := hb2.size; omega))
  have hv3 := (hv.below hbx).more hbx.size
  have hgz3 : gb + 2 ≤ (w2.alloc (.cells #[.int .i64 N, .slice Av XL.length cv] 24 (0, 0))).heap.size := by have := hb2.size; have := hbx.size; omega
  clear HT1 HT m0 m1 hz1 hv hb2 hbx hm
  obtain ⟨m0, m1, -⟩ := now2 hx rfl
  have HC1 := HC _ XL (w2.alloc (.cells #[.int .i64 N, .slice Av XL.length cv] 24 (0, 0))) hv3 HL1.1 HL1.2
  go_wp2_with fail
  refine HC1.mono ?_
  rintro e w9 ⟨u, vs, rfl, ho, hvl, hi, hac, hb9⟩
  obtain ⟨Au, cu, rfl⟩ := own_form ho
  have hr9 := keep_blk hb9 hrr
  obtain ⟨r0, r1, rf⟩ := now2 hr9 rfl
  have hF := fin_copied14 (g := gb + 1) (x := .int .i64 N) ho hvl hi hac (by omega)
  have hr3 := put2 (x0 := .int .i64 N) (x1 := .slice Au XL.length cu) hr9
  obtain ⟨q0, q1, -⟩ := now2 hr3 rfl
  have hB9 := hB3.trans (hb9.mono (by omega : gb ≤ (w2.alloc (.cells #[.int .i64 N, .slice Av XL.length cv] 24 (0, 0))).heap.size))
  have hBz := below2 (x0 := .int .i64 N) (x1 := .slice Au XL.length cu) (by omega : gb ≤ gb + 1) hB9
  clear HC1 hr9 hB9 hb9 ho hi hac m0 m1
  go_wp2
  refine bodyPost_ret (v := .tuple #[.agg #[.int .i64 N, .slice Au XL.length cu], .bool X3]) (by simp [results, Try.results11, go_sem, q0, q1]) rfl ?_
  exact ⟨_, rfl, hF.1, hF.2, by rw [hgbH.out]; exact hBz⟩
end Go.Proofs.Ytjjpobpcpgcbaaa
