/- permitted and Points of the package spec, for every spec and all rows. What the statements of layer 13 say of package cover, as contracts; CoverRights over them. -/
import Derived.Test.YtdfllifjbabfjaaDoorGD14
import Derived.Test.YtdfllifjbabfjaaDoorGD15
import Derived.Test.YtdfllifjbabfjaaDoorGD06
import Derived.Test.YtdfllifjbabfjaaDoorGD04
import Derived.Lib.AppendIntMem
namespace Go.Proofs.YtdfllifjbabfjaaDoor
open Go.RowKit Go.Joins

/-- What Points refuses. -/
def ptsBad (rs : List Rw) (n out : Int) : Prop := n < 0 ∨ (0 ≤ n ∧ 8 < n) ∨ (0 ≤ n ∧ n ≤ 8 ∧ out < 0) ∨ (0 ≤ n ∧ n ≤ 8 ∧ 0 ≤ out ∧ 4 ≤ out) ∨ (0 ≤ n ∧ n ≤ 8 ∧ 0 ≤ out ∧ out < 4 ∧ (rs.all fun x => rightB x.m x.v n) = false)
set_option maxHeartbeats 2000000 in
set_option maxRecDepth 100000 in
theorem spoints_bad (L : Value) (rs : List Rw) (n out : Int) (w : World) (hL : RwsAt w w.heap.size L rs) (h : ptsBad rs n out) :
    Calls Tryd.prog 36 #[L, .int .i64 n, .int .i64 out] w fun e w' => e = .returned (.tuple #[sv 0, .int .i64 1]) ∧ Below w.heap.size w w' := by
  have HC := fun w1 (h : Below w.heap.size w w1) => cubesRight_any L rs n w1 ((hL.below h).more h.size)
  have hB0 := below_alloc1 w (.cells #[Value.int IntKind.u64 0, Value.int IntKind.u64 0, Value.int IntKind.u64 0, Value.int IntKind.u64 0] 34)
  have hn0 := heap_alloc_new w (.cells #[Value.int IntKind.u64 0, Value.int IntKind.u64 0, Value.int IntKind.u64 0, Value.int IntKind.u64 0] 34)
  have HC0 := HC _ hB0
  obtain ⟨A, c, rfl, hlen, -⟩ := hL
  rcases h with h | ⟨h1, h⟩ | ⟨h1, h2, h⟩ | ⟨h1, h2, h3, h⟩ | ⟨h1, h2, h3, h4, h⟩
  · clear HC HC0
    go_enter Tryd.func36, Tryd.ntmps36
    go_wp2
    exact bodyPost_ret (v := .tuple #[.agg #[.int .u64 0, .int .u64 0, .int .u64 0, .int .u64 0], .int .i64 1]) (by simp [results, Tryd.results36, go_sem]) rfl
      ⟨rfl, hB0⟩
  · clear HC HC0
    go_enter Tryd.func36, Tryd.ntmps36
    go_wp2
    exact bodyPost_ret (v := .tuple #[.agg #[.int .u64 0, .int .u64 0, .int .u64 0, .int .u64 0], .int .i64 1]) (by simp [results, Tryd.results36, go_sem]) rfl
      ⟨rfl, hB0⟩
  · clear HC HC0
    go_enter Tryd.func36, Tryd.ntmps36
    go_wp2
    exact bodyPost_ret (v := .tuple #[.agg #[.int .u64 0, .int .u64 0, .int .u64 0, .int .u64 0], .int .i64 1]) (by simp [results, Tryd.results36, go_sem]) rfl
      ⟨rfl, hB0⟩
  · clear HC HC0
    go_enter Tryd.func36, Tryd.ntmps36
    go_wp2
    exact bodyPost_ret (v := .tuple #[.agg #[.int .u64 0, .int .u64 0, .int .u64 0, .int .u64 0], .int .i64 1]) (by simp [results, Tryd.results36, go_sem]) rfl
      ⟨rfl, hB0⟩
  · rw [h] at HC0
    clear HC h
    go_enter Tryd.func36, Tryd.ntmps36
    go_wp2_with fail
    refine HC0.mono ?_
    rintro e w1 ⟨rfl, hb1⟩
    have hn1 := keep_blk hb1 hn0
    have hB1 := hB0.trans (hb1.mono hB0.size)
    obtain ⟨c0, c1, c2, c3, cf⟩ := now4 hn1 rfl
    clear HC0 hb1
    go_wp2
    exact bodyPost_ret (v := .tuple #[.agg #[.int .u64 0, .int .u64 0, .int .u64 0, .int .u64 0], .int .i64 1]) (by simp [results, Tryd.results36, go_sem, c0, c1, c2, c3]) rfl
      ⟨rfl, below4 (Nat.le_refl _) hB1⟩
set_option maxHeartbeats 4000000 in
set_option maxRecDepth 100000 in
theorem spoints_good (L : Value) (rs : List Rw) (n out : Nat) (w : World) (hL : RwsAt w w.heap.size L rs) (hn : n ≤ 8) (ho : out < 4) (hr : (rs.all fun x => rightB x.m x.v n) = true) :
    Calls Tryd.prog 36 #[L, .int .i64 n, .int .i64 out] w fun e w' => e = .returned (.tuple #[sv (ptsR rs n out), .int .i64 0]) ∧ Below w.heap.size w w' := by
  have hB0 := below_alloc1 w (.cells #[Value.int IntKind.u64 0, Value.int IntKind.u64 0, Value.int IntKind.u64 0, Value.int IntKind.u64 0] 34)
  have hn0 := heap_alloc_new w (.cells #[Value.int IntKind.u64 0, Value.int IntKind.u64 0, Value.int IntKind.u64 0, Value.int IntKind.u64 0] 34)
  have HC0 := cubesRight_any L rs n _ ((hL.below hB0).more hB0.size)
  rw [hr] at HC0
  have hall : Hid (∀ (j : Nat) (x : Rw), rs[j]? = some x → rightB x.m x.v n = true) := Lib.hid (fun j x h => by
    rw [List.all_eq_true] at hr
    exact hr x (List.mem_of_getElem? h))
  have hz := Lib.hid (ptsR_zero rs n out)
  have hskip := Lib.hid (fun (j : Nat) (x : Rw) (h : rs[j]? = some x) (hb : x.o.getLsbD out = false) => ptsR_skip h hb n)
  have hstep := Lib.hid (fun (j : Nat) (x : Rw) (h : rs[j]? = some x) (hb : x.o.getLsbD out = true) => ptsR_step h hb (hall.out j x h))
  have hend : Hid (ptsR (rs.take rs.length) n out = ptsR rs n out) := Lib.hid (by rw [List.take_length])
  generalize ptsR rs n out = R at *
  obtain ⟨A, c, rfl, hlen, hA⟩ := hL
  clear hr
  go_enter Tryd.func36, Tryd.ntmps36
  go_wp2_with fail
  refine HC0.mono ?_
  rintro e w1 ⟨rfl, hb1⟩
  have hn1 := keep_blk hb1 hn0
  have hB1 := hB0.trans (hb1.mono hB0.size)
  have hB2 := hB1.alloc hB1.size (.cells #[Value.int IntKind.u64 0, Value.int IntKind.u64 0, Value.int IntKind.u64 0, Value.int IntKind.u64 0] 34)
  have ha2 := heap_alloc_new w1 (.cells #[Value.int IntKind.u64 0, Value.int IntKind.u64 0, Value.int IntKind.u64 0, Value.int IntKind.u64 0] 34)
  have hn2 := keep_alloc (x := .cells #[Value.int IntKind.u64 0, Value.int IntKind.u64 0, Value.int IntKind.u64 0, Value.int IntKind.u64 0] 34) hn1
  have hz1 := hB1.size
  have hzz := size_of_block hn1
  generalize hbl : w1.heap.size = bl at *
  have hz0 : Hid (.cells #[Value.int IntKind.u64 0, Value.int IntKind.u64 0, Value.int IntKind.u64 0, Value.int IntKind.u64 0] 34 (0, 0) = Obj.cells (sa (ptsR (rs.take 0) n out)) 34 (0, 0)) := Lib.hid (by rw [hz.out]; rfl)
  clear HC0 hb1 hn1 hB1 hn0 hB0
  go_wp2
  go_loopw [10, 11, 12, 36] (fun _ _ _ t wr => ∃ j : Nat, j ≤ rs.length ∧ t = .int .i64 j ∧ Below w.heap.size w wr ∧ wr.heap[bl]? = some (.cells (sa (ptsR (rs.take j) n out)) 34 (0, 0)) ∧
    wr.heap[w.heap.size]? = some (.cells #[Value.int IntKind.u64 0, Value.int IntKind.u64 0, Value.int IntKind.u64 0, Value.int IntKind.u64 0] 34 (0, 0))) (fun _ _ _ t _ => rs.length - (intOf t).toNat)
  case atStart => exact ⟨0, by omega, rfl, hB2, by rw [← hz0.out]; exact ha2, hn2⟩
  case round =>
    clear hB2 ha2 hn2 hz0 hz
    obtain ⟨j, hj, rfl, hb, hal, hres⟩ := hrel
    by_cases hlt : j < rs.length
    · obtain ⟨b, off, rfl, hBb, hc⟩ := hA (by omega)
      obtain ⟨x, hx⟩ : ∃ x, rs[j]? = some x := ⟨_, List.getElem?_eq_getElem hlt⟩
      obtain ⟨c0, c1, c2⟩ := hc j x hx
      have d0 := (hb.cell (p := ⟨b, off + j * 3, none⟩) hBb).trans c0
      have d1 := (hb.cell (p := ⟨b, off + j * 3 + 1, none⟩) hBb).trans c1
      have d2 := (hb.cell (p := ⟨b, off + j * 3 + 2, none⟩) hBb).trans c2
      have HV := fun w => value_any x.o out (by omega) w
      have hgx := Lib.hid hx
      clear hc c0 c1 c2 hA hx
      cases hbit : x.o.getLsbD out
      · have hst := Lib.hid (hskip.out j x hgx.out hbit)
        rw [show bitI x.o out = 0 by unfold bitI; rw [hbit]; rfl] at HV
        have hB3 := hb.alloc hb.size (.cells #[bvv x.m, bvv x.v, bvv x.o] 44)
        have hal3 := keep_alloc (x := .cells #[bvv x.m, bvv x.v, bvv x.o] 44) hal
        have hres3 := keep_alloc (x := .cells #[bvv x.m, bvv x.v, bvv x.o] 44) hres
        unfold bvv at *
        clear hbit hskip hstep hend
        go_wp2_with (go_at_call 49; refine (HV _).mono ?_; rintro e w' ⟨rfl, rfl⟩)
        go_roundw
        case rel => exact ⟨j + 1, by omega, by go_num, hB3, by rw [hst.out]; exact hal3, hres3⟩
        case measure => simp [intOf]; omega
      · have hst := Lib.hid (hstep.out j x hgx.out hbit)
        rw [show bitI x.o out = 1 by unfold bitI; rw [hbit]; rfl] at HV
        have HP := fun w => cpoints_yes (hall.out j x hgx.out) w
        have HO := fun w => or_any (ptsR (rs.take j) n out) (cpts x.m x.v n n) w
        rw [← hst.out] at HO
        generalize hS : ptsR (rs.take j) n out = S at *
        generalize hS2 : ptsR (rs.take (j + 1)) n out = S2 at *
        generalize cpts x.m x.v n n = P at *
        have hB3 := hb.alloc hb.size (.cells #[bvv x.m, bvv x.v, bvv x.o] 44)
        have hal3 := keep_alloc (x := .cells #[bvv x.m, bvv x.v, bvv x.o] 44) hal
        have hres3 := keep_alloc (x := .cells #[bvv x.m, bvv x.v, bvv x.o] 44) hres
        unfold cv bvv sv at *
        clear hbit hskip hstep hend hal hres
        go_wp2_with (go_at_call 49; refine (HV _).mono ?_; rintro e w' ⟨rfl, rfl⟩)
        refine (HP _).mono ?_
        rintro e w4 ⟨rfl, hb4⟩
        have hB4 := hB3.trans (hb4.mono hB3.size)
        have hal4 := keep_blk hb4 hal3
        have hres4 := keep_blk hb4 hres3
        have hB5 := hB4.alloc hB4.size (.cells (sa P) 34)
        have hal5 := keep_alloc (x := .cells (sa P) 34) hal4
        have hres5 := keep_alloc (x := .cells (sa P) 34) hres4
        obtain ⟨s0, s1, s2, s3, sf⟩ := now4 hal5 rfl
        have hbl4 := size_of_block hal4
        clear HP HV hb4 hal3 hres3 hB3 hB4 hb hres4
        unfold sa wv at *
        go_wp2_with fail
        refine (HO _).mono ?_
        rintro e w6 ⟨rfl, hb6⟩
        have hB6 := hB5.trans (hb6.mono hB5.size)
        have hal6 := keep_blk hb6 hal5
        have hres6 := keep_blk hb6 hres5
        obtain ⟨s0, s1, s2, s3, sf⟩ := now4 hal6 rfl
        clear HO hb6 hal5 hres5 hB5
        go_wp2
        go_roundw
        case rel => exact ⟨j + 1, by omega, by go_num, below4 (by omega) hB6, by rw [hS2]; exact put4 hal6, keep_set4 (by omega) hres6⟩
        case measure => simp [intOf]; omega
    · have e : j = rs.length := by omega
      subst e
      rw [hend.out] at hal
      obtain ⟨s0, s1, s2, s3, sf⟩ := now4 hal rfl
      obtain ⟨r0, r1, r2, r3, rf⟩ := now4 hres rfl
      clear hA hskip hstep hend hall hal
      unfold wv at *
      go_wp2
      exact bodyPost_ret (v := .tuple #[.agg #[.int .u64 (wd R 0).toNat, .int .u64 (wd R 1).toNat, .int .u64 (wd R 2).toNat, .int .u64 (wd R 3).toNat], .int .i64 0]) (by simp [results, Tryd.results36, go_sem, r0, r1, r2, r3]) rfl
        ⟨rfl, below4 (Nat.le_refl _) hb⟩
end Go.Proofs.YtdfllifjbabfjaaDoor
namespace Go.Proofs.YtdfllifjbabfjaaDoor
open Go.RowKit Go.Joins

def RightV : Prop := ∀ (n : Int) (L : Value) (ls : List (List Int)) (w : World), MatAt w w.heap.size L ls → Calls Tryd.prog 8 #[mtv n L] w fun e w' => e = .returned (.bool (rightM n ls)) ∧ Below w.heap.size w w'
def SolvesV : Prop := ∀ (n : Int) (L u : Value) (ls : List (List Int)) (cols : List Int) (w : World), MatAt w w.heap.size L ls → IntsAt w w.heap.size u cols → Calls Tryd.prog 9 #[mtv n L, u] w fun e w' => e = .returned (.bool (rightM n ls && solvesM ls cols)) ∧ Below w.heap.size w w'
/-- The table of powers lies in memory. -/
def TabW (w : World) : Prop := Lib.TabIs Tryd.prog w "internal/strconv.uint64pow10" .u64 Lib.pow10Tab
theorem TabW.below {w w1 : World} (h : TabW w) (hb : Below w.heap.size w w1) : TabW w1 := Lib.tabBelow_of_tabIs h w1 hb
def Knows13 : Prop := ∀ w : World, TabW w → Calls Tryd.prog 6 #[] w fun e w' => e = .returned (.bool true) ∧ Below w.heap.size w w'
set_option maxHeartbeats 4000000 in
set_option maxRecDepth 100000 in
theorem rights13_great (HK : Knows13) (n : Int) (L u : Value) (ls : List (List Int)) (cols : List Int) (w : World) (hT : TabW w) (hL : MatAt w w.heap.size L ls) (hu : IntsAt w w.heap.size u cols) (hg : greatM ls = true) :
    Calls Tryd.prog 3 #[mtv n L, u] w fun e w' => e = .returned (.bool true) ∧ Below w.heap.size w w' := by
  have hB0 := below_alloc1 w (mtb n L)
  have hbu : (w.alloc (mtb n L)).heap[w.heap.size]? = some (mtb n L) := heap_alloc_new _ _
  have HG := fun W (hb : Below w.heap.size w W) => great13_any n L ls W ((hL.below hb).more hb.size)
  have HK1 := fun W (h : Below w.heap.size w W) => HK W (hT.below h)
  rw [hg] at HG
  clear hg
  obtain ⟨A, c, rfl, hlen, -⟩ := hL
  obtain ⟨A2, c2, rfl, hlu, -⟩ := hu
  unfold mtb at hB0 hbu
  unfold mtv at *
  obtain ⟨u0, u1, -⟩ := now2 hbu rfl
  go_enter Tryd.func3, Tryd.ntmps3
  have Hc := HG _ hB0
  go_wp2_with fail
  refine Hc.mono ?_
  rintro e w1 ⟨rfl, hb⟩
  have hB1 := hB0.trans (hb.mono hB0.size)
  replace hbu := keep_blk hb hbu
  clear u0 u1 hb Hc hB0
  obtain ⟨u0, u1, -⟩ := now2 hbu rfl
  have Hc := HK1 _ hB1
  go_wp2_with fail
  refine Hc.mono ?_
  rintro e w2 ⟨rfl, hb⟩
  have hB2 := hB1.trans (hb.mono hB1.size)
  clear hb Hc
  go_wp2
  go_ret
  exact ⟨rfl, hB2⟩
set_option maxHeartbeats 4000000 in
set_option maxRecDepth 100000 in
theorem rights13_many (HK : Knows13) (n : Int) (L u : Value) (ls : List (List Int)) (cols : List Int) (w : World) (hT : TabW w) (hL : MatAt w w.heap.size L ls) (hu : IntsAt w w.heap.size u cols) (hg : greatM ls = false) (hm : 100 < cols.length) :
    Calls Tryd.prog 3 #[mtv n L, u] w fun e w' => e = .returned (.bool true) ∧ Below w.heap.size w w' := by
  have hB0 := below_alloc1 w (mtb n L)
  have hbu : (w.alloc (mtb n L)).heap[w.heap.size]? = some (mtb n L) := heap_alloc_new _ _
  have HG := fun W (hb : Below w.heap.size w W) => great13_any n L ls W ((hL.below hb).more hb.size)
  have HK1 := fun W (h : Below w.heap.size w W) => HK W (hT.below h)
  rw [hg] at HG
  clear hg
  have hm1 : decide ((100 : Int) < (cols.length : Int)) = true := decide_eq_true (by omega)
  obtain ⟨A, c, rfl, hlen, -⟩ := hL
  obtain ⟨A2, c2, rfl, hlu, -⟩ := hu
  unfold mtb at hB0 hbu
  unfold mtv at *
  obtain ⟨u0, u1, -⟩ := now2 hbu rfl
  go_enter Tryd.func3, Tryd.ntmps3
  have Hc := HG _ hB0
  go_wp2_with fail
  refine Hc.mono ?_
  rintro e w1 ⟨rfl, hb⟩
  have hB1 := hB0.trans (hb.mono hB0.size)
  replace hbu := keep_blk hb hbu
  clear u0 u1 hb Hc hB0
  obtain ⟨u0, u1, -⟩ := now2 hbu rfl
  have Hc := HK1 _ hB1
  go_wp2_with fail
  refine Hc.mono ?_
  rintro e w2 ⟨rfl, hb⟩
  have hB2 := hB1.trans (hb.mono hB1.size)
  clear hb Hc
  go_wp2
  go_ret
  exact ⟨rfl, hB2⟩
set_option maxHeartbeats 4000000 in
set_option maxRecDepth 100000 in
theorem rights13_no (HR : RightV) (HS : SolvesV) (HK : Knows13) (n : Int) (L u : Value) (ls : List (List Int)) (cols : List Int) (w : World) (hT : TabW w) (hL : MatAt w w.heap.size L ls) (hu : IntsAt w w.heap.size u cols) (hg : greatM ls = false) (hm : ¬ 100 < cols.length) (hr : rightM n ls = false) :
    Calls Tryd.prog 3 #[mtv n L, u] w fun e w' => e = .returned (.bool true) ∧ Below w.heap.size w w' := by
  have hB0 := below_alloc1 w (mtb n L)
  have hbu : (w.alloc (mtb n L)).heap[w.heap.size]? = some (mtb n L) := heap_alloc_new _ _
  have HG := fun W (hb : Below w.heap.size w W) => great13_any n L ls W ((hL.below hb).more hb.size)
  have HK1 := fun W (h : Below w.heap.size w W) => HK W (hT.below h)
  have C1 := fun W (hb : Below w.heap.size w W) => rright13_any W L n ls ((hL.below hb).more hb.size)
  have C2 := fun W (hb : Below w.heap.size w W) => HR n L ls W ((hL.below hb).more hb.size)
  have C3 := fun W (hb : Below w.heap.size w W) => HS n L u ls cols W ((hL.below hb).more hb.size) ((hu.below hb).more hb.size)
  have C4 := fun W (hb : Below w.heap.size w W) => rsolves13_any W L u ls cols ((hL.below hb).more hb.size) ((hu.below hb).more hb.size)
  rw [hg] at HG
  clear hg
  have hm1 : decide ((100 : Int) < (cols.length : Int)) = false := decide_eq_false (by omega)
  rw [hr] at C1 C2 C3
  clear C4 hr
  rw [Bool.false_and] at C3
  obtain ⟨A, c, rfl, hlen, -⟩ := hL
  obtain ⟨A2, c2, rfl, hlu, -⟩ := hu
  unfold mtb at hB0 hbu
  unfold mtv at *
  obtain ⟨u0, u1, -⟩ := now2 hbu rfl
  go_enter Tryd.func3, Tryd.ntmps3
  have Hc := HG _ hB0
  go_wp2_with fail
  refine Hc.mono ?_
  rintro e w1 ⟨rfl, hb⟩
  have hB1 := hB0.trans (hb.mono hB0.size)
  replace hbu := keep_blk hb hbu
  clear u0 u1 hb Hc hB0
  obtain ⟨u0, u1, -⟩ := now2 hbu rfl
  have Hc := C1 _ hB1
  go_wp2_with fail
  refine Hc.mono ?_
  rintro e w2 ⟨rfl, hb⟩
  have hB2 := hB1.trans (hb.mono hB1.size)
  replace hbu := keep_blk hb hbu
  clear u0 u1 hb Hc hB1
  obtain ⟨u0, u1, -⟩ := now2 hbu rfl
  have Hc := C2 _ hB2
  go_wp2_with fail
  refine Hc.mono ?_
  rintro e w3 ⟨rfl, hb⟩
  have hB3 := hB2.trans (hb.mono hB2.size)
  replace hbu := keep_blk hb hbu
  clear u0 u1 hb Hc hB2
  obtain ⟨u0, u1, -⟩ := now2 hbu rfl
  have Hc := C3 _ hB3
  go_wp2_with fail
  refine Hc.mono ?_
  rintro e w4 ⟨rfl, hb⟩
  have hB4 := hB3.trans (hb.mono hB3.size)
  replace hbu := keep_blk hb hbu
  clear u0 u1 hb Hc hB3
  obtain ⟨u0, u1, -⟩ := now2 hbu rfl
  have Hc := HK1 _ hB4
  go_wp2_with fail
  refine Hc.mono ?_
  rintro e w5 ⟨rfl, hb⟩
  have hB5 := hB4.trans (hb.mono hB4.size)
  clear hb Hc
  go_wp2
  go_ret
  exact ⟨rfl, hB5⟩
set_option maxHeartbeats 4000000 in
set_option maxRecDepth 100000 in
theorem rights13_yes (HR : RightV) (HS : SolvesV) (HK : Knows13) (n : Int) (L u : Value) (ls : List (List Int)) (cols : List Int) (w : World) (hT : TabW w) (hL : MatAt w w.heap.size L ls) (hu : IntsAt w w.heap.size u cols) (hg : greatM ls = false) (hm : ¬ 100 < cols.length) (hr : rightM n ls = true) :
    Calls Tryd.prog 3 #[mtv n L, u] w fun e w' => e = .returned (.bool true) ∧ Below w.heap.size w w' := by
  have hB0 := below_alloc1 w (mtb n L)
  have hbu : (w.alloc (mtb n L)).heap[w.heap.size]? = some (mtb n L) := heap_alloc_new _ _
  have HG := fun W (hb : Below w.heap.size w W) => great13_any n L ls W ((hL.below hb).more hb.size)
  have HK1 := fun W (h : Below w.heap.size w W) => HK W (hT.below h)
  have C1 := fun W (hb : Below w.heap.size w W) => rright13_any W L n ls ((hL.below hb).more hb.size)
  have C2 := fun W (hb : Below w.heap.size w W) => HR n L ls W ((hL.below hb).more hb.size)
  have C3 := fun W (hb : Below w.heap.size w W) => HS n L u ls cols W ((hL.below hb).more hb.size) ((hu.below hb).more hb.size)
  have C4 := fun W (hb : Below w.heap.size w W) => rsolves13_any W L u ls cols ((hL.below hb).more hb.size) ((hu.below hb).more hb.size)
  rw [hg] at HG
  clear hg
  have hm1 : decide ((100 : Int) < (cols.length : Int)) = false := decide_eq_false (by omega)
  rw [hr] at C1 C2 C3
  clear hr
  rw [Bool.true_and] at C3
  generalize hss : solvesM ls cols = ss at C3 C4
  clear hss
  have hee : (ss == ss) = true := by simp
  obtain ⟨A, c, rfl, hlen, -⟩ := hL
  obtain ⟨A2, c2, rfl, hlu, -⟩ := hu
  unfold mtb at hB0 hbu
  unfold mtv at *
  obtain ⟨u0, u1, -⟩ := now2 hbu rfl
  go_enter Tryd.func3, Tryd.ntmps3
  have Hc := HG _ hB0
  go_wp2_with fail
  refine Hc.mono ?_
  rintro e w1 ⟨rfl, hb⟩
  have hB1 := hB0.trans (hb.mono hB0.size)
  replace hbu := keep_blk hb hbu
  clear u0 u1 hb Hc hB0
  obtain ⟨u0, u1, -⟩ := now2 hbu rfl
  have Hc := C1 _ hB1
  go_wp2_with fail
  refine Hc.mono ?_
  rintro e w2 ⟨rfl, hb⟩
  have hB2 := hB1.trans (hb.mono hB1.size)
  replace hbu := keep_blk hb hbu
  clear u0 u1 hb Hc hB1
  obtain ⟨u0, u1, -⟩ := now2 hbu rfl
  have Hc := C2 _ hB2
  go_wp2_with fail
  refine Hc.mono ?_
  rintro e w3 ⟨rfl, hb⟩
  have hB3 := hB2.trans (hb.mono hB2.size)
  replace hbu := keep_blk hb hbu
  clear u0 u1 hb Hc hB2
  obtain ⟨u0, u1, -⟩ := now2 hbu rfl
  have Hc := C3 _ hB3
  go_wp2_with fail
  refine Hc.mono ?_
  rintro e w4 ⟨rfl, hb⟩
  have hB4 := hB3.trans (hb.mono hB3.size)
  replace hbu := keep_blk hb hbu
  clear u0 u1 hb Hc hB3
  obtain ⟨u0, u1, -⟩ := now2 hbu rfl
  have Hc := C4 _ hB4
  go_wp2_with fail
  refine Hc.mono ?_
  rintro e w5 ⟨rfl, hb⟩
  have hB5 := hB4.trans (hb.mono hB4.size)
  replace hbu := keep_blk hb hbu
  clear u0 u1 hb Hc hB4
  obtain ⟨u0, u1, -⟩ := now2 hbu rfl
  have Hc := HK1 _ hB5
  go_wp2_with fail
  refine Hc.mono ?_
  rintro e w6 ⟨rfl, hb⟩
  have hB6 := hB5.trans (hb.mono hB5.size)
  clear hb Hc
  go_wp2
  go_ret
  exact ⟨rfl, hB6⟩
theorem coverRights_any (HR : RightV) (HS : SolvesV) (HK : Knows13) (n : Int) (L u : Value) (ls : List (List Int)) (cols : List Int) (w : World) (hT : TabW w) (hL : MatAt w w.heap.size L ls) (hu : IntsAt w w.heap.size u cols) :
    Calls Tryd.prog 3 #[mtv n L, u] w fun e w' => e = .returned (.bool true) ∧ Below w.heap.size w w' := by
  cases hg : greatM ls
  · by_cases hm : 100 < cols.length
    · exact rights13_many HK n L u ls cols w hT hL hu hg hm
    · cases hr : rightM n ls
      · exact rights13_no HR HS HK n L u ls cols w hT hL hu hg hm hr
      · exact rights13_yes HR HS HK n L u ls cols w hT hL hu hg hm hr
  · exact rights13_great HK n L u ls cols w hT hL hu hg
end Go.Proofs.YtdfllifjbabfjaaDoor
