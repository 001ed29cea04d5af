/- replaced of the package reduce: a range over an iterator that may be left. -/
import Derived.Test.YtcbhcclickjpnaaGK11
import Derived.Test.YtcbhcclickjpnaaGK08
namespace Go.Proofs.Ytcbhcclickjpnaa
open Go.RowKit Go.Joins

attribute [local go_sem] Oper.semAt_some

theorem ownFrom_grown14 {β : Type} {wl : World} (row0 : Option Nat) : OwnFrom wl.heap.size (fun (_ : β) W => wl.grownBy W row0) := fun _ W W' row h hg hr =>
  ⟨hg.os.trans h.os, hg.tape.trans h.tape, hg.output.trans h.output, Nat.le_trans h.size hg.size, fun k hk hne => by
    refine (hg.block k (Nat.lt_of_lt_of_le hk h.size) fun e => ?_).trans (h.block k hk hne)
    have := (hr k e.symm).1
    omega⟩
theorem ownFrom_grownOr14 {β : Type} {wl : World} (row0 : Option Nat) (T : β → Prop) : OwnFrom wl.heap.size (fun (s : β) W => T s ∧ wl.grownBy W row0) := fun s W W' row h hg hr =>
  ⟨h.1, ownFrom_grown14 (β := β) row0 s W W' row h.2 hg hr⟩
theorem six_made14 (w : World) (o0 o1 o2 o3 o4 o5 : Obj) :
    ((((((w.alloc o0).alloc o1).alloc o2).alloc o3).alloc o4).alloc o5).heap[w.heap.size]? = some o0 ∧
    ((((((w.alloc o0).alloc o1).alloc o2).alloc o3).alloc o4).alloc o5).heap[w.heap.size + 1]? = some o1 ∧
    ((((((w.alloc o0).alloc o1).alloc o2).alloc o3).alloc o4).alloc o5).heap[w.heap.size + 1 + 1]? = some o2 ∧
    ((((((w.alloc o0).alloc o1).alloc o2).alloc o3).alloc o4).alloc o5).heap[w.heap.size + 1 + 1 + 1]? = some o3 ∧
    ((((((w.alloc o0).alloc o1).alloc o2).alloc o3).alloc o4).alloc o5).heap[w.heap.size + 1 + 1 + 1 + 1]? = some o4 ∧
    ((((((w.alloc o0).alloc o1).alloc o2).alloc o3).alloc o4).alloc o5).heap[w.heap.size + 1 + 1 + 1 + 1 + 1]? = some o5 := by
  have t1 := two_made14 w o0 o1
  have t2 := two_made14 ((w.alloc o0).alloc o1) o2 o3
  have t3 := two_made14 ((((w.alloc o0).alloc o1).alloc o2).alloc o3) o4 o5
  simp only [World.size_alloc] at t2 t3
  exact ⟨two_keep14 (two_keep14 t1.1), two_keep14 (two_keep14 t1.2), two_keep14 t2.1, two_keep14 t2.2, t3.1, t3.2⟩
theorem six_below14 (w : World) (o0 o1 o2 o3 o4 o5 : Obj) : Below w.heap.size w ((((((w.alloc o0).alloc o1).alloc o2).alloc o3).alloc o4).alloc o5) := by
  have h0 := below_alloc1 w o0
  have h1 := h0.alloc h0.size o1
  have h2 := h1.alloc h1.size o2
  have h3 := h2.alloc h2.size o3
  have h4 := h3.alloc h3.size o4
  exact h4.alloc h4.size o5
theorem below_grown14 {w w' : World} (h : w.grownBy w' none) : Below w.heap.size w w' := ⟨h.os, h.tape, h.output, h.size, fun b hb => h.block b hb (fun e => by cases e)⟩
theorem grown_trans14 {a b c : World} {row : Option Nat} (h : a.grownBy b row) (k : b.grownBy c row) : a.grownBy c row :=
  ⟨k.os.trans h.os, k.tape.trans h.tape, k.output.trans h.output, Nat.le_trans h.size k.size, fun i hi hne => (k.block i (Nat.lt_of_lt_of_le hi h.size) hne).trans (h.block i hi hne)⟩
theorem grown_row14 {a b : World} (row : Option Nat) (h : a.grownBy b none) : a.grownBy b row := ⟨h.os, h.tape, h.output, h.size, fun i hi _ => h.block i hi (fun e => by cases e)⟩
theorem keepsFrom_below14 {B : Nat} {W W' : World} (h : Below W.heap.size W W') : KeepsFrom B W W' := ⟨h.size, fun k _ _ hk _ => (h.block k (size_of_block hk)).trans hk⟩
theorem ownFrom_heap14 {β : Type} {wl : World} {b : Nat} {o : β → Obj} (hb : b < wl.heap.size) : OwnFrom wl.heap.size (fun (s : β) W => W.heap[b]? = some (o s)) := fun s W W' row h hg hr =>
  (hg.block b (size_of_block h) fun e => by have := (hr b e.symm).1; omega).trans h
/-- May column c be left out for another one, that all its rows have too? -/
def rplB (hv : List (List Int)) (c : Nat) : Bool := (List.range hv.length).any fun d => decide (d ≠ c) && subR (hv.getD c []) (hv.getD d []) && (decide ((hv.getD c []).length < (hv.getD d []).length) || decide (d < c))
/-- The test on one that comes. -/
def rplT (hv : List (List Int)) (r : List Int) (c : Nat) (x : Int) : Bool := decide (x < (c : Int)) || decide (r.length < (hv.getD x.toNat []).length)
theorem hold_iff14 {ls : List (List Int)} {r : List Int} {k d : Nat} : hldB ls r k (d : Int) = true ↔ d ≠ k ∧ subR r (ls.getD d []) = true := by
  unfold hldB
  rw [Bool.and_eq_true, decide_eq_true_iff, Int.toNat_natCast]
  constructor
  · rintro ⟨h1, h2⟩
    exact ⟨fun e => h1 (by rw [e]), h2⟩
  · rintro ⟨h1, h2⟩
    exact ⟨by omega, h2⟩
theorem few_all14 {ls hv : List (List Int)} {r q : List Int} {j : Nat} (hq : FewOk ls hv r q) (hj : j < ls.length) (hs : subR r (ls.getD j []) = true) (hcomp : ∀ (x j : Nat), x < hv.length → (x : Int) ∈ ls.getD j [] → j < ls.length → (j : Int) ∈ hv.getD x []) : (j : Int) ∈ q := by
  rcases hq with ⟨-, rfl⟩ | ⟨x, hx, hl⟩
  · exact List.mem_map.2 ⟨j, List.mem_range.2 hj, rfl⟩
  · have hxl := (List.getElem?_eq_some_iff.1 hl).1
    have h1 := hcomp x j hxl (sub_iff14.1 hs _ hx) hj
    rw [List.getD_eq_getElem?_getD, hl] at h1
    exact h1
theorem rpl_yes14 {hv : List (List Int)} {r : List Int} {c : Nat} (hc : hv[c]? = some r) {x : HoldT hv r c} (ht : rplT hv r c x.i = true) : rplB hv c = true := by
  obtain ⟨x, h0, h1, h2⟩ := x
  obtain ⟨d, rfl⟩ := Int.eq_ofNat_of_zero_le h0
  have e : hv.getD c [] = r := by rw [List.getD_eq_getElem?_getD, hc]; rfl
  obtain ⟨h3, h4⟩ := hold_iff14.1 h2
  unfold rplB
  rw [List.any_eq_true]
  refine ⟨d, List.mem_range.2 (by omega), ?_⟩
  have ht : rplT hv r c (d : Int) = true := ht
  unfold rplT at ht
  rw [Int.toNat_natCast, Bool.or_eq_true, decide_eq_true_iff, decide_eq_true_iff] at ht
  rw [e, Bool.and_eq_true, Bool.and_eq_true, Bool.or_eq_true, decide_eq_true_iff, decide_eq_true_iff, decide_eq_true_iff]
  refine ⟨⟨h3, h4⟩, ?_⟩
  rcases ht with ht | ht
  · exact .inr (by omega)
  · exact .inl ht
theorem rpl_no14 {hv rs : List (List Int)} {r q : List Int} {c : Nat} (hc : hv[c]? = some r) (hq : FewOk hv rs r q) (hcomp : ∀ (x j : Nat), x < rs.length → (x : Int) ∈ hv.getD j [] → j < hv.length → (j : Int) ∈ rs.getD x [])
    {xs : List (HoldT hv r c)} (hxs : xs.map HoldT.i = q.filter (hldB hv r c)) (ht : ∀ x, x ∈ xs → rplT hv r c x.i = false) : rplB hv c = false := by
  have e : hv.getD c [] = r := by rw [List.getD_eq_getElem?_getD, hc]; rfl
  unfold rplB
  rw [List.any_eq_false]
  intro d hd
  have hd := List.mem_range.1 hd
  rw [e, Bool.and_eq_true, Bool.and_eq_true, Bool.or_eq_true, decide_eq_true_iff, decide_eq_true_iff, decide_eq_true_iff]
  rintro ⟨⟨h1, h2⟩, h3⟩
  have hm : (d : Int) ∈ xs.map HoldT.i := by
    rw [hxs]
    exact List.mem_filter.2 ⟨few_all14 hq hd h2 hcomp, hold_iff14.2 ⟨h1, h2⟩⟩
  obtain ⟨x, hx, hxd⟩ := List.mem_map.1 hm
  have h4 := ht x hx
  rw [hxd] at h4
  unfold rplT at h4
  rw [Int.toNat_natCast, Bool.or_eq_false_iff, decide_eq_false_iff_not, decide_eq_false_iff_not] at h4
  rcases h3 with h3 | h3
  · exact h4.2 h3
  · exact h4.1 (by omega)
set_option maxHeartbeats 8000000 in
set_option maxRecDepth 100000 in
theorem replaced14_any (R H : Value) (rs hv : List (List Int)) (c : Nat) (r : List Int) (w : World) (hR : MatAt w w.heap.size R rs) (hH : MatAt w w.heap.size H hv) (hc : hv[c]? = some r)
    (hr : ∀ x, x ∈ r → 0 ≤ x ∧ x < rs.length) (hls : hv.length ≤ 100000) (hris : ∀ q, q ∈ hv → q.Pairwise (· < ·)) (hrow : ∀ q, q ∈ rs → ∀ x, x ∈ q → 0 ≤ x ∧ x < hv.length)
    (hcomp : ∀ (x j : Nat), x < rs.length → (x : Int) ∈ hv.getD j [] → j < hv.length → (j : Int) ∈ rs.getD x []) :
    Calls Try.prog 101 #[R, H, .int .i64 c] w fun e w' => e = .returned (.bool (rplB hv c)) ∧ Below w.heap.size w w' := by
  refine callsIn_wide (n := 4).1 ?_
  have hfew : ∀ q, FewOk hv rs r q → ∀ x, x ∈ q → 0 ≤ x ∧ x < hv.length := fun q hq x hx => by
    rcases hq with ⟨-, rfl⟩ | ⟨y, -, hl⟩
    · obtain ⟨j, hj, rfl⟩ := List.mem_map.1 hx
      have := List.mem_range.1 hj
      omega
    · exact hrow q (List.mem_of_getElem? hl) x hx
  have hyes : Hid (∀ x : HoldT hv r c, rplT hv r c x.i = true → rplB hv c = true) := Lib.hid (fun x => rpl_yes14 hc)
  have hno : Hid (∀ (q : List Int) (xs : List (HoldT hv r c)), FewOk hv rs r q → xs.map HoldT.i = q.filter (hldB hv r c) → (∀ x, x ∈ xs → rplT hv r c x.i = false) → rplB hv c = false) := Lib.hid (fun q xs hq hxs ht => rpl_no14 hc hq hcomp hxs ht)
  generalize rplB hv c = RB at *
  have hRR := hR
  have hHH := hH
  obtain ⟨A, cA, rfl, -, -⟩ := hR
  obtain ⟨A2, cA2, rfl, hlh, hch⟩ := hH
  refine callsIn_of_wp_marks Try.func101 rfl trivial ?_ rfl
  simp only [Try.ntmps101, List.size_toArray, List.length_cons, List.length_nil, Nat.reduceAdd, Nat.reduceSub, Array.replicate_succ, Array.replicate_zero, List.push_toArray, List.append_toArray, List.nil_append, List.cons_append]
  gi_wp2_with fail
  refine ⟨trivial, (callsIn_wide.2 (holders14_any _ _ _ _ ⟨_, _, _, rfl⟩ ⟨_, _, _, rfl⟩)).mono ?_⟩
  rintro e w' ⟨rfl, rfl⟩
  gi_wp2_with fail
  have hm := six_made14 w (.cells #[.slice A2 hv.length cA2] 22) (.cells #[.int .i64 c] 3) (.cells #[.bool false] 4) (.cells #[.slice A2 hv.length cA2] 22) (.cells #[.slice A rs.length cA] 22) (.cells #[.int .i64 c] 3)
  have hB := six_below14 w (.cells #[.slice A2 hv.length cA2] 22) (.cells #[.int .i64 c] 3) (.cells #[.bool false] 4) (.cells #[.slice A2 hv.length cA2] 22) (.cells #[.slice A rs.length cA] 22) (.cells #[.int .i64 c] 3)
  generalize (((((w.alloc _).alloc _).alloc _).alloc _).alloc _).alloc _ = wl at *
  obtain ⟨m0, m1, m2, m3, m4, m5⟩ := hm
  have hRl := (hRR.below hB).toN (N := fun b => ¬ (fun _ : Nat => False) b) (fun _ _ h => h)
  have hHl := (hHH.below hB).toN (N := fun b => ¬ (fun _ : Nat => False) b) (fun _ _ h => h)
  have hHa := (hHH.below hB).more hB.size
  have s2 := size_of_block m2
  refine wpIn_rangeFunc_ownG (α := HoldT hv r c) (w := wl) rfl (by omega) (show Act.eval _ _ = Value.func (.func 104) #[] #[.pointer (some ⟨w.heap.size + 1 + 1 + 1, 0, none⟩), .pointer (some ⟨w.heap.size + 1 + 1 + 1 + 1, 0, none⟩), .pointer (some ⟨w.heap.size + 1 + 1 + 1 + 1 + 1, 0, none⟩)] from rfl) trivial (fun _ _ => by kernel_rfl)
    (holds14_stops 3 (fun _ => False) _ _ _ _ _ hv rs c r wl (by omega) hc hr hls hris hfew (fun _ h => h.elim) (by rw [cell_of_block m3]; rfl) (by rw [cell_of_block m4]; rfl) (by rw [cell_of_block m5]; rfl) (fun h => h) (fun h => h) (fun h => h) hHl hRl)
    (fun h k => h.trans k) (fun W l o o' _ hl ho _ => keepC_b W l o o' hl ho) (Below.refl _ _) (fun _ => rfl)
    (fun pre W => (∀ x, x ∈ pre → rplT hv r c x.i = false) ∧ wl.grownBy W none)
    (fun cde pre W => ((cde = .ret ∧ RB = true) ∧ wl.grownBy W (some (w.heap.size + 1 + 1))) ∧ W.heap[w.heap.size + 1 + 1]? = some (.cells #[.bool true] 4 (0, 0)))
    (ownFrom_grownOr14 none (fun pre : List (HoldT hv r c) => ∀ x, x ∈ pre → rplT hv r c x.i = false))
    (fun cde => OwnFrom.and (ownFrom_grownOr14 _ (fun _ => cde = .ret ∧ RB = true)) (ownFrom_heap14 s2))
    ⟨fun x hx => absurd hx List.not_mem_nil, grown_of_below14 (Below.refl _ _)⟩
    (fun x : HoldT hv r c => { tmps := #[.slice A rs.length cA, .slice A2 hv.length cA2, .int .i64 c, undef, .pointer (some ⟨w.heap.size, 0, none⟩), .pointer (some ⟨w.heap.size + 1, 0, none⟩), .pointer (some ⟨w.heap.size + 1 + 1, 0, none⟩), .int .i64 x.i, .slice A2 hv.length cA2, .slice A rs.length cA, .int .i64 c,
      .func (.func 104) #[] #[.pointer (some ⟨w.heap.size + 1 + 1 + 1, 0, none⟩), .pointer (some ⟨w.heap.size + 1 + 1 + 1 + 1, 0, none⟩), .pointer (some ⟨w.heap.size + 1 + 1 + 1 + 1 + 1, 0, none⟩)], .int .i64 x.i,
      undef, undef, undef, undef, undef, undef, undef, undef, undef, undef, undef, undef, undef, undef, undef, undef], defers := [] }) ?assign ?body ?done ?stop
  case assign =>
    intro l x W K hK
    gi_wp2
    exact hK
  case body =>
    rintro l pre x W ⟨hp, hg⟩ _
    have hbW := below_grown14 hg
    have n0 := keep_blk hbW m0
    have n1 := keep_blk hbW m1
    have n2 := keep_blk hbW m2
    have hHW := (hHa.below hbW).more hbW.size
    have hyx := hyes.out x
    have hpx : Hid (rplT hv r c x.i = false → ∀ y, y ∈ pre ++ [x] → rplT hv r c y.i = false) := Lib.hid (fun h y hy => by
      rcases List.mem_append.1 hy with h1 | h1
      · exact hp y h1
      · rw [List.mem_singleton.1 h1]; exact h)
    generalize pre ++ [x] = pre2 at *
    obtain ⟨x, x0, x1, x2⟩ := x
    have ex : HoldT.i (⟨x, x0, x1, x2⟩ : HoldT hv r c) = x := rfl
    rw [ex] at hyx hpx
    dsimp only [HoldT.i]
    obtain ⟨d, rfl⟩ := Int.eq_ofNat_of_zero_le x0
    obtain ⟨A3, c3, e3, hl3, hc3⟩ := hHW
    injection e3 with e3 _ e4
    subst e3
    subst e4
    have hcl : c < hv.length := (List.getElem?_eq_some_iff.1 hc).1
    obtain ⟨bh, oh, rfl, hbh, hcell⟩ := hc3 (by omega)
    obtain ⟨ld, hld⟩ : ∃ q, hv[d]? = some q := ⟨_, List.getElem?_eq_getElem (show d < hv.length by omega)⟩
    obtain ⟨o1, p1, hi1⟩ := hcell d ld hld
    obtain ⟨o2, p2, hi2⟩ := hcell c r hc
    obtain ⟨A4, c4, rfl, -, -⟩ := hi1
    obtain ⟨A5, c5, rfl, -, -⟩ := hi2
    have gd : hv.getD (d : Int).toNat [] = ld := by rw [Int.toNat_natCast, List.getD_eq_getElem?_getD, hld]; rfl
    have f1 := fun X : After W => After.cell X p1
    have f2 := fun X : After W => After.cell X p2
    have f3 := fun X : After W => After.cell X (show W.cell? ⟨w.heap.size, 0, none⟩ = some (.slice (some ⟨bh, oh, none⟩) hv.length cA2) by rw [cell_of_block n0]; rfl)
    have f4 := fun X : After W => After.cell X (show W.cell? ⟨w.heap.size + 1, 0, none⟩ = some (.int .i64 c) by rw [cell_of_block n1]; rfl)
    have x00 : (0 : Int) ≤ (d : Int) := by omega
    have x01 : (d : Int) < (hv.length : Int) := by omega
    have c00 : (0 : Int) ≤ (c : Int) := by omega
    have c01 : (c : Int) < (hv.length : Int) := by omega
    have hT : Hid (rplT hv r c (d : Int) = (decide ((d : Int) < (c : Int)) || decide (r.length < ld.length))) := Lib.hid (by unfold rplT; rw [gd])
    have hgH := Lib.hid hg
    have hm2H := Lib.hid n2
    have hyH := Lib.hid hyx
    clear hp p1 p2 hcell hc3 hld gd n0 n1 n2 hbW hyx hHa hRl hHl hg hch hcomp hfew hrow hris hr hc x0 x1 x2 ex m0 m1 m2 m3 m4 m5 hRR hHH hbh hyes hno
    gi_wp2_with fail
    by_cases h1 : (d : Int) < (c : Int)
    · have g1 : decide ((d : Int) < (c : Int)) = true := decide_eq_true h1
      have hRB := Lib.hid (hyH.out (by rw [hT.out, g1]; simp))
      clear hT hyH hpx
      refine wpIn_region_after (lets_round l _) (by kernel_rfl) (by kernel_rfl) (by kernel_rfl) ?_
      repeat (first | go_big_quiet_step (fail))
      refine wpQuiet_nil ?_
      intro z
      have q2 := keep_blk z.2 hm2H.out
      have q3 : z.1.cell? ⟨w.heap.size + 1 + 1, 0, none⟩ = some (.bool false) := by rw [cell_of_block q2]; rfl
      have q4 := unfrozen_of_block q2 0
      have q5 : (z.1.setCell ⟨w.heap.size + 1 + 1, 0, none⟩ (.bool true)).heap[w.heap.size + 1 + 1]? = some (.cells #[.bool true] 4 (0, 0)) := block_setCell q2 _
      have q6 : KeepsFrom wl.heap.size W (z.1.setCell ⟨w.heap.size + 1 + 1, 0, none⟩ (.bool true)) := (keepsFrom_below14 z.2).trans ((KeepsOthers.setCell _ _ _).from _)
      have q7 : wl.grownBy (z.1.setCell ⟨w.heap.size + 1 + 1, 0, none⟩ (.bool true)) (some (w.heap.size + 1 + 1)) := grown_trans14 (grown_row14 _ hgH.out) (grown_trans14 (grown_row14 _ (grown_of_below14 z.2)) (grownBy_setCell' _ _ _))
      clear f1 f2 f3 f4 q2 hm2H hgH
      gi_wp2
      exact ⟨q6, ⟨⟨rfl, hRB.out⟩, q7⟩, q5⟩
    have g1 : decide ((d : Int) < (c : Int)) = false := decide_eq_false h1
    by_cases h2 : r.length < ld.length
    · have g2 : decide ((r.length : Int) < (ld.length : Int)) = true := decide_eq_true (by omega)
      have g3 : decide (r.length < ld.length) = true := decide_eq_true h2
      have hRB := Lib.hid (hyH.out (by rw [hT.out, g3]; simp))
      clear hT hyH hpx
      refine wpIn_region_after (lets_round l _) (by kernel_rfl) (by kernel_rfl) (by kernel_rfl) ?_
      repeat (first | go_big_quiet_step (fail))
      refine wpQuiet_nil ?_
      intro z
      have q2 := keep_blk z.2 hm2H.out
      have q3 : z.1.cell? ⟨w.heap.size + 1 + 1, 0, none⟩ = some (.bool false) := by rw [cell_of_block q2]; rfl
      have q4 := unfrozen_of_block q2 0
      have q5 : (z.1.setCell ⟨w.heap.size + 1 + 1, 0, none⟩ (.bool true)).heap[w.heap.size + 1 + 1]? = some (.cells #[.bool true] 4 (0, 0)) := block_setCell q2 _
      have q6 : KeepsFrom wl.heap.size W (z.1.setCell ⟨w.heap.size + 1 + 1, 0, none⟩ (.bool true)) := (keepsFrom_below14 z.2).trans ((KeepsOthers.setCell _ _ _).from _)
      have q7 : wl.grownBy (z.1.setCell ⟨w.heap.size + 1 + 1, 0, none⟩ (.bool true)) (some (w.heap.size + 1 + 1)) := grown_trans14 (grown_row14 _ hgH.out) (grown_trans14 (grown_row14 _ (grown_of_below14 z.2)) (grownBy_setCell' _ _ _))
      clear f1 f2 f3 f4 q2 hm2H hgH
      gi_wp2
      exact ⟨q6, ⟨⟨rfl, hRB.out⟩, q7⟩, q5⟩
    · have g2 : decide ((r.length : Int) < (ld.length : Int)) = false := decide_eq_false (by omega)
      have hp2 := Lib.hid (hpx.out (by rw [hT.out, g1, decide_eq_false h2]; rfl))
      clear hT hyH hpx
      refine wpIn_region_after (lets_round l _) (by kernel_rfl) (by kernel_rfl) (by kernel_rfl) ?_
      repeat (first | go_big_quiet_step (fail))
      refine wpQuiet_nil ?_
      intro z
      have q6 : KeepsFrom wl.heap.size W z.1 := keepsFrom_below14 z.2
      have q7 := grown_trans14 hgH.out (grown_of_below14 z.2)
      have q8 : KeepC (fun _ => False) W z.1 := KeepC.of_below z.2
      clear f1 f2 f3 f4 hm2H hgH
      gi_wp2
      exact ⟨q6, q8, hp2.out, q7⟩
  case done =>
    rintro D xs W hD ⟨q, hq, hxs⟩ ⟨ht, hg⟩ hK
    have hRB := Lib.hid (hno.out q xs hq hxs ht)
    have hbW := below_grown14 hg
    have n2 := keep_blk hbW m2
    have hDw : w.heap.size + 1 + 1 < D := by omega
    have hBW := hB.trans (hbW.mono hB.size)
    have y0 : W.cell? ⟨w.heap.size + 1 + 1, 0, none⟩ = some (.bool false) := by rw [cell_of_block n2]; rfl
    have yf := unfrozen_of_block n2 0
    have hK' := (KeepsOthers.setCell W ⟨w.heap.size + 1 + 1, 0, none⟩ (.bool false)).same D _ hK rfl
    have hb5 : Below w.heap.size w ((W.setCell ⟨w.heap.size + 1 + 1, 0, none⟩ (.bool false)).putObj D (.deferred none)) := (hBW.setCell (p := ⟨w.heap.size + 1 + 1, 0, none⟩) (by show w.heap.size ≤ w.heap.size + 1 + 1; omega) _).grown (grownBy_putObj' _ _ _) (by have := hBW.size; simp [World.setCell]; omega) (fun k e => by cases e; omega)
    have hc5 := cell_kept (World.cell?_setCell_same' W ⟨w.heap.size + 1 + 1, 0, none⟩ (.bool false) (by rw [y0]; rfl)) (grownBy_putObj' _ D (.deferred none)) (fun r e => by cases e; exact ⟨_, hK', rfl⟩)
    clear hq hxs ht hg hbW n2 hRl hHl hHa m0 m1 m2 m3 m4 m5 hRR hHH hno hyes hcomp hfew hrow hris hr hc hch hB hBW
    gi_wp2
    refine ⟨by simp, .inl ⟨_, _, rfl, run_takeDeferred hK', ?_⟩⟩
    refine ⟨.bool false, ?_, by rw [hRB.out], hb5⟩
    simp [results, Try.f101, go_sem, hc5]
  case stop =>
    rintro D c' pre W hD _ ⟨⟨⟨rfl, hRB⟩, hg⟩, hbx⟩ hK
    have hRB := Lib.hid hRB
    have hbw : Below w.heap.size w W := ⟨hg.os.trans hB.os, hg.tape.trans hB.tape, hg.output.trans hB.output, Nat.le_trans hB.size hg.size, fun k hk => (hg.block k (Nat.lt_of_lt_of_le hk hB.size) (by intro e; injection e with e; omega)).trans (hB.block k hk)⟩
    have hb5 : Below w.heap.size w (W.putObj D (.deferred none)) := hbw.grown (grownBy_putObj' _ _ _) hbw.size (fun k e => by cases e; omega)
    have y0 : W.cell? ⟨w.heap.size + 1 + 1, 0, none⟩ = some (.bool true) := by rw [cell_of_block hbx]; rfl
    have hc5 := cell_kept y0 (grownBy_putObj' _ D (.deferred none)) (fun r e => by cases e; exact ⟨_, hK, rfl⟩)
    clear hRl hHl hHa m0 m1 m2 m3 m4 m5 hRR hHH hno hyes hcomp hfew hrow hris hr hc hch hB hg hbx hbw y0
    gi_wp2
    refine ⟨by simp, .inl ⟨_, _, rfl, run_takeDeferred hK, ?_⟩⟩
    refine ⟨.bool true, ?_, by rw [hRB.out], hb5⟩
    simp [results, Try.f101, go_sem, hc5]
end Go.Proofs.Ytcbhcclickjpnaa
