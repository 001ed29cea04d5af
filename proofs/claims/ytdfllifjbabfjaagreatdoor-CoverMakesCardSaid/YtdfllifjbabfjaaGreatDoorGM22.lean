/- What package cover asks of each row for an output, and which sets have a point. The text of a row of columns, as package cover keeps it: plain, and the call. -/
import Derived.Test.YtdfllifjbabfjaaGreatDoorGM18
import Derived.Test.YtdfllifjbabfjaaGreatDoorGM19
import Derived.Test.YtdfllifjbabfjaaGreatDoorGM21
import Derived.Test.YtdfllifjbabfjaaGreatDoorShelf
import Derived.Test.YtdfllifjbabfjaaGreatDoorGM06
import Derived.Deep.AppendLies
import Derived.Lib.ItoaLen
import Derived.Laws.IdiomStrings
namespace Go.Proofs.YtdfllifjbabfjaaGreatDoor
open Go.RowKit Go.Joins

/-! ### Plain -/
def stW (Ss : List (BitVec 256)) : List Value := Ss.flatMap fun X => [wv (wd X 0), wv (wd X 1), wv (wd X 2), wv (wd X 3)]
theorem stW_snoc (Ss : List (BitVec 256)) (X : BitVec 256) : stW (Ss ++ [X]) = stW Ss ++ [wv (wd X 0), wv (wd X 1), wv (wd X 2), wv (wd X 3)] := by
  unfold stW; simp
theorem stW_at : ∀ (Ss : List (BitVec 256)) (j : Nat) (X : BitVec 256), Ss[j]? = some X →
    (stW Ss)[j * 4]? = some (wv (wd X 0)) ∧ (stW Ss)[j * 4 + 1]? = some (wv (wd X 1)) ∧ (stW Ss)[j * 4 + 2]? = some (wv (wd X 2)) ∧ (stW Ss)[j * 4 + 3]? = some (wv (wd X 3))
  | [], _, _, h => by simp at h
  | a :: Ss, 0, X, h => by
    simp at h
    subst h
    exact ⟨rfl, rfl, rfl, rfl⟩
  | a :: Ss, j + 1, X, h => by
    obtain ⟨x, y, z, u⟩ := stW_at Ss j X (by simpa using h)
    have e : stW (a :: Ss) = wv (wd a 0) :: wv (wd a 1) :: wv (wd a 2) :: wv (wd a 3) :: stW Ss := rfl
    rw [e, show (j + 1) * 4 = j * 4 + 4 by omega]
    exact ⟨x, y, z, u⟩
theorem own_stW {w : World} {bd : Nat} {v : Value} {Ss : List (BitVec 256)} (h : w.ownsRow bd 50 4 v Ss.length (stW Ss)) : SetsAt w w.heap.size v Ss := by
  rcases Nat.eq_zero_or_pos Ss.length with h0 | h0
  · obtain ⟨A, c, rfl⟩ := own_form h
    exact ⟨A, c, rfl, by omega, fun h => by omega⟩
  · obtain ⟨g, c, rfl, hg, hlen, hc⟩ := own_cells13 h h0
    refine ⟨_, c, rfl, hlen, fun _ => ⟨g, 0, rfl, hg, fun j X hX => ?_⟩⟩
    obtain ⟨a, b, d, e⟩ := stW_at Ss j X hX
    rw [Nat.zero_add]
    exact ⟨hc _ _ a, hc _ _ b, hc _ _ d, hc _ _ e⟩
theorem Tryz.infoSetW : (Tryz.prog.info? 50).map (fun i => (i.zero, i.size, i.bytes)) = some (some (.agg #[.int .u64 0, .int .u64 0, .int .u64 0, .int .u64 0]), 4, 32) := by kernel_rfl
/-- The places of the sets that have a point. -/
def hvN (Ss : List (BitVec 256)) (p k : Nat) : List Nat := (List.range k).filter fun c => (Ss.getD c 0).getLsbD p
theorem hvN_yes {Ss : List (BitVec 256)} {p k : Nat} {X : BitVec 256} (hx : Ss[k]? = some X) (h : X.getLsbD p = true) : hvN Ss p (k + 1) = hvN Ss p k ++ [k] := by
  unfold hvN
  rw [List.range_succ, List.filter_append]
  simp [List.getD, hx, h]
theorem hvN_no {Ss : List (BitVec 256)} {p k : Nat} {X : BitVec 256} (hx : Ss[k]? = some X) (h : X.getLsbD p = false) : hvN Ss p (k + 1) = hvN Ss p k := by
  unfold hvN
  rw [List.range_succ, List.filter_append]
  simp [List.getD, hx, h]
theorem hvN_len (Ss : List (BitVec 256)) (p k : Nat) : (hvN Ss p k).length ≤ k := by
  unfold hvN
  exact Nat.le_trans (List.length_filter_le _ _) (by rw [List.length_range]; exact Nat.le_refl _)
theorem Tryz.infoIntW : (Tryz.prog.info? 3).map (fun i => (i.zero, i.size, i.bytes)) = some (some (.int .i64 0), 1, 8) := by kernel_rfl
set_option maxHeartbeats 4000000 in
set_option maxRecDepth 100000 in
theorem having13_any (w : World) (v : Value) (Ss : List (BitVec 256)) (p : Nat) (hp : p < 256) (hS : SetsAt w w.heap.size v Ss) (hl : Ss.length ≤ 1000000) :
    Calls Tryz.prog 23 #[v, .int .i64 p] w fun e w' => ∃ u, e = .returned u ∧ w'.ownsRow w.heap.size 3 1 u (hvN Ss p Ss.length).length (intsV (hvN Ss p Ss.length)) ∧ Below w.heap.size w w' := by
  obtain ⟨i0, hi0, hz0, hz1, hz2⟩ := info_parts Tryz.infoIntW
  have h0 : Hid (hvN Ss p 0 = []) := Lib.hid rfl
  have hyes := Lib.hid (fun k X => hvN_yes (Ss := Ss) (p := p) (k := k) (X := X))
  have hno := Lib.hid (fun k X => hvN_no (Ss := Ss) (p := p) (k := k) (X := X))
  obtain ⟨A, c, rfl, hlS, hcS⟩ := hS
  go_enter Tryz.func23, Tryz.ntmps23
  go_wp2
  go_loopw [5, 6, 7, 10] (fun V _ _ t wr => ∃ k : Nat, k ≤ Ss.length ∧ t = .int .i64 k ∧ wr.ownsRow w.heap.size 3 1 V (hvN Ss p k).length (intsV (hvN Ss p k)) ∧ Below w.heap.size w wr) (fun _ _ _ t _ => Ss.length - (intOf t).toNat)
  case atStart => exact ⟨0, by omega, rfl, by rw [h0.out]; exact World.ownsRow_nil _ _ _ _, Below.refl _ _⟩
  case round =>
    obtain ⟨k, hk, rfl, hown, hb⟩ := hrel
    by_cases hlt : k < Ss.length
    · obtain ⟨b, off, rfl, hB, hc⟩ := hcS (by omega)
      obtain ⟨X, hX⟩ : ∃ X, Ss[k]? = some X := ⟨_, List.getElem?_eq_getElem hlt⟩
      obtain ⟨x0, x1, x2, x3⟩ := hc k X hX
      have d0 := (hb.cell (p := ⟨b, off + k * 4, none⟩) hB).trans x0
      have d1 := (hb.cell (p := ⟨b, off + k * 4 + 1, none⟩) hB).trans x1
      have d2 := (hb.cell (p := ⟨b, off + k * 4 + 2, none⟩) hB).trans x2
      have d3 := (hb.cell (p := ⟨b, off + k * 4 + 3, none⟩) hB).trans x3
      have HH := fun w => has_any X p hp w
      have hlen := hvN_len Ss p k
      have hXH := Lib.hid hX
      clear hc hcS hX x0 x1 x2 x3
      have hba := hb.alloc hb.size (.cells #[wv (wd X 0), wv (wd X 1), wv (wd X 2), wv (wd X 3)] 50 (0, 0))
      have hoa := hown.alloc (.cells #[wv (wd X 0), wv (wd X 1), wv (wd X 2), wv (wd X 3)] 50 (0, 0))
      have hnb := heap_alloc_new wr (.cells #[wv (wd X 0), wv (wd X 1), wv (wd X 2), wv (wd X 3)] 50 (0, 0))
      obtain ⟨Y0, Y1, Y2, Y3, -⟩ := box4 hnb rfl
      unfold sv wv at *
      clear hown hnb
      cases hq : X.getLsbD p
      · have hst := Lib.hid (hno.out k X hXH.out hq)
        rw [hq] at HH
        clear hq hyes hno
        go_wp2_with fail
        refine (HH _).mono ?_
        rintro e w1 ⟨rfl, hb1⟩
        have hB1 := hba.trans (hb1.mono hba.size)
        have ho1 := owns_below hoa hb1
        clear Y0 Y1 Y2 Y3 HH hb1 hba hoa
        go_wp2
        go_roundw
        case rel => exact ⟨k + 1, by omega, by go_num, by rw [hst.out]; exact ho1, hB1⟩
        case measure => simp [intOf]; omega
      · have hst := Lib.hid (hyes.out k X hXH.out hq)
        rw [hq] at HH
        clear hq hyes hno
        go_wp2_with fail
        refine (HH _).mono ?_
        rintro e w1 ⟨rfl, hb1⟩
        have hB1 := hba.trans (hb1.mono hba.size)
        have ho1 := owns_below hoa hb1
        have hsz := hB1.size
        clear Y0 Y1 Y2 Y3 HH hb1 hba hoa
        go_wp2_with (at_builtin; refine wpList_append_own_at _ rfl _ _ 45 rfl w.heap.size 3 i0 (.int .i64 0) 1 8 Tryz.underlying45 hi0 hz0 hz1 hz2 rfl (by decide) _ _ _ rfl (ho1.alloc _) ⟨w1.heap.size, 0, none⟩ 1 1 [.int .i64 (k : Int)] rfl rfl one_new13 (fun u hu => by rw [List.mem_singleton.1 hu]; rfl) ?c3 ?c4 ?c5 ?_)
        case c3 => unfold maxLen; omega
        case c4 => omega
        case c5 => simp; omega
        intro v8 w8 ho8 hg8 _ _
        have hB8 := grown_below (ho1.alloc (.cells #[.int .i64 (k : Int)] 3)) hg8 (hB1.alloc hB1.size _) (Nat.le_refl _) (by simp; omega)
        have ho8' : w8.ownsRow w.heap.size 3 1 v8 (hvN Ss p (k + 1)).length (intsV (hvN Ss p (k + 1))) := by
          rw [hst.out, intsV_snoc, List.length_append]
          exact ho8
        clear hg8 ho1 ho8 hB1
        go_wp2
        go_roundw
        case rel => exact ⟨k + 1, by omega, by go_num, ho8', hB8⟩
        case measure => simp [intOf]; omega
    · have e : k = Ss.length := by omega
      subst e
      clear hcS hyes hno
      go_wp2
      go_ret
      exact ⟨_, rfl, hown, hb⟩
theorem rows_one {w : World} {b : Nat} {x : Rw} {T : TypeId} (h : w.heap[b]? = some (.cells #[bvv x.m, bvv x.v, bvv x.o] T (0, 0))) : RwsAt w w.heap.size (.slice (some ⟨b, 0, none⟩) 1 1) [x] := by
  refine ⟨_, 1, rfl, by simp, fun _ => ⟨b, 0, rfl, size_of_block h, fun j y hj => ?_⟩⟩
  match j, hj with
  | 0, hj =>
    simp at hj
    subst hj
    refine ⟨?_, ?_, ?_⟩ <;> rw [cell_of_block h] <;> rfl
def ptsE (rs : List Rw) (n out : Nat) : List (BitVec 256) := rs.map fun x => ptsR [x] n out
theorem ptsE_succ {rs : List Rw} {n out k : Nat} {x : Rw} (h : rs[k]? = some x) : ptsE (rs.take (k + 1)) n out = ptsE (rs.take k) n out ++ [ptsR [x] n out] := by
  unfold ptsE
  rw [List.take_add_one, h]
  simp
set_option maxHeartbeats 4000000 in
set_option maxRecDepth 100000 in
theorem each13_any (w : World) (L : Value) (rs : List Rw) (n out : Nat) (hL : RwsAt w w.heap.size L rs) (hn : n ≤ 8) (ho : out < 4) (hr : (rs.all fun x => rightB x.m x.v n) = true) (hl : rs.length ≤ 1000000) :
    Calls Tryz.prog 21 #[L, .int .i64 n, .int .i64 out] w fun e w' => ∃ u, e = .returned (.tuple #[u, .int .i64 0]) ∧ SetsAt w' w'.heap.size u (ptsE rs n out) ∧ Below w.heap.size w w' := by
  obtain ⟨i0, hi0, hz0, hz1, hz2⟩ := info_parts Tryz.infoSetW
  have h0 : Hid (ptsE (rs.take 0) n out = []) := Lib.hid rfl
  have hend : Hid (ptsE (rs.take rs.length) n out = ptsE rs n out) := Lib.hid (by rw [List.take_length])
  have hstep := Lib.hid (fun k x => ptsE_succ (rs := rs) (n := n) (out := out) (k := k) (x := x))
  have hlenE : Hid (∀ k, (ptsE (rs.take k) n out).length ≤ 1000000) := Lib.hid (fun k => by unfold ptsE; rw [List.length_map, List.length_take]; omega)
  have HP : ∀ (x : Rw), x ∈ rs → ∀ (V : Value) (w1 : World), RwsAt w1 w1.heap.size V [x] → Calls Tryz.prog 45 #[V, .int .i64 n, .int .i64 out] w1 fun e w' => e = .returned (.tuple #[sv (ptsR [x] n out), .int .i64 0]) ∧ Below w1.heap.size w1 w' := fun x hx V w1 h =>
    spoints_good V [x] n out w1 h hn ho (by rw [List.all_eq_true] at hr ⊢; intro y hy; rw [List.mem_singleton.1 hy]; exact hr x hx)
  obtain ⟨A, c, rfl, hlR, hcR⟩ := hL
  clear hr
  go_enter Tryz.func21, Tryz.ntmps21
  go_wp2
  go_loopw [8, 10, 11, 12, 15] (fun V _ _ _ t wr => ∃ k : Nat, k ≤ rs.length ∧ t = .int .i64 k ∧ wr.ownsRow w.heap.size 50 4 V (ptsE (rs.take k) n out).length (stW (ptsE (rs.take k) n out)) ∧ Below w.heap.size w wr) (fun _ _ _ _ t _ => rs.length - (intOf t).toNat)
  case atStart => exact ⟨0, by omega, rfl, by rw [h0.out]; exact World.ownsRow_nil _ _ _ _, Below.refl _ _⟩
  case round =>
    obtain ⟨k, hk, rfl, hown, hb⟩ := hrel
    by_cases hlt : k < rs.length
    · obtain ⟨b, off, rfl, hB, hc⟩ := hcR (by omega)
      obtain ⟨x, hx⟩ : ∃ x, rs[k]? = some x := ⟨_, List.getElem?_eq_getElem hlt⟩
      obtain ⟨x0, x1, x2⟩ := hc k x hx
      have d0 := (hb.cell (p := ⟨b, off + k * 3, none⟩) hB).trans x0
      have d1 := (hb.cell (p := ⟨b, off + k * 3 + 1, none⟩) hB).trans x1
      have d2 := (hb.cell (p := ⟨b, off + k * 3 + 2, none⟩) hB).trans x2
      have HX := HP x (List.mem_of_getElem? hx)
      have hst := Lib.hid (hstep.out k x hx)
      have hlen := hlenE.out k
      clear hc hcR hx x0 x1 x2 HP hstep
      have hba := (hb.alloc hb.size (.cells #[bvv x.m, bvv x.v, bvv x.o] 44 (0, 0))).alloc (hb.alloc hb.size (.cells #[bvv x.m, bvv x.v, bvv x.o] 44 (0, 0))).size (.cells #[bvv x.m, bvv x.v, bvv x.o] 44 (0, 0))
      have hoa := (hown.alloc (.cells #[bvv x.m, bvv x.v, bvv x.o] 44 (0, 0))).alloc (.cells #[bvv x.m, bvv x.v, bvv x.o] 44 (0, 0))
      have hnb := heap_alloc_new wr (.cells #[bvv x.m, bvv x.v, bvv x.o] 44 (0, 0))
      have hnb2 := heap_alloc_new (wr.alloc (.cells #[bvv x.m, bvv x.v, bvv x.o] 44 (0, 0))) (.cells #[bvv x.m, bvv x.v, bvv x.o] 44 (0, 0))
      have HY := HX _ _ (rows_one hnb2)
      rw [World.size_alloc] at HY
      obtain ⟨Y0, Y1, Y2, -⟩ := box3 hnb rfl
      generalize hR : ptsR [x] n out = R at *
      clear hR hown hnb HX hnb2
      unfold bvv at *
      go_wp2_with fail
      refine HY.mono ?_
      rintro e w1 ⟨rfl, hb1⟩
      have hB1 := hba.trans (hb1.mono hba.size)
      have ho1 := owns_below hoa hb1
      clear Y0 Y1 Y2 HY hb1 hba hoa hb
      have hB2 := hB1.alloc hB1.size (.cells #[wv (wd R 0), wv (wd R 1), wv (wd R 2), wv (wd R 3)] 50 (0, 0))
      have ho2 := ho1.alloc (.cells #[wv (wd R 0), wv (wd R 1), wv (wd R 2), wv (wd R 3)] 50 (0, 0))
      have hn2 := heap_alloc_new w1 (.cells #[wv (wd R 0), wv (wd R 1), wv (wd R 2), wv (wd R 3)] 50 (0, 0))
      obtain ⟨Y0, Y1, Y2, Y3, -⟩ := box4 hn2 rfl
      have hsz := hB1.size
      clear hn2 ho1 hB1
      unfold sv wv at *
      go_wp2_with (at_builtin; refine wpList_append_own_at _ rfl _ _ 22 rfl w.heap.size 50 i0 (.agg #[.int .u64 0, .int .u64 0, .int .u64 0, .int .u64 0]) 4 32 Tryz.underlying22 hi0 hz0 hz1 hz2 rfl (by decide) _ _ _ rfl (ho2.alloc _) ⟨w1.heap.size + 1, 0, none⟩ 1 1 [.int .u64 (wd R 0).toNat, .int .u64 (wd R 1).toNat, .int .u64 (wd R 2).toNat, .int .u64 (wd R 3).toNat] rfl rfl ?c1 ?c2 ?c3 ?c4 ?c5 ?_)
      case c1 => exact World.news_of_block (cs := #[.int .u64 (wd R 0).toNat, .int .u64 (wd R 1).toNat, .int .u64 (wd R 2).toNat, .int .u64 (wd R 3).toNat]) (t := 50) (fr := (0, 0)) (by rw [← World.size_alloc w1 (.cells #[.int .u64 (wd R 0).toNat, .int .u64 (wd R 1).toNat, .int .u64 (wd R 2).toNat, .int .u64 (wd R 3).toNat] 50 (0, 0))]; exact heap_alloc_new _ _)
      case c2 => intro u hu; simp at hu; rcases hu with rfl | rfl | rfl | rfl <;> rfl
      case c3 => unfold maxLen; omega
      case c4 => omega
      case c5 => simp; omega
      intro v8 w8 ho8 hg8 _ _
      have hB8 := grown_below (ho2.alloc (.cells #[.int .u64 (wd R 0).toNat, .int .u64 (wd R 1).toNat, .int .u64 (wd R 2).toNat, .int .u64 (wd R 3).toNat] 50)) hg8 (hB2.alloc hB2.size _) (Nat.le_refl _) (by simp; omega)
      have ho8' : w8.ownsRow w.heap.size 50 4 v8 (ptsE (rs.take (k + 1)) n out).length (stW (ptsE (rs.take (k + 1)) n out)) := by
        rw [hst.out, stW_snoc, List.length_append]
        exact ho8
      clear hg8 ho2 ho8 hB2 Y0 Y1 Y2 Y3
      go_wp2
      go_roundw
      case rel => exact ⟨k + 1, by omega, by go_num, ho8', hB8⟩
      case measure => simp [intOf]; omega
    · have e : k = rs.length := by omega
      subst e
      rw [hend.out] at hown
      have hS := own_stW hown
      clear hcR HP hstep hlenE hend h0
      obtain ⟨A3, c3, rfl⟩ := own_form hown
      go_wp2
      go_ret2
      exact ⟨_, rfl, hS, hb⟩
end Go.Proofs.YtdfllifjbabfjaaGreatDoor
namespace Go.Proofs.YtdfllifjbabfjaaGreatDoor
open Go.RowKit Go.Joins

def textW (l : List Int) : List UInt8 := l.flatMap fun k => Lib.itoa k ++ [32]
theorem textW_succ {l : List Int} {k : Nat} {x : Int} (h : l[k]? = some x) : textW (l.take (k + 1)) = textW (l.take k) ++ Lib.itoa x ++ [32] := by
  unfold textW
  rw [List.take_add_one, h]
  simp
theorem textW_len (l : List Int) (h : ∀ x, x ∈ l → -9223372036854775808 ≤ x ∧ x ≤ 9223372036854775807) : (textW l).length ≤ 22 * l.length := by
  induction l with
  | nil => simp [textW]
  | cons x l ih =>
    have h1 := Lib.itoa_length_le x (h x (List.mem_cons_self ..)).1 (h x (List.mem_cons_self ..)).2
    have h2 := ih (fun y hy => h y (List.mem_cons_of_mem _ hy))
    unfold textW at h2 ⊢
    rw [List.flatMap_cons, List.length_append, List.length_append, List.length_cons, List.length_cons, List.length_nil]
    omega
def valW (l : List UInt8) : Nat := l.foldl (fun a d => 10 * a + (d.toNat - 48)) 0
theorem digW (k : Nat) (h : k < 10) : (UInt8.ofNat (48 + k)).toNat = 48 + k := by
  simp
  omega
theorem valW_dec (u : Nat) : valW (Lib.decDigits u) = u := by
  induction u using Nat.strongRecOn with
  | _ u ih =>
    by_cases h : u < 10
    · rw [Lib.decDigits, dif_pos h]
      unfold valW
      rw [List.foldl_cons, List.foldl_nil, digW u h]
      omega
    · rw [Lib.decDigits, dif_neg h]
      have := ih (u / 10) (by omega)
      unfold valW at this ⊢
      rw [List.foldl_append, this, List.foldl_cons, List.foldl_nil, digW _ (by omega)]
      omega
theorem dec_ge (u : Nat) : ∀ d, d ∈ Lib.decDigits u → 48 ≤ d.toNat := by
  induction u using Nat.strongRecOn with
  | _ u ih =>
    intro d hd
    by_cases h : u < 10
    · rw [Lib.decDigits, dif_pos h] at hd
      rw [List.mem_singleton] at hd
      subst hd
      rw [digW u h]
      omega
    · rw [Lib.decDigits, dif_neg h, List.mem_append, List.mem_singleton] at hd
      rcases hd with hd | hd
      · exact ih (u / 10) (by omega) d hd
      · subst hd
        rw [digW _ (by omega)]
        omega
theorem split_sp : ∀ {a b r s : List UInt8}, (∀ d, d ∈ a → 48 ≤ d.toNat) → (∀ d, d ∈ b → 48 ≤ d.toNat) → a ++ 32 :: r = b ++ 32 :: s → a = b ∧ r = s
  | [], [], r, s, _, _, h => ⟨rfl, by simpa using h⟩
  | [], y :: b, r, s, _, hb, h => by
    have h1 := hb y (List.mem_cons_self ..)
    simp at h
    rw [← h.1] at h1
    exact absurd h1 (by decide)
  | x :: a, [], r, s, ha, _, h => by
    have h1 := ha x (List.mem_cons_self ..)
    simp at h
    rw [h.1] at h1
    exact absurd h1 (by decide)
  | x :: a, y :: b, r, s, ha, hb, h => by
    simp only [List.cons_append] at h
    injection h with h1 h2
    obtain ⟨e1, e2⟩ := split_sp (fun d hd => ha d (List.mem_cons_of_mem _ hd)) (fun d hd => hb d (List.mem_cons_of_mem _ hd)) h2
    exact ⟨by rw [h1, e1], e2⟩
theorem textW_inj : ∀ {l m : List Int}, (∀ c, c ∈ l → 0 ≤ c) → (∀ c, c ∈ m → 0 ≤ c) → textW l = textW m → l = m
  | [], [], _, _, _ => rfl
  | [], y :: m, _, _, h => by simp [textW] at h
  | x :: l, [], _, _, h => by simp [textW] at h
  | x :: l, y :: m, hl, hm, h => by
    have hx := hl x (List.mem_cons_self ..)
    have hy := hm y (List.mem_cons_self ..)
    unfold textW at h
    rw [List.flatMap_cons, List.flatMap_cons, List.append_assoc, List.append_assoc, List.singleton_append, List.singleton_append] at h
    unfold Lib.itoa at h
    rw [if_neg (by omega), if_neg (by omega)] at h
    obtain ⟨e1, e2⟩ := split_sp (dec_ge _) (dec_ge _) h
    have e3 : x = y := by
      have := congrArg valW e1
      rw [valW_dec, valW_dec] at this
      omega
    rw [e3, textW_inj (fun c hc => hl c (List.mem_cons_of_mem _ hc)) (fun c hc => hm c (List.mem_cons_of_mem _ hc)) e2]
theorem Tryz.infoByteW : (Tryz.prog.info? 5).map (fun i => (i.zero, i.size, i.bytes)) = some (some (.int .u8 0), 1, 1) := by kernel_rfl
set_option maxHeartbeats 4000000 in
set_option maxRecDepth 100000 in
theorem text13_any (w : World) (hT : TabW w) (v : Value) (l : List Int) (hv : IntsAt w w.heap.size v l) (hl : l.length ≤ 1000000) (hr : ∀ x, x ∈ l → -9223372036854775808 ≤ x ∧ x ≤ 9223372036854775807) :
    Calls Tryz.prog 24 #[v] w fun e w' => e = .returned (.string ⟨(textW l).toArray⟩) ∧ Below w.heap.size w w' := by
  obtain ⟨i0, hi0, hz0, hz1, hz2⟩ := info_parts Tryz.infoByteW
  have hTB := Lib.tabBelow_of_tabIs hT
  clear hT
  have hstep := Lib.hid (fun k x => textW_succ (l := l) (k := k) (x := x))
  have hbound : Hid (∀ k, (textW (l.take k)).length ≤ 22000000) := Lib.hid (fun k => by
    have h1 := textW_len (l.take k) (fun x hx => hr x (List.mem_of_mem_take hx))
    have h2 : (l.take k).length ≤ l.length := by rw [List.length_take]; omega
    omega)
  have h0 : Hid (textW (l.take 0) = []) := Lib.hid (by rw [List.take_zero]; rfl)
  have hend : Hid (textW (l.take l.length) = textW l) := Lib.hid (by rw [List.take_length])
  obtain ⟨A, c, rfl, hlv, hcv⟩ := hv
  go_enter Tryz.func24, Tryz.ntmps24
  go_wp2
  go_loopw [3, 5, 8] (fun V _ t wr => ∃ k : Nat, k ≤ l.length ∧ t = .int .i64 k ∧ wr.ownsRow w.heap.size 5 1 V (textW (l.take k)).length (Lib.byteCells (textW (l.take k))) ∧ Below w.heap.size w wr) (fun _ _ t _ => l.length - (intOf t).toNat)
  case atStart => exact ⟨0, by omega, rfl, by rw [h0.out]; exact World.ownsRow_nil _ _ _ _, Below.refl _ _⟩
  case round =>
    obtain ⟨k, hk, rfl, hown, hb⟩ := hrel
    by_cases hlt : k < l.length
    · obtain ⟨b, off, rfl, hB, hc⟩ := hcv (by omega)
      obtain ⟨x, hx⟩ : ∃ x, l[k]? = some x := ⟨_, List.getElem?_eq_getElem hlt⟩
      have d0 := (hb.cell (p := ⟨b, off + k, none⟩) hB).trans (hc k x hx)
      obtain ⟨x0, x1⟩ := hr x (List.mem_of_getElem? hx)
      have hst := Lib.hid (hstep.out k x hx)
      have hbk := hbound.out k
      have lx := Lib.itoa_length_le x x0 x1
      clear hc hcv hx hr
      have hs := hb.size
      go_wp2_with fail
      refine (Tryz.strconv_AppendInt_10 w.heap.size _ x x0 x1 _ _ wr hown (by omega) (by omega) (hTB.on hb)).mono ?_
      rintro e w1 ⟨v1, rfl, hown1, hnx1, -⟩
      have hb1 := hb.trans hnx1
      have hs1 := hb1.size
      clear hown
      go_wp2_with (at_builtin; refine wpList_append_own _ rfl _ _ 82 rfl w.heap.size 5 i0 (.int .u8 0) 1 1 Tryz.underlying82 hi0 hz0 hz1 hz2 rfl (by decide) _ _ _ rfl (hown1.alloc _) ⟨w1.heap.size, 0, none⟩ 1 1 [Value.int .u8 32] rfl rfl (by intro j u' hj; match j, hj with | 0, hj => simp at hj; subst hj; simp [Addr.add]) (by intro u' hu'; simp at hu'; subst hu'; rfl) (by unfold maxLen; omega) (by omega) (by simp; omega) ?_)
      intro v2 w2 hown2 hgrow _
      have hb2 : Below w.heap.size w w2 := (hb1.alloc (by omega) _).grown hgrow (by simp; omega) (fun k hk => (hown1.lt k hk).1)
      have hown3 : w2.ownsRow w.heap.size 5 1 v2 (textW (l.take (k + 1))).length (Lib.byteCells (textW (l.take (k + 1)))) := by
        rw [hst.out]
        have e1 : (textW (l.take k) ++ Lib.itoa x ++ [32]).length = (textW (l.take k)).length + (Lib.itoa x).length + 1 := by simp; omega
        have e2 : Lib.byteCells (textW (l.take k) ++ Lib.itoa x ++ [32]) = Lib.byteCells (textW (l.take k)) ++ Lib.byteCells (Lib.itoa x) ++ [Value.int .u8 32] := by simp [Lib.byteCells]
        rw [e1, e2, List.append_assoc]
        exact hown2
      clear hown1 hown2 hgrow hst hbk lx hb1
      go_wp2
      go_roundw
      case rel => exact ⟨k + 1, by omega, by go_num, hown3, hb2⟩
      case measure => simp [intOf]; omega
    · have e : k = l.length := by omega
      subst e
      rw [hend.out] at hown
      clear hcv hr hstep hend hbound h0
      obtain ⟨T, hTW⟩ : ∃ T, T = textW l := ⟨_, rfl⟩
      rw [← hTW] at hown
      have HL := Lib.hid hTW
      clear hTW
      rcases hown.2 with ⟨rfl, h0⟩ | ⟨g, cap, cur, rfl, -, -, -, -, -, -⟩
      · have hT0 : T = [] := List.eq_nil_of_length_eq_zero h0
        clear h0
        have hcv : (convert 82 9 (.slice none 0 0)).run Tryz.prog wr = .ok (.string ⟨#[]⟩) wr := by
          rw [run_convert_bytes_string wr 82 9 5 none 0 0 Tryz.underlying82 Tryz.underlying5 Tryz.underlying9]
          rfl
        go_wp2
        go_ret
        exact ⟨by rw [← HL.out, hT0]; rfl, hb⟩
      · have hcv := run_convert_bytes_back (P := Tryz.prog) wr 82 9 5 ⟨g, 0, none⟩ cap T Tryz.underlying82 Tryz.underlying5 Tryz.underlying9 (fun j hj => hown.cells (g := g) rfl j _ (by simp [Lib.byteCells, hj]))
        go_wp2
        go_ret
        exact ⟨by rw [← HL.out]; rfl, hb⟩
end Go.Proofs.YtdfllifjbabfjaaGreatDoor
