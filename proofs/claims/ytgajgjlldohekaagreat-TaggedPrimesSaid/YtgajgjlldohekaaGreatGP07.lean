/- Tables of layer 3 and their texts, plain: what a table's text is, what a text is parsed to, and that one is the other's way back. A right table's text is parsed to the table. A slice that reads as numbers. A table in memory: its lines are a slice, of each line the outputs are one; a line that is too long, or too many of them. A slice of sets in memory. Rows and specs: what they are in memory, and what is said of them, plain. Which tables are right, by the program: between, the lines' closures, ContainsFunc over numbers and over lines, rightLine, Right. Rows of the package spec: value, cubesRight, outsRight, for every list of rows. Right of the package spec, for every spec. The document's own answers of layer 4: Bit, Covered, Marked, size, Same. The document's own Member of layer 11. The document's answers of layer 8: numbers and bits, rows of members. -/
import Derived.Test.YtgajgjlldohekaaGreatGP06
import Derived.Test.YtgajgjlldohekaaGreatGP03
import Derived.Test.YtgajgjlldohekaaGreatGP05
import Derived.Test.YtgajgjlldohekaaGreatGP04
import Derived.Lib.IndexMore
import Derived.Lib.Strings
import Derived.Maps.AppendAt
import Derived.Deep.RegionHeld3
import Derived.Deep.CutRange
namespace Go.Proofs.YtgajgjlldohekaaGreat
open Go.RowKit Go.Joins

/-- A line of a table: a cube, and what it says of the outputs. -/
structure Ln where
  m : BitVec 8
  v : BitVec 8
  o : List Int
end Go.Proofs.YtgajgjlldohekaaGreat
namespace Go.Proofs.YtgajgjlldohekaaGreat
open Go.RowKit Go.Joins

end Go.Proofs.YtgajgjlldohekaaGreat
namespace Go.Proofs.YtgajgjlldohekaaGreat
open Go.RowKit Go.Joins

/-- The slice v reads as the numbers o; what it reads lies below block B. -/
def IntsAt (w : World) (B : Nat) (v : Value) (o : List Int) : Prop :=
  ∃ A c, v = .slice A o.length c ∧ o.length ≤ 9223372036854775807 ∧
    (0 < o.length → ∃ b off, A = some ⟨b, off, none⟩ ∧ b < B ∧ ∀ j x, o[j]? = some x → w.cell? ⟨b, off + j, none⟩ = some (.int .i64 x))
theorem IntsAt.below {w w' : World} {B : Nat} {v : Value} {o : List Int} (h : IntsAt w B v o) (hb : Below B w w') : IntsAt w' B v o := by
  obtain ⟨A, c, e, hl, h⟩ := h
  refine ⟨A, c, e, hl, fun h0 => ?_⟩
  obtain ⟨b, off, eA, hB, hc⟩ := h h0
  exact ⟨b, off, eA, hB, fun j x hx => (hb.cell (p := ⟨b, off + j, none⟩) hB).trans (hc j x hx)⟩
theorem IntsAt.more {w : World} {B B' : Nat} {v : Value} {o : List Int} (h : IntsAt w B v o) (hB : B ≤ B') : IntsAt w B' v o := by
  obtain ⟨A, c, e, hl, h⟩ := h
  refine ⟨A, c, e, hl, fun h0 => ?_⟩
  obtain ⟨b, off, eA, hb, hc⟩ := h h0
  exact ⟨b, off, eA, by omega, hc⟩
end Go.Proofs.YtgajgjlldohekaaGreat
namespace Go.Proofs.YtgajgjlldohekaaGreat
open Go.RowKit Go.Joins

def lv (m v : BitVec 8) (O : Value) : Value := .agg #[bvv m, bvv v, O]
end Go.Proofs.YtgajgjlldohekaaGreat
namespace Go.Proofs.YtgajgjlldohekaaGreat
open Go.RowKit Go.Joins

end Go.Proofs.YtgajgjlldohekaaGreat
namespace Go.Proofs.YtgajgjlldohekaaGreat
open Go.RowKit Go.Joins

/-- A row: a cube, and the bits of its outputs. -/
structure Rw where
  m : BitVec 8
  v : BitVec 8
  o : BitVec 8
/-- What is asked for. -/
structure Sp where
  i : Int
  on : List (BitVec 256)
  may : List (BitVec 256)
/-- The slice v reads as the rows rs. -/
def RwsAt (w : World) (B : Nat) (v : Value) (rs : List Rw) : Prop :=
  ∃ A c, v = .slice A rs.length c ∧ rs.length ≤ 9223372036854775807 ∧
    (0 < rs.length → ∃ b off, A = some ⟨b, off, none⟩ ∧ b < B ∧ ∀ j x, rs[j]? = some x → w.cell? ⟨b, off + j * 3, none⟩ = some (bvv x.m) ∧ w.cell? ⟨b, off + j * 3 + 1, none⟩ = some (bvv x.v) ∧
      w.cell? ⟨b, off + j * 3 + 2, none⟩ = some (bvv x.o))
def rwv (x : Rw) : Value := .agg #[bvv x.m, bvv x.v, bvv x.o]

theorem RwsAt.below {w w' : World} {B : Nat} {v : Value} {rs : List Rw} (h : RwsAt w B v rs) (hb : Below B w w') : RwsAt w' B v rs := by
  obtain ⟨A, c, e, hl, h⟩ := h
  refine ⟨A, c, e, hl, fun h0 => ?_⟩
  obtain ⟨b, off, eA, hB, hc⟩ := h h0
  refine ⟨b, off, eA, hB, fun j X hx => ?_⟩
  obtain ⟨a0, a1, a2⟩ := hc j X hx
  exact ⟨(hb.cell (p := ⟨b, off + j * 3, none⟩) hB).trans a0, (hb.cell (p := ⟨b, off + j * 3 + 1, none⟩) hB).trans a1, (hb.cell (p := ⟨b, off + j * 3 + 2, none⟩) hB).trans a2⟩
theorem RwsAt.more {w : World} {B B' : Nat} {v : Value} {rs : List Rw} (h : RwsAt w B v rs) (hB : B ≤ B') : RwsAt w B' v rs := by
  obtain ⟨A, c, e, hl, h⟩ := h
  refine ⟨A, c, e, hl, fun h0 => ?_⟩
  obtain ⟨b, off, eA, hb, hc⟩ := h h0
  exact ⟨b, off, eA, by omega, hc⟩

end Go.Proofs.YtgajgjlldohekaaGreat
namespace Go.Proofs.YtgajgjlldohekaaGreat
open Go.RowKit Go.Joins

end Go.Proofs.YtgajgjlldohekaaGreat
namespace Go.Proofs.YtgajgjlldohekaaGreat
open Go.RowKit Go.Joins

end Go.Proofs.YtgajgjlldohekaaGreat
namespace Go.Proofs.YtgajgjlldohekaaGreat
open Go.RowKit Go.Joins

end Go.Proofs.YtgajgjlldohekaaGreat
namespace Go.Proofs.YtgajgjlldohekaaGreat
open Go.RowKit Go.Joins

theorem bit8_any (x : BitVec 8) (i : Nat) (hi : i < 8) (w : World) :
    Calls Tryz.prog 12 #[bvv x, .int .i64 i] w fun e w' => e = .returned (.bool (x.getLsbD i)) ∧ w = w' := by
  have HB := fun w => bit_any x.toNat i (by omega) hi w
  have hm := bit_mod x i
  have hw : wrap64 (x.toNat : Int) = x.toNat := by unfold wrap64; omega
  unfold bvv
  cases hb : x.getLsbD i
  · rw [hm, hb] at HB
    clear hm
    go_enter Tryz.func12, Tryz.ntmps12
    go_wp2_with (go_at_call 31; refine (HB _).mono ?_; rintro e w' ⟨rfl, rfl⟩)
    go_ret
    exact ⟨rfl, rfl⟩
  · rw [hm, hb] at HB
    clear hm
    go_enter Tryz.func12, Tryz.ntmps12
    go_wp2_with (go_at_call 31; refine (HB _).mono ?_; rintro e w' ⟨rfl, rfl⟩)
    go_ret
    exact ⟨rfl, rfl⟩
end Go.Proofs.YtgajgjlldohekaaGreat
namespace Go.Proofs.YtgajgjlldohekaaGreat
open Go.RowKit Go.Joins

theorem rpower11_any (n : Nat) (hn : n ≤ 20) (w : World) :
    Calls Tryz.prog 26 #[.int .i64 n] w fun e w' => e = .returned (.int .i64 ((2 ^ n : Nat) : Int)) ∧ w = w' := by
  have hp2 : ∀ k, Hid (2 ^ (k + 1) = 2 ^ k * 2) := fun k => Lib.hid (Nat.pow_succ 2 k)
  have hple : ∀ k, k ≤ n → Hid (2 ^ k ≤ 1048576) := fun k hk => Lib.hid (Nat.le_trans (Nat.pow_le_pow_right (by decide) (by omega : k ≤ 20)) (by decide : (2 : Nat) ^ 20 ≤ 1048576))
  go_enter Tryz.func26, Tryz.ntmps26
  go_wp2
  go_loopw [3, 4] (fun p t wr => ∃ k : Nat, k ≤ n ∧ t = .int .i64 k ∧ p = .int .i64 ((2 ^ k : Nat) : Int) ∧ w = wr) (fun _ t _ => n - (intOf t).toNat)
  case atStart => exact ⟨0, by omega, rfl, rfl, rfl⟩
  case round =>
    obtain ⟨k, hk, rfl, rfl, rfl⟩ := hrel
    by_cases hki : k < n
    · have hp := hp2 k
      have h24 := (hple (k + 1) (by omega)).out
      clear hp2 hple
      generalize hq : 2 ^ (k + 1) = q at *
      generalize 2 ^ k = p at *
      have hpq := hp.out
      have hqH := Lib.hid hq
      clear hq
      go_wp2
      go_roundw
      case rel => exact ⟨k + 1, by omega, by go_num, by rw [hqH.out, hp.out]; go_num, trivial⟩
      case measure => simp [intOf]; omega
    · obtain rfl : k = n := by omega
      clear hp2 hple
      generalize hP : 2 ^ k = p at *
      have hPH := Lib.hid hP
      clear hP
      go_wp2
      go_ret
      exact ⟨by rw [hPH.out]; rfl, rfl⟩
theorem tm_two (q : Nat) : (((q : Int).tmod 2) == 1) = decide (q % 2 = 1) := by
  rw [Int.tmod_eq_emod_of_nonneg (by omega)]
  rcases Nat.mod_two_eq_zero_or_one q with e | e
  · rw [show (q : Int) % 2 = 0 by omega, decide_eq_false (by omega)]; rfl
  · rw [show (q : Int) % 2 = 1 by omega, decide_eq_true e]; rfl
theorem tb_div (k t : Nat) (hk : k < 1048576) : ((wrap64 ((k : Int) / ((2 ^ t : Nat) : Int))).tmod 2 == 1) = k.testBit t := by
  have hq : k / 2 ^ t ≤ k := Nat.div_le_self _ _
  rw [← Int.natCast_ediv, Nat.testBit_eq_decide_div_mod_eq]
  generalize k / 2 ^ t = q at *
  rw [show wrap64 (q : Int) = (q : Int) by unfold wrap64; omega, tm_two]
theorem rhas11_any (k t : Nat) (hk : k < 1048576) (ht : t ≤ 20) (w : World) :
    Calls Tryz.prog 27 #[.int .i64 k, .int .i64 t] w fun e w' => e = .returned (.bool (k.testBit t)) ∧ w = w' := by
  have HP := fun w => rpower11_any t ht w
  have hd := Lib.hid (tb_div k t hk)
  have hp : 0 < 2 ^ t := Nat.two_pow_pos t
  have hq : k / 2 ^ t ≤ k := Nat.div_le_self _ _
  generalize 2 ^ t = p at *
  have hp0 : ¬ (p : Int) = 0 := by omega
  go_enter Tryz.func27, Tryz.ntmps27
  go_wp2_with fail
  refine (HP _).mono ?_
  rintro e w1 ⟨rfl, rfl⟩
  clear HP
  go_wp2
  go_ret
  exact ⟨by rw [← hd.out]; rfl, rfl⟩
/-- The box of a row. -/
def rwO (x : Rw) : Obj := .cells #[.int .u8 x.m.toNat, .int .u8 x.v.toNat, .int .u8 x.o.toNat] 25 (0, 0)
set_option maxHeartbeats 2000000 in
set_option maxRecDepth 100000 in
theorem rmember11_any (x : Rw) (w : World) :
    Calls Tryz.prog 10 #[rwv x] w fun e w' => e = .returned (.int .i64 (memB x.m x.v x.o)) ∧ Below w.heap.size w w' := by
  have HL := fun w => lits_any x.m x.v w
  have HP := fun n hn w => rpower11_any n hn w
  have HB := fun j (hj : j < 4) w => bit8_any x.o j (by omega) w
  have hx := heap_alloc_new w (rwO x)
  have hb := below_alloc1 w (rwO x)
  have hst := Lib.hid (fun i (hi : i < 8) => mb_step x.m x.v x.o hi)
  have hso := Lib.hid (fun j (hj : j < 4) => mb_out x.m x.v x.o hj)
  have hlt := Lib.hid (fun k (hk : k ≤ 20) => Nat.lt_of_lt_of_le (wsum_lt (mbF x.m x.v x.o) k) (Nat.pow_le_pow_right (by decide : 0 < 2) hk))
  have hll := Lib.hid (fun i => lit_le x.m x.v i)
  unfold rwv rwO cv bvv memB at *
  generalize mbF x.m x.v x.o = F at *
  go_enter Tryz.func10, Tryz.ntmps10
  go_upto_region 2 with (fail)
  generalize w.alloc _ = W at *
  obtain ⟨x0, x1, x2, -⟩ := now3 hx rfl
  go_wp2_with fail
  refine (HL _).mono ?_
  rintro e w1 ⟨lb1, lc1, rfl, hlb, hL, hb1⟩
  have hx1 := keep_blk hb1 hx
  have hB := hb.trans (hb1.mono hb.size)
  clear HL x0 x1 x2 hx hb hb1
  go_wp2_with fail
  go_loopw [3, 5] (fun s t wr => ∃ i A : Nat, i ≤ 8 ∧ t = .int .i64 i ∧ s = .int .i64 A ∧ Hid (A = wsum F (2 * i)) ∧ w1 = wr) (fun _ t _ => 8 - (intOf t).toNat)
  case atStart => exact ⟨0, 0, by omega, rfl, rfl, Lib.hid rfl, rfl⟩
  case round =>
    obtain ⟨i, A, hi, rfl, rfl, hA, rfl⟩ := hrel
    by_cases h8 : i < 8
    · have hc := hL.2 i h8
      have h1 := Lib.hid (hst.out i h8)
      have h2 := hll.out i
      have h3 := hlt.out (2 * (i + 1)) (by omega)
      have d1 : decide ((i : Int) < 8) = true := decide_eq_true (by omega)
      have i0 : ¬ (i : Int) < 0 := by omega
      clear hst hso hll hlt HB
      generalize lit x.m x.v i = L at *
      by_cases hL2 : L = 2
      · subst hL2
        have h5 : Hid (A = wsum F (2 * (i + 1))) := Lib.hid (by rw [h1.out, if_pos rfl, ← hA.out]; rfl)
        clear HP h2 h3 h1 hA
        go_wp2
        go_roundw
        case rel => exact ⟨i + 1, A, by omega, by go_num, rfl, h5, by simp⟩
        case measure => simp [intOf]; omega
      · have HPn : ∀ w, Calls Tryz.prog 26 #[.int .i64 (2 * (i : Int) + (L : Int))] w fun e w' => e = .returned (.int .i64 ((2 ^ (2 * i + L) : Nat) : Int)) ∧ w = w' := fun w => by
          have := HP (2 * i + L) (by omega) w
          rwa [show ((2 * i + L : Nat) : Int) = 2 * (i : Int) + (L : Int) by omega] at this
        have hd : ((L : Int) != 2) = true := by simp; omega
        have h5 : Hid (A + 2 ^ (2 * i + L) = wsum F (2 * (i + 1))) := Lib.hid (by rw [h1.out, if_neg hL2, ← hA.out])
        have h6 : A + 2 ^ (2 * i + L) < 1048576 := by rw [h5.out]; exact h3
        generalize 2 ^ (2 * i + L) = p at *
        clear HP h3 h1 hA
        go_wp2_with fail
        refine (HPn _).mono ?_
        rintro e w2 ⟨rfl, rfl⟩
        clear HPn
        go_wp2
        go_roundw
        case rel => exact ⟨i + 1, A + p, by omega, by go_num, by go_num, h5, by simp⟩
        case measure => simp [intOf]; omega
    · have hA8 : Hid (A = wsum F (16 + 0)) := Lib.hid (by rw [hA.out]; congr 1; omega)
      have d1 : decide ((i : Int) < 8) = false := decide_eq_false (by omega)
      clear hst hll hL hA
      go_wp2_with fail
      go_loopw [3, 6] (fun s t wr => ∃ j A : Nat, j ≤ 4 ∧ t = .int .i64 j ∧ s = .int .i64 A ∧ Hid (A = wsum F (16 + j)) ∧ w1 = wr) (fun _ t _ => 4 - (intOf t).toNat)
      case atStart => exact ⟨0, A, by omega, rfl, rfl, hA8, rfl⟩
      case round =>
        clear hA8
        obtain ⟨j, A, hj, rfl, rfl, hA, rfl⟩ := hrel
        by_cases h4 : j < 4
        · have hst := Lib.hid (hso.out j h4)
          have h3 := hlt.out (16 + (j + 1)) (by omega)
          have HBj := fun w => HB j h4 w
          have d1 : decide ((j : Int) < 4) = true := decide_eq_true (by omega)
          obtain ⟨x0, x1, x2, -⟩ := now3 hx1 rfl
          clear hso hlt HB
          go_wp2_with fail
          refine (HBj _).mono ?_
          rintro e w2 ⟨rfl, rfl⟩
          clear HBj x0 x1 x2
          cases hb : x.o.getLsbD j
          · have h5 : Hid (A = wsum F (16 + (j + 1))) := Lib.hid (by rw [hst.out, hb, if_neg (by decide), ← hA.out]; rfl)
            clear hst hA HP h3
            go_wp2
            go_roundw
            case rel => exact ⟨j + 1, A, by omega, by go_num, rfl, h5, by simp⟩
            case measure => simp [intOf]; omega
          · have h5 : Hid (A + 2 ^ (16 + j) = wsum F (16 + (j + 1))) := Lib.hid (by rw [hst.out, hb, if_pos rfl, ← hA.out])
            have h6 : A + 2 ^ (16 + j) < 1048576 := by rw [h5.out]; exact h3
            have HPn : ∀ w, Calls Tryz.prog 26 #[.int .i64 (16 + (j : Int))] w fun e w' => e = .returned (.int .i64 ((2 ^ (16 + j) : Nat) : Int)) ∧ w = w' := fun w => by
              have := HP (16 + j) (by omega) w
              rwa [show ((16 + j : Nat) : Int) = 16 + (j : Int) by omega] at this
            generalize 2 ^ (16 + j) = p at *
            clear hst hA HP h3
            go_wp2_with fail
            refine (HPn _).mono ?_
            rintro e w2 ⟨rfl, rfl⟩
            clear HPn
            go_wp2
            go_roundw
            case rel => exact ⟨j + 1, A + p, by omega, by go_num, by go_num, h5, by simp⟩
            case measure => simp [intOf]; omega
        · have hA4 : Hid (A = wsum F 20) := Lib.hid (by rw [hA.out]; congr 1; omega)
          have d2 : decide ((j : Int) < 4) = false := decide_eq_false (by omega)
          clear hso hlt HB HP hA
          go_wp2
          go_ret
          exact ⟨by rw [← hA4.out]; rfl, hB⟩
end Go.Proofs.YtgajgjlldohekaaGreat
namespace Go.Proofs.YtgajgjlldohekaaGreat
open Go.RowKit Go.Joins

/-- Numbers as the slices hold them. -/
def nI (o : List Nat) : List Int := o.map fun i : Nat => (i : Int)
theorem nI_len (o : List Nat) : (nI o).length = o.length := by unfold nI; simp
theorem nI_get {o : List Nat} {j y : Nat} (h : o[j]? = some y) : (nI o)[j]? = some (y : Int) := by
  unfold nI; rw [List.getElem?_map, h]; rfl
theorem nI_of {o : List Nat} {j : Nat} {y : Int} (h : (nI o)[j]? = some y) : ∃ i : Nat, y = i ∧ o[j]? = some i := by
  unfold nI at h
  rw [List.getElem?_map] at h
  obtain ⟨i, hi, rfl⟩ := Option.map_eq_some_iff.1 h
  exact ⟨i, rfl, hi⟩
/-- All items of two members. -/
theorem two24 {k : Nat} (h : k ≤ 24) : 2 ^ k ≤ 16777216 := Nat.le_trans (Nat.pow_le_pow_right (by decide) h) (by decide : (2 : Nat) ^ 24 ≤ 16777216)
/-- A row of numbers that the call owns, as a slice that reads so. -/
theorem own_nI {w : World} {B n : Nat} {v : Value} {o : List Nat} (h : w.ownsRow B 3 1 v n (intsV o)) : IntsAt w w.heap.size v (nI o) := by
  have hn : o.length = n := by have := h.1; unfold intsV at this; rw [List.length_map] at this; omega
  rcases h.2 with ⟨rfl, h0⟩ | ⟨g, cap, cur, rfl, hg, hgg, hnc, hcm, hcs, htake⟩
  · have : o = [] := List.eq_nil_of_length_eq_zero (by omega)
    subst this
    exact ⟨none, 0, rfl, by decide, fun h => absurd h (by decide)⟩
  · rw [Nat.mul_one] at htake
    have hmx : maxLen = 9223372036854775807 := rfl
    refine ⟨some ⟨g, 0, none⟩, cap, by rw [nI_len, hn], by rw [nI_len]; omega, fun _ => ⟨g, 0, rfl, size_of_block hgg, fun j x hj => ?_⟩⟩
    obtain ⟨y, rfl, hy⟩ := nI_of hj
    have hjl := (List.getElem?_eq_some_iff.1 hy).1
    rw [Nat.zero_add, cell_of_block hgg]
    have h1 : (cur.toList.take n)[j]? = some (.int .i64 y) := by rw [htake]; unfold intsV; rw [List.getElem?_map, hy]; rfl
    rw [List.getElem?_take, if_pos (by omega)] at h1
    simpa using h1
theorem intsV_app (o : List Nat) (x : Nat) : intsV (o ++ [x]) = intsV o ++ [.int .i64 x] := by unfold intsV; simp
theorem one_news {w : World} {x : Int} {T : TypeId} (j : Nat) (u : Value) (hj : [Value.int .i64 x][j]? = some u) : (w.alloc (.cells #[.int .i64 x] T (0, 0))).cell? ((⟨w.heap.size, 0, none⟩ : Addr).add j) = some u := by
  match j, hj with
  | 0, hj => rw [Addr.add_lit, cell_of_block (heap_alloc_new _ _)]; exact hj
theorem one_cell {x : Int} (u : Value) (hu : u ∈ [Value.int .i64 x]) : u.oneCell' = true := by
  rw [List.mem_singleton.1 hu]; rfl
set_option maxHeartbeats 1000000 in
set_option maxRecDepth 100000 in
/-- Are two rows alike? -/
theorem rsame8_any (w : World) (v u : Value) (xs ys : List Int) (hx : IntsAt w w.heap.size v xs) (hy : IntsAt w w.heap.size u ys) :
    Calls Tryz.prog 18 #[v, u] w fun e w' => e = .returned (.bool (decide (xs = ys))) ∧ Below w.heap.size w w' := by
  obtain ⟨A, c, rfl, hlx, hcx⟩ := hx
  obtain ⟨A2, c2, rfl, hly, hcy⟩ := hy
  by_cases hl : xs.length = ys.length
  · have hd : (((xs.length : Nat) : Int) != ((ys.length : Nat) : Int)) = false := by rw [hl]; simp
    have hlH := Lib.hid hl
    clear hl
    go_enter Tryz.func18, Tryz.ntmps18
    go_wp2
    clear hd
    go_loopw [5] (fun t wr => ∃ k : Nat, k ≤ xs.length ∧ t = .int .i64 k ∧ Hid (xs.take k = ys.take k) ∧ Below w.heap.size w wr) (fun t _ => xs.length - (intOf t).toNat)
    case atStart => exact ⟨0, by omega, rfl, Lib.hid (by simp), Below.refl _ _⟩
    case round =>
      obtain ⟨k, hk, rfl, hH, hb⟩ := hrel
      by_cases hlt : k < xs.length
      · have hlt' : k < ys.length := by have := hlH.out; omega
        obtain ⟨b, off, rfl, hB, hc⟩ := hcx (by omega)
        obtain ⟨b', off', rfl, hB', hc'⟩ := hcy (by omega)
        obtain ⟨x, hx⟩ : ∃ x, xs[k]? = some x := ⟨_, List.getElem?_eq_getElem hlt⟩
        obtain ⟨y, hy⟩ : ∃ y, ys[k]? = some y := ⟨_, List.getElem?_eq_getElem hlt'⟩
        have q0 := fun X : After wr => After.cell X ((hb.cell (p := ⟨b, off + k, none⟩) hB).trans (hc k x hx))
        have q1 := fun X : After wr => After.cell X ((hb.cell (p := ⟨b', off' + k, none⟩) hB').trans (hc' k y hy))
        have b1 : (0 : Int) ≤ (k : Int) := by omega
        have b2 : (k : Int) < (xs.length : Int) := by omega
        have b3 : (k : Int) < (ys.length : Int) := by omega
        have hxH := Lib.hid hx
        have hyH := Lib.hid hy
        clear hc hc' hcx hcy hx hy
        by_cases hxy : x = y
        · have hne : (x != y) = false := by rw [hxy]; simp
          have hst : Hid (xs.take (k + 1) = ys.take (k + 1)) := Lib.hid (by rw [List.take_add_one, List.take_add_one, hH.out, hxH.out, hyH.out, hxy])
          clear hxy hH
          go_wp2_with fail
          refine wp_region_after (by kernel_rfl) (by kernel_rfl) ?_
          repeat (first | go_big_quiet_step (fail))
          refine wpQuiet_nil ?_
          intro z
          have hbz := hb.trans (z.2.mono hb.size)
          clear q0 q1
          go_wp2
          go_roundw
          case rel => exact ⟨k + 1, by omega, by go_num, hst, hbz⟩
          case measure => simp [intOf]; omega
        · have hne : (x != y) = true := by rw [bne_iff_ne]; exact hxy
          have hR : Hid (decide (xs = ys) = false) := Lib.hid (decide_eq_false fun e => hxy (by
            have h1 := hxH.out
            rw [e, hyH.out] at h1
            injection h1 with h1
            exact h1.symm))
          clear hxy hH
          go_wp2_with fail
          refine wp_region_after (by kernel_rfl) (by kernel_rfl) ?_
          repeat (first | go_big_quiet_step (fail))
          refine wpQuiet_nil ?_
          intro z
          have hbz := hb.trans (z.2.mono hb.size)
          clear q0 q1
          go_wp2
          go_ret
          exact ⟨by rw [hR.out]; rfl, hbz⟩
      · have hR : Hid (decide (xs = ys) = true) := Lib.hid (decide_eq_true (by
          have h1 := hH.out
          rw [List.take_of_length_le (by omega), List.take_of_length_le (by have := hlH.out; omega)] at h1
          exact h1))
        clear hH
        go_wp2
        go_ret
        exact ⟨by rw [hR.out]; rfl, hb⟩
  · have hd : (((xs.length : Nat) : Int) != ((ys.length : Nat) : Int)) = true := by rw [bne_iff_ne]; omega
    have hR : Hid (decide (xs = ys) = false) := Lib.hid (decide_eq_false fun e => hl (by rw [e]))
    clear hl
    go_enter Tryz.func18, Tryz.ntmps18
    go_wp2
    go_ret
    exact ⟨by rw [hR.out]; rfl, Below.refl _ _⟩
end Go.Proofs.YtgajgjlldohekaaGreat
