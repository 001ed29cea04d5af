/- ReduceSteps, over what the package answers. -/
import Derived.Test.YtjjpobpcpgcbaaaGJ36
import Derived.Test.YtjjpobpcpgcbaaaGJ18
import Derived.Test.YtjjpobpcpgcbaaaGJ17
namespace Go.Proofs.Ytjjpobpcpgcbaaa
open Go.RowKit Go.Joins

def TakeGood : Prop := ∀ (n : Int) (L : Value) (ls : List (List Int)) (w : World), MatAt w w.heap.size L ls → CapM w L → gr14 n ls = false → rightM n ls = true →
  Calls Try.prog 9 #[mtv n L] w fun e w' => ∃ u, e = .returned (.tuple #[mtv n u, .int .i64 (tkV ls), .bool (tkC ls).isSome]) ∧ MatAt w' w'.heap.size u (tkL ls) ∧ Below w.heap.size w w'
def TakeBad : Prop := ∀ (n : Int) (L : Value) (ls : List (List Int)) (w : World), MatAt w w.heap.size L ls → CapM w L → gr14 n ls = false → rightM n ls = false →
  Calls Try.prog 9 #[mtv n L] w fun e w' => ∃ N u, e = .returned (.tuple #[mtv N u, .int .i64 0, .bool false]) ∧ MatAt w' w'.heap.size u ls ∧ Below w.heap.size w w'
def RowsGood : Prop := ∀ (n : Int) (L : Value) (ls : List (List Int)) (w : World), MatAt w w.heap.size L ls → CapM w L → gr14 n ls = false → rightM n ls = true →
  Calls Try.prog 10 #[mtv n L] w fun e w' => ∃ u, e = .returned (.tuple #[mtv n u, .bool (rwI ls).isSome]) ∧ MatAt w' w'.heap.size u (rwL ls) ∧ Below w.heap.size w w'
def RowsBad : Prop := ∀ (n : Int) (L : Value) (ls : List (List Int)) (w : World), MatAt w w.heap.size L ls → CapM w L → gr14 n ls = false → rightM n ls = false →
  Calls Try.prog 10 #[mtv n L] w fun e w' => ∃ N u, e = .returned (.tuple #[mtv N u, .bool false]) ∧ MatAt w' w'.heap.size u ls ∧ Below w.heap.size w w'
def ColsGood : Prop := ∀ (n : Int) (L : Value) (ls : List (List Int)) (w : World), MatAt w w.heap.size L ls → CapM w L → gr14 n ls = false → rightM n ls = true →
  Calls Try.prog 11 #[mtv n L] w fun e w' => ∃ u, e = .returned (.tuple #[mtv n u, .bool (clI ls n.toNat).isSome]) ∧ MatAt w' w'.heap.size u (clL ls n.toNat) ∧ Below w.heap.size w w'
def ColsBad : Prop := ∀ (n : Int) (L : Value) (ls : List (List Int)) (w : World), MatAt w w.heap.size L ls → CapM w L → gr14 n ls = false → rightM n ls = false →
  Calls Try.prog 11 #[mtv n L] w fun e w' => ∃ N u, e = .returned (.tuple #[mtv N u, .bool false]) ∧ MatAt w' w'.heap.size u ls ∧ Below w.heap.size w w'
set_option maxHeartbeats 16000000 in
set_option maxRecDepth 100000 in
theorem reduceSteps_any (HK : Knows14) (T1 : TakeGood) (T2 : TakeBad) (R1 : RowsGood) (R2 : RowsBad) (C1 : ColsGood) (C2 : ColsBad) (n : Int) (L : Value) (ls : List (List Int)) (w : World) (hL : MatAt w w.heap.size L ls) (hcap : CapM w L) :
    Calls Try.prog 3 #[mtv n L] w fun e w' => e = .returned (.bool true) ∧ Below w.heap.size w w' := by
  have hB := below_alloc1 w (mtb n L)
  have hbm : (w.alloc (mtb n L)).heap[w.heap.size]? = some (mtb n L) := heap_alloc_new _ _
  have HG := great14_any n L ls _ ((hL.below hB).more hB.size)
  have HL := fun W (hb : Below w.heap.size w W) => (hL.below hb).more hb.size

  have hcapH := Lib.hid hcap
  clear hcap
  obtain ⟨A, c, rfl, hlen, -⟩ := hL
  unfold mtb at hB hbm HG
  unfold mtv at *
  obtain ⟨m0, m1, -⟩ := now2 hbm rfl
  go_enter Try.func3, Try.ntmps3
  go_wp2_with fail
  refine (HG).mono ?_
  rintro e w1 ⟨rfl, hc⟩
  clear m0 m1
  replace hB := hB.trans (hc.mono hB.size)
  replace hbm := keep_blk hc hbm
  clear hc HG
  obtain ⟨m0, m1, -⟩ := now2 hbm rfl
  cases hg : gr14 n ls
  · cases hr : rightM n ls
    · have D := T2 n _ ls _ (HL _ hB) (hcapH.out.below hB) hg hr
      unfold mtv at D
      go_wp2_with fail
      refine (D).mono ?_
      rintro e w2 ⟨N1, v1, rfl, hMa, hc⟩
      obtain ⟨A1, c1, rfl, -, -⟩ := id hMa
      clear m0 m1
      replace hB := hB.trans (hc.mono hB.size)
      replace hbm := keep_blk hc hbm
      clear hc D
      have hA := below_alloc1 w2 (.cells #[.int .i64 N1, .slice A1 (ls).length c1] 24 (0, 0))
      replace hbm := keep_alloc (x := .cells #[.int .i64 N1, .slice A1 (ls).length c1] 24 (0, 0)) hbm
      replace hMa := (hMa.below hA).more hA.size
      replace hB := hB.trans (hA.mono hB.size)
      have hba := heap_alloc_new w2 (.cells #[.int .i64 N1, .slice A1 (ls).length c1] 24 (0, 0))
      clear hA
      obtain ⟨m0, m1, -⟩ := now2 hbm rfl
      obtain ⟨a0, a1, -⟩ := now2 hba rfl
      have D := R2 n _ ls _ (HL _ hB) (hcapH.out.below hB) hg hr
      unfold mtv at D
      go_wp2_with fail
      refine (D).mono ?_
      rintro e w3 ⟨N2, v2, rfl, hMb, hc⟩
      obtain ⟨A2, c2, rfl, -, -⟩ := id hMb
      clear m0 m1 a0 a1
      replace hB := hB.trans (hc.mono hB.size)
      replace hbm := keep_blk hc hbm
      replace hba := keep_blk hc hba
      replace hMa := (hMa.below hc).more hc.size
      clear hc D
      have hA := below_alloc1 w3 (.cells #[.int .i64 N2, .slice A2 (ls).length c2] 24 (0, 0))
      replace hbm := keep_alloc (x := .cells #[.int .i64 N2, .slice A2 (ls).length c2] 24 (0, 0)) hbm
      replace hba := keep_alloc (x := .cells #[.int .i64 N2, .slice A2 (ls).length c2] 24 (0, 0)) hba
      replace hMa := (hMa.below hA).more hA.size
      replace hMb := (hMb.below hA).more hA.size
      replace hB := hB.trans (hA.mono hB.size)
      have hbb := heap_alloc_new w3 (.cells #[.int .i64 N2, .slice A2 (ls).length c2] 24 (0, 0))
      clear hA
      obtain ⟨m0, m1, -⟩ := now2 hbm rfl
      obtain ⟨a0, a1, -⟩ := now2 hba rfl
      obtain ⟨b0, b1, -⟩ := now2 hbb rfl
      have D := C2 n _ ls _ (HL _ hB) (hcapH.out.below hB) hg hr
      unfold mtv at D
      go_wp2_with fail
      refine (D).mono ?_
      rintro e w4 ⟨N3, v3, rfl, hMd, hc⟩
      obtain ⟨A3, c3, rfl, -, -⟩ := id hMd
      clear m0 m1 a0 a1 b0 b1
      replace hB := hB.trans (hc.mono hB.size)
      replace hbm := keep_blk hc hbm
      replace hba := keep_blk hc hba
      replace hbb := keep_blk hc hbb
      replace hMa := (hMa.below hc).more hc.size
      replace hMb := (hMb.below hc).more hc.size
      clear hc D
      have hA := below_alloc1 w4 (.cells #[.int .i64 N3, .slice A3 (ls).length c3] 24 (0, 0))
      replace hbm := keep_alloc (x := .cells #[.int .i64 N3, .slice A3 (ls).length c3] 24 (0, 0)) hbm
      replace hba := keep_alloc (x := .cells #[.int .i64 N3, .slice A3 (ls).length c3] 24 (0, 0)) hba
      replace hbb := keep_alloc (x := .cells #[.int .i64 N3, .slice A3 (ls).length c3] 24 (0, 0)) hbb
      replace hMa := (hMa.below hA).more hA.size
      replace hMb := (hMb.below hA).more hA.size
      replace hMd := (hMd.below hA).more hA.size
      replace hB := hB.trans (hA.mono hB.size)
      have hbd := heap_alloc_new w4 (.cells #[.int .i64 N3, .slice A3 (ls).length c3] 24 (0, 0))
      clear hA
      obtain ⟨m0, m1, -⟩ := now2 hbm rfl
      obtain ⟨a0, a1, -⟩ := now2 hba rfl
      obtain ⟨b0, b1, -⟩ := now2 hbb rfl
      obtain ⟨d0, d1, -⟩ := now2 hbd rfl
      have D := rright13_any _ _ n ls (HL _ hB)
      rw [hr] at D
      go_wp2_with fail
      refine (D).mono ?_
      rintro e w5 ⟨rfl, hc⟩
      clear m0 m1 a0 a1 b0 b1 d0 d1
      replace hB := hB.trans (hc.mono hB.size)
      replace hbm := keep_blk hc hbm
      replace hba := keep_blk hc hba
      replace hbb := keep_blk hc hbb
      replace hbd := keep_blk hc hbd
      replace hMa := (hMa.below hc).more hc.size
      replace hMb := (hMb.below hc).more hc.size
      replace hMd := (hMd.below hc).more hc.size
      clear hc D
      obtain ⟨m0, m1, -⟩ := now2 hbm rfl
      obtain ⟨a0, a1, -⟩ := now2 hba rfl
      obtain ⟨b0, b1, -⟩ := now2 hbb rfl
      obtain ⟨d0, d1, -⟩ := now2 hbd rfl
      have D := rsameRows13_any _ _ _ _ _ hMa (HL _ hB)
      rw [decide_eq_true rfl] at D
      go_wp2_with fail
      refine (D).mono ?_
      rintro e w6 ⟨rfl, hc⟩
      clear m0 m1 a0 a1 b0 b1 d0 d1
      replace hB := hB.trans (hc.mono hB.size)
      replace hbm := keep_blk hc hbm
      replace hba := keep_blk hc hba
      replace hbb := keep_blk hc hbb
      replace hbd := keep_blk hc hbd
      replace hMa := (hMa.below hc).more hc.size
      replace hMb := (hMb.below hc).more hc.size
      replace hMd := (hMd.below hc).more hc.size
      clear hc D
      obtain ⟨m0, m1, -⟩ := now2 hbm rfl
      obtain ⟨a0, a1, -⟩ := now2 hba rfl
      obtain ⟨b0, b1, -⟩ := now2 hbb rfl
      obtain ⟨d0, d1, -⟩ := now2 hbd rfl
      have D := rsameRows13_any _ _ _ _ _ hMb (HL _ hB)
      rw [decide_eq_true rfl] at D
      go_wp2_with fail
      refine (D).mono ?_
      rintro e w7 ⟨rfl, hc⟩
      clear m0 m1 a0 a1 b0 b1 d0 d1
      replace hB := hB.trans (hc.mono hB.size)
      replace hbm := keep_blk hc hbm
      replace hba := keep_blk hc hba
      replace hbb := keep_blk hc hbb
      replace hbd := keep_blk hc hbd
      replace hMa := (hMa.below hc).more hc.size
      replace hMb := (hMb.below hc).more hc.size
      replace hMd := (hMd.below hc).more hc.size
      clear hc D
      obtain ⟨m0, m1, -⟩ := now2 hbm rfl
      obtain ⟨a0, a1, -⟩ := now2 hba rfl
      obtain ⟨b0, b1, -⟩ := now2 hbb rfl
      obtain ⟨d0, d1, -⟩ := now2 hbd rfl
      have D := rsameRows13_any _ _ _ _ _ hMd (HL _ hB)
      rw [decide_eq_true rfl] at D
      go_wp2_with fail
      refine (D).mono ?_
      rintro e w8 ⟨rfl, hc⟩
      clear m0 m1 a0 a1 b0 b1 d0 d1
      replace hB := hB.trans (hc.mono hB.size)
      replace hbm := keep_blk hc hbm
      replace hba := keep_blk hc hba
      replace hbb := keep_blk hc hbb
      replace hbd := keep_blk hc hbd
      replace hMa := (hMa.below hc).more hc.size
      replace hMb := (hMb.below hc).more hc.size
      replace hMd := (hMd.below hc).more hc.size
      clear hc D
      obtain ⟨m0, m1, -⟩ := now2 hbm rfl
      obtain ⟨a0, a1, -⟩ := now2 hba rfl
      obtain ⟨b0, b1, -⟩ := now2 hbb rfl
      obtain ⟨d0, d1, -⟩ := now2 hbd rfl
      go_wp2_with fail
      refine (HK _).mono ?_
      rintro e w9 ⟨rfl, hc⟩
      clear m0 m1 a0 a1 b0 b1 d0 d1
      replace hB := hB.trans (hc.mono hB.size)
      replace hbm := keep_blk hc hbm
      replace hba := keep_blk hc hba
      replace hbb := keep_blk hc hbb
      replace hbd := keep_blk hc hbd
      replace hMa := (hMa.below hc).more hc.size
      replace hMb := (hMb.below hc).more hc.size
      replace hMd := (hMd.below hc).more hc.size
      clear hc
      go_wp2
      go_ret
      exact ⟨rfl, hB⟩
    · obtain ⟨n0, n4, -⟩ := right_iff.1 hr
      obtain ⟨k, rfl⟩ := Int.eq_ofNat_of_zero_le n0
      have hSm := right_small hg hr
      have hS1 := hSm.len
      have hS2 : ∀ (j : Nat) (l : List Int), ls[j]? = some l → l.length ≤ 1000 := fun j l h => hSm.row l (List.mem_of_getElem? h)
      have hk4 : k ≤ 100000 := by omega
      have D := T1 k _ ls _ (HL _ hB) (hcapH.out.below hB) hg hr
      unfold mtv at D
      go_wp2_with fail
      refine (D).mono ?_
      rintro e w2 ⟨v1, rfl, hMa, hc⟩
      obtain ⟨A1, c1, rfl, -, -⟩ := id hMa
      clear m0 m1
      replace hB := hB.trans (hc.mono hB.size)
      replace hbm := keep_blk hc hbm
      clear hc D
      have hA := below_alloc1 w2 (.cells #[.int .i64 k, .slice A1 (tkL ls).length c1] 24 (0, 0))
      replace hbm := keep_alloc (x := .cells #[.int .i64 k, .slice A1 (tkL ls).length c1] 24 (0, 0)) hbm
      replace hMa := (hMa.below hA).more hA.size
      replace hB := hB.trans (hA.mono hB.size)
      have hba := heap_alloc_new w2 (.cells #[.int .i64 k, .slice A1 (tkL ls).length c1] 24 (0, 0))
      clear hA
      obtain ⟨m0, m1, -⟩ := now2 hbm rfl
      obtain ⟨a0, a1, -⟩ := now2 hba rfl
      have D := R1 k _ ls _ (HL _ hB) (hcapH.out.below hB) hg hr
      unfold mtv at D
      go_wp2_with fail
      refine (D).mono ?_
      rintro e w3 ⟨v2, rfl, hMb, hc⟩
      obtain ⟨A2, c2, rfl, -, -⟩ := id hMb
      clear m0 m1 a0 a1
      replace hB := hB.trans (hc.mono hB.size)
      replace hbm := keep_blk hc hbm
      replace hba := keep_blk hc hba
      replace hMa := (hMa.below hc).more hc.size
      clear hc D
      have hA := below_alloc1 w3 (.cells #[.int .i64 k, .slice A2 (rwL ls).length c2] 24 (0, 0))
      replace hbm := keep_alloc (x := .cells #[.int .i64 k, .slice A2 (rwL ls).length c2] 24 (0, 0)) hbm
      replace hba := keep_alloc (x := .cells #[.int .i64 k, .slice A2 (rwL ls).length c2] 24 (0, 0)) hba
      replace hMa := (hMa.below hA).more hA.size
      replace hMb := (hMb.below hA).more hA.size
      replace hB := hB.trans (hA.mono hB.size)
      have hbb := heap_alloc_new w3 (.cells #[.int .i64 k, .slice A2 (rwL ls).length c2] 24 (0, 0))
      clear hA
      obtain ⟨m0, m1, -⟩ := now2 hbm rfl
      obtain ⟨a0, a1, -⟩ := now2 hba rfl
      obtain ⟨b0, b1, -⟩ := now2 hbb rfl
      have D := C1 k _ ls _ (HL _ hB) (hcapH.out.below hB) hg hr
      unfold mtv at D
      rw [show (Int.toNat (k : Int)) = k from rfl] at D
      go_wp2_with fail
      refine (D).mono ?_
      rintro e w4 ⟨v3, rfl, hMd, hc⟩
      obtain ⟨A3, c3, rfl, -, -⟩ := id hMd
      clear m0 m1 a0 a1 b0 b1
      replace hB := hB.trans (hc.mono hB.size)
      replace hbm := keep_blk hc hbm
      replace hba := keep_blk hc hba
      replace hbb := keep_blk hc hbb
      replace hMa := (hMa.below hc).more hc.size
      replace hMb := (hMb.below hc).more hc.size
      clear hc D
      have hA := below_alloc1 w4 (.cells #[.int .i64 k, .slice A3 (clL ls k).length c3] 24 (0, 0))
      replace hbm := keep_alloc (x := .cells #[.int .i64 k, .slice A3 (clL ls k).length c3] 24 (0, 0)) hbm
      replace hba := keep_alloc (x := .cells #[.int .i64 k, .slice A3 (clL ls k).length c3] 24 (0, 0)) hba
      replace hbb := keep_alloc (x := .cells #[.int .i64 k, .slice A3 (clL ls k).length c3] 24 (0, 0)) hbb
      replace hMa := (hMa.below hA).more hA.size
      replace hMb := (hMb.below hA).more hA.size
      replace hMd := (hMd.below hA).more hA.size
      replace hB := hB.trans (hA.mono hB.size)
      have hbd := heap_alloc_new w4 (.cells #[.int .i64 k, .slice A3 (clL ls k).length c3] 24 (0, 0))
      clear hA
      obtain ⟨m0, m1, -⟩ := now2 hbm rfl
      obtain ⟨a0, a1, -⟩ := now2 hba rfl
      obtain ⟨b0, b1, -⟩ := now2 hbb rfl
      obtain ⟨d0, d1, -⟩ := now2 hbd rfl
      have D := rright13_any _ _ k ls (HL _ hB)
      rw [hr] at D
      go_wp2_with fail
      refine (D).mono ?_
      rintro e w5 ⟨rfl, hc⟩
      clear m0 m1 a0 a1 b0 b1 d0 d1
      replace hB := hB.trans (hc.mono hB.size)
      replace hbm := keep_blk hc hbm
      replace hba := keep_blk hc hba
      replace hbb := keep_blk hc hbb
      replace hbd := keep_blk hc hbd
      replace hMa := (hMa.below hc).more hc.size
      replace hMb := (hMb.below hc).more hc.size
      replace hMd := (hMd.below hc).more hc.size
      clear hc D
      obtain ⟨m0, m1, -⟩ := now2 hbm rfl
      obtain ⟨a0, a1, -⟩ := now2 hba rfl
      obtain ⟨b0, b1, -⟩ := now2 hbb rfl
      obtain ⟨d0, d1, -⟩ := now2 hbd rfl
      have D := rtake14_any _ ls hS1 hcapH.out.ok _ (HL _ hB)
      go_wp2_with fail
      refine (D).mono ?_
      rintro e w6 ⟨v4, rfl, hMe, -, hc⟩
      obtain ⟨A4, c4, rfl, -, -⟩ := id hMe
      clear m0 m1 a0 a1 b0 b1 d0 d1
      replace hB := hB.trans (hc.mono hB.size)
      replace hbm := keep_blk hc hbm
      replace hba := keep_blk hc hba
      replace hbb := keep_blk hc hbb
      replace hbd := keep_blk hc hbd
      replace hMa := (hMa.below hc).more hc.size
      replace hMb := (hMb.below hc).more hc.size
      replace hMd := (hMd.below hc).more hc.size
      clear hc D
      obtain ⟨m0, m1, -⟩ := now2 hbm rfl
      obtain ⟨a0, a1, -⟩ := now2 hba rfl
      obtain ⟨b0, b1, -⟩ := now2 hbb rfl
      obtain ⟨d0, d1, -⟩ := now2 hbd rfl
      have D := rrows14_any _ ls hS1 hcapH.out.ok _ (HL _ hB)
      go_wp2_with fail
      refine (D).mono ?_
      rintro e w7 ⟨v5, rfl, hMg, -, hc⟩
      obtain ⟨A5, c5, rfl, -, -⟩ := id hMg
      clear m0 m1 a0 a1 b0 b1 d0 d1
      replace hB := hB.trans (hc.mono hB.size)
      replace hbm := keep_blk hc hbm
      replace hba := keep_blk hc hba
      replace hbb := keep_blk hc hbb
      replace hbd := keep_blk hc hbd
      replace hMa := (hMa.below hc).more hc.size
      replace hMb := (hMb.below hc).more hc.size
      replace hMd := (hMd.below hc).more hc.size
      replace hMe := (hMe.below hc).more hc.size
      clear hc D
      obtain ⟨m0, m1, -⟩ := now2 hbm rfl
      obtain ⟨a0, a1, -⟩ := now2 hba rfl
      obtain ⟨b0, b1, -⟩ := now2 hbb rfl
      obtain ⟨d0, d1, -⟩ := now2 hbd rfl
      have D := rcols14_any _ ls k hS1 hS2 hk4 hcapH.out.ok _ (HL _ hB)
      go_wp2_with fail
      refine (D).mono ?_
      rintro e w8 ⟨v6, rfl, hMh, -, hc⟩
      obtain ⟨A6, c6, rfl, -, -⟩ := id hMh
      clear m0 m1 a0 a1 b0 b1 d0 d1
      replace hB := hB.trans (hc.mono hB.size)
      replace hbm := keep_blk hc hbm
      replace hba := keep_blk hc hba
      replace hbb := keep_blk hc hbb
      replace hbd := keep_blk hc hbd
      replace hMa := (hMa.below hc).more hc.size
      replace hMb := (hMb.below hc).more hc.size
      replace hMd := (hMd.below hc).more hc.size
      replace hMe := (hMe.below hc).more hc.size
      replace hMg := (hMg.below hc).more hc.size
      clear hc D
      obtain ⟨m0, m1, -⟩ := now2 hbm rfl
      obtain ⟨a0, a1, -⟩ := now2 hba rfl
      obtain ⟨b0, b1, -⟩ := now2 hbb rfl
      obtain ⟨d0, d1, -⟩ := now2 hbd rfl
      have hkk : ((k : Int) != (k : Int)) = false := by simp
      generalize (tkC ls).isSome = x1 at *
      generalize (rwI ls).isSome = x2 at *
      generalize (clI ls k).isSome = x3 at *
      generalize tkV ls = y1 at *
      have f1 : (x1 == x1) = true := by simp
      have f2 : (x2 == x2) = true := by simp
      have f3 : (x3 == x3) = true := by simp
      have f4 : (y1 == y1) = true := by simp
      have D := rsameRows13_any _ _ _ _ _ hMa hMe
      rw [decide_eq_true rfl] at D
      go_wp2_with fail
      refine (D).mono ?_
      rintro e w9 ⟨rfl, hc⟩
      clear m0 m1 a0 a1 b0 b1 d0 d1
      replace hB := hB.trans (hc.mono hB.size)
      replace hbm := keep_blk hc hbm
      replace hba := keep_blk hc hba
      replace hbb := keep_blk hc hbb
      replace hbd := keep_blk hc hbd
      replace hMa := (hMa.below hc).more hc.size
      replace hMb := (hMb.below hc).more hc.size
      replace hMd := (hMd.below hc).more hc.size
      replace hMe := (hMe.below hc).more hc.size
      replace hMg := (hMg.below hc).more hc.size
      replace hMh := (hMh.below hc).more hc.size
      clear hc D
      obtain ⟨m0, m1, -⟩ := now2 hbm rfl
      obtain ⟨a0, a1, -⟩ := now2 hba rfl
      obtain ⟨b0, b1, -⟩ := now2 hbb rfl
      obtain ⟨d0, d1, -⟩ := now2 hbd rfl
      have D := rsameRows13_any _ _ _ _ _ hMb hMg
      rw [decide_eq_true rfl] at D
      go_wp2_with fail
      refine (D).mono ?_
      rintro e w10 ⟨rfl, hc⟩
      clear m0 m1 a0 a1 b0 b1 d0 d1
      replace hB := hB.trans (hc.mono hB.size)
      replace hbm := keep_blk hc hbm
      replace hba := keep_blk hc hba
      replace hbb := keep_blk hc hbb
      replace hbd := keep_blk hc hbd
      replace hMa := (hMa.below hc).more hc.size
      replace hMb := (hMb.below hc).more hc.size
      replace hMd := (hMd.below hc).more hc.size
      replace hMe := (hMe.below hc).more hc.size
      replace hMg := (hMg.below hc).more hc.size
      replace hMh := (hMh.below hc).more hc.size
      clear hc D
      obtain ⟨m0, m1, -⟩ := now2 hbm rfl
      obtain ⟨a0, a1, -⟩ := now2 hba rfl
      obtain ⟨b0, b1, -⟩ := now2 hbb rfl
      obtain ⟨d0, d1, -⟩ := now2 hbd rfl
      have D := rsameRows13_any _ _ _ _ _ hMd hMh
      rw [decide_eq_true rfl] at D
      go_wp2_with fail
      refine (D).mono ?_
      rintro e w11 ⟨rfl, hc⟩
      clear m0 m1 a0 a1 b0 b1 d0 d1
      replace hB := hB.trans (hc.mono hB.size)
      replace hbm := keep_blk hc hbm
      replace hba := keep_blk hc hba
      replace hbb := keep_blk hc hbb
      replace hbd := keep_blk hc hbd
      replace hMa := (hMa.below hc).more hc.size
      replace hMb := (hMb.below hc).more hc.size
      replace hMd := (hMd.below hc).more hc.size
      replace hMe := (hMe.below hc).more hc.size
      replace hMg := (hMg.below hc).more hc.size
      replace hMh := (hMh.below hc).more hc.size
      clear hc D
      obtain ⟨m0, m1, -⟩ := now2 hbm rfl
      obtain ⟨a0, a1, -⟩ := now2 hba rfl
      obtain ⟨b0, b1, -⟩ := now2 hbb rfl
      obtain ⟨d0, d1, -⟩ := now2 hbd rfl
      go_wp2_with fail
      refine (HK _).mono ?_
      rintro e w12 ⟨rfl, hc⟩
      clear m0 m1 a0 a1 b0 b1 d0 d1
      replace hB := hB.trans (hc.mono hB.size)
      replace hbm := keep_blk hc hbm
      replace hba := keep_blk hc hba
      replace hbb := keep_blk hc hbb
      replace hbd := keep_blk hc hbd
      replace hMa := (hMa.below hc).more hc.size
      replace hMb := (hMb.below hc).more hc.size
      replace hMd := (hMd.below hc).more hc.size
      replace hMe := (hMe.below hc).more hc.size
      replace hMg := (hMg.below hc).more hc.size
      replace hMh := (hMh.below hc).more hc.size
      clear hc
      go_wp2
      go_ret
      exact ⟨rfl, hB⟩
  · go_wp2_with fail
    refine (HK _).mono ?_
    rintro e w2 ⟨rfl, hc⟩
    clear m0 m1
    replace hB := hB.trans (hc.mono hB.size)
    replace hbm := keep_blk hc hbm
    clear hc
    go_wp2
    go_ret
    exact ⟨rfl, hB⟩
end Go.Proofs.Ytjjpobpcpgcbaaa
