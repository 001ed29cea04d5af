/- ReduceAll, over what the package answers. -/
import Derived.Test.YtjjpobpcpgcbaaaGJ15
import Derived.Test.YtjjpobpcpgcbaaaGJ19
import Derived.Test.YtjjpobpcpgcbaaaGJ04
namespace Go.Proofs.Ytjjpobpcpgcbaaa
open Go.RowKit Go.Joins

theorem great_rows {ls : List (List Int)} (h : greatM ls = false) : ∀ r, r ∈ ls → r.length ≤ 100 := by
  unfold greatM at h
  rw [Bool.or_eq_false_iff, List.any_eq_false] at h
  intro r hr
  have h1 := h.1 r hr
  simp only [decide_eq_true_iff] at h1
  omega
theorem right_small {k : Nat} {ls : List (List Int)} (hg : gr14 k ls = false) (hr : rightM k ls = true) : SmR k ls := by
  obtain ⟨h1, h2, -⟩ := gr14_no hg
  obtain ⟨-, -, h3⟩ := right_iff.1 hr
  exact ⟨by omega, fun r hr => Nat.le_trans (great_rows h1 r hr) (by decide), fun r hr x hx => (h3 r hr).1 x hx⟩
set_option maxHeartbeats 8000000 in
set_option maxRecDepth 100000 in
theorem reduceAll_any (HK : Knows14) (HR : ReduceGood) (HN : ReduceBad) (n : Int) (L : Value) (ls : List (List Int)) (w : World) (hL : MatAt w w.heap.size L ls) (hcap : CapM w L) :
    Calls Try.prog 4 #[mtv n L] w fun e w' => e = .returned (.bool true) ∧ Below w.heap.size w w' := by
  have hB0 := below_alloc1 w (mtb n L)
  have hbu : (w.alloc (mtb n L)).heap[w.heap.size]? = some (mtb n L) := heap_alloc_new _ _
  have HG := great14_any n L ls _ ((hL.below hB0).more hB0.size)
  have HI := fun W (hb : Below w.heap.size w W) => rright13_any W L n ls ((hL.below hb).more hb.size)
  have HRe := fun W (hb : Below w.heap.size w W) => HR n L ls W ((hL.below hb).more hb.size) (hcap.below hb)
  have HNe := fun W (hb : Below w.heap.size w W) => HN n L ls W ((hL.below hb).more hb.size) (hcap.below hb)
  have HD := fun (k : Nat) (hk : k ≤ 4000) (hS : SmR k ls) W (hb : Below w.heap.size w W) => rreduce14_any L ls k hk hS hcap.ok W ((hL.below hb).more hb.size)
  obtain ⟨A, c, rfl, hlen, -⟩ := hL
  unfold mtb at hB0 hbu HG
  unfold mtv at *
  obtain ⟨u0, u1, -⟩ := now2 hbu rfl
  go_enter Try.func4, Try.ntmps4
  go_wp2_with fail
  refine HG.mono ?_
  rintro e w1 ⟨rfl, hb⟩
  have hB1 := hB0.trans (hb.mono hB0.size)
  have hbu1 := keep_blk hb hbu
  clear u0 u1 hb HG hB0 hbu
  obtain ⟨u0, u1, -⟩ := now2 hbu1 rfl
  cases hg : gr14 n ls
  · cases hr : rightM n ls
    · have HN1 := HNe _ hB1 hg hr
      clear HRe HNe HD hg
      go_wp2_with fail
      refine HN1.mono ?_
      rintro e w2 ⟨A1, c1, A2, c2, rfl, hb⟩
      have hB2 := (hB1.trans (hb.mono hB1.size)).alloc (Nat.le_trans hB1.size hb.size) (.cells #[.int .i64 0, .slice A2 0 c2] 24 (0, 0))
      have hbu2 := keep_alloc (x := .cells #[.int .i64 0, .slice A2 0 c2] 24 (0, 0)) (keep_blk hb hbu1)
      have hbr2 := heap_alloc_new w2 (.cells #[.int .i64 0, .slice A2 0 c2] 24 (0, 0))
      have HI1 := HI _ hB2
      rw [hr] at HI1
      clear u0 u1 hb hB1 hbu1 HN1 HI hr
      obtain ⟨u0, u1, -⟩ := now2 hbu2 rfl
      obtain ⟨m0, m1, -⟩ := now2 hbr2 rfl
      go_wp2_with fail
      refine HI1.mono ?_
      rintro e w3 ⟨rfl, hb⟩
      have hB3 := hB2.trans (hb.mono hB2.size)
      have hbr3 := keep_blk hb hbr2
      clear u0 u1 m0 m1 hb hB2 hbu2 HI1 hbr2
      obtain ⟨m0, m1, -⟩ := now2 hbr3 rfl
      go_wp2_with fail
      refine (HK _).mono ?_
      rintro e w4 ⟨rfl, hb⟩
      have hB4 := hB3.trans (hb.mono hB3.size)
      clear hb m0 m1
      go_wp2
      go_ret
      exact ⟨rfl, hB4⟩
    · have HR1 := HRe _ hB1 hg hr
      obtain ⟨n0, n4, -⟩ := right_iff.1 hr
      obtain ⟨k, rfl⟩ := Int.eq_ofNat_of_zero_le n0
      have HD1 := HD k (by omega) (right_small hg hr)
      change ∀ W, Below w.heap.size w W → Calls Try.prog _ _ W fun e w' => ∃ u r, e = .returned (.tuple #[u, r]) ∧ IntsAt w' w'.heap.size u (takL (k : Int) ls) ∧ MatAt w' w'.heap.size r (redL (k : Int) ls).2 ∧ CapOk r ∧ Below W.heap.size W w' at HD1
      clear HRe HNe HD hg n0 n4
      generalize takL (k : Int) ls = T at *
      generalize (redL (k : Int) ls).2 = RL at *
      go_wp2_with fail
      refine HR1.mono ?_
      rintro e w2 ⟨u, r, rfl, hu, hM, -, hb⟩
      have hB2 := (hB1.trans (hb.mono hB1.size)).alloc (Nat.le_trans hB1.size hb.size) (.cells #[.int .i64 k, r] 24 (0, 0))
      have hA := below_alloc1 w2 (.cells #[.int .i64 k, r] 24 (0, 0))
      have hM2 := (hM.below hA).more hA.size
      have hu2 := (hu.below hA).more hA.size
      have hbu2 := keep_alloc (x := .cells #[.int .i64 k, r] 24 (0, 0)) (keep_blk hb hbu1)
      have hbr2 := heap_alloc_new w2 (.cells #[.int .i64 k, r] 24 (0, 0))
      have HI1 := HI _ hB2
      rw [hr] at HI1
      obtain ⟨Ar, cr, rfl, -, -⟩ := id hM
      obtain ⟨Au, cu, rfl, -, -⟩ := id hu
      clear u0 u1 hb hB1 hbu1 HR1 HI hr hM hu hA
      obtain ⟨u0, u1, -⟩ := now2 hbu2 rfl
      obtain ⟨m0, m1, -⟩ := now2 hbr2 rfl
      go_wp2_with fail
      refine HI1.mono ?_
      rintro e w3 ⟨rfl, hb⟩
      have hB3 := hB2.trans (hb.mono hB2.size)
      have hbr3 := keep_blk hb hbr2
      have hbu3 := keep_blk hb hbu2
      have hM3 := (hM2.below hb).more hb.size
      have hu3 := (hu2.below hb).more hb.size
      clear u0 u1 m0 m1 hb hB2 hbu2 HI1 hbr2 hM2 hu2
      obtain ⟨u0, u1, -⟩ := now2 hbu3 rfl
      have HD2 := HD1 _ hB3
      go_wp2_with fail
      refine HD2.mono ?_
      rintro e w4 ⟨u2, r2, rfl, hu2, hM2, -, hb⟩
      have hB4 := hB3.trans (hb.mono hB3.size)
      have hbr4 := keep_blk hb hbr3
      have hbu4 := keep_blk hb hbu3
      have hM4 := (hM3.below hb).more hb.size
      have hu4 := (hu3.below hb).more hb.size
      have HS := rsame13_any w4 _ _ _ _ hu4 hu2
      rw [decide_eq_true rfl] at HS
      obtain ⟨Av, cv, rfl, -, -⟩ := id hM2
      obtain ⟨Aw, cw, rfl, -, -⟩ := id hu2
      clear u0 u1 hb hB3 hbu3 HD1 HD2 hbr3 hM3 hu3
      obtain ⟨m0, m1, -⟩ := now2 hbr4 rfl
      obtain ⟨u0, u1, -⟩ := now2 hbu4 rfl
      go_wp2_with fail
      refine HS.mono ?_
      rintro e w5 ⟨rfl, hb⟩
      have hB5 := hB4.trans (hb.mono hB4.size)
      have hbr5 := keep_blk hb hbr4
      have hbu5 := keep_blk hb hbu4
      have HT := rsameRows13_any w5 _ _ _ _ ((hM4.below hb).more hb.size) ((hM2.below hb).more hb.size)
      rw [decide_eq_true rfl] at HT
      clear u0 u1 m0 m1 hb hB4 hbu4 HS hbr4 hM4 hM2 hu4 hu2
      obtain ⟨m0, m1, -⟩ := now2 hbr5 rfl
      obtain ⟨u0, u1, -⟩ := now2 hbu5 rfl
      go_wp2_with fail
      refine HT.mono ?_
      rintro e w6 ⟨rfl, hb⟩
      have hB6 := hB5.trans (hb.mono hB5.size)
      have hbr6 := keep_blk hb hbr5
      have hbu6 := keep_blk hb hbu5
      clear u0 u1 m0 m1 hb hB5 hbu5 HT hbr5
      obtain ⟨m0, m1, -⟩ := now2 hbr6 rfl
      obtain ⟨u0, u1, -⟩ := now2 hbu6 rfl
      have hkk : ((k : Int) == (k : Int)) = true := by simp
      go_wp2_with fail
      refine (HK _).mono ?_
      rintro e w7 ⟨rfl, hb⟩
      have hB7 := hB6.trans (hb.mono hB6.size)
      clear hb u0 u1 m0 m1
      go_wp2
      go_ret
      exact ⟨rfl, hB7⟩
  · clear HI HRe HNe HD hg
    go_wp2_with fail
    refine (HK _).mono ?_
    rintro e w2 ⟨rfl, hb⟩
    have hB2 := hB1.trans (hb.mono hB1.size)
    clear hb
    go_wp2
    go_ret
    exact ⟨rfl, hB2⟩
end Go.Proofs.Ytjjpobpcpgcbaaa
