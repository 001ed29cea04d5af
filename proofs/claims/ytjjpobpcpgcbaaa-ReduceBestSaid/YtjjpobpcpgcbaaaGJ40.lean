/- ReduceBest, over what the package answers. -/
import Derived.Test.YtjjpobpcpgcbaaaGJ15
import Derived.Test.YtjjpobpcpgcbaaaGJ39
import Derived.Test.YtjjpobpcpgcbaaaGJ37
namespace Go.Proofs.Ytjjpobpcpgcbaaa
open Go.RowKit Go.Joins

set_option maxHeartbeats 8000000 in
set_option maxRecDepth 100000 in
theorem reduceBest_any (HK : Knows14) (HR : ReduceGood) (n : Int) (L : Value) (ls : List (List Int)) (w : World) (hL : MatAt w w.heap.size L ls) (hcap : CapM w L) :
    Calls Try.prog 5 #[mtv n L] w fun e w' => e = .returned (.bool true) ∧ Below w.heap.size w w' := by
  have hB0 := below_alloc1 w (mtb n L)
  have hbu : (w.alloc (mtb n L)).heap[w.heap.size]? = some (mtb n L) := heap_alloc_new _ _
  have HG := great14_any n L ls _ ((hL.below hB0).more hB0.size)
  have HI := fun W (hb : Below w.heap.size w W) => rright13_any W L n ls ((hL.below hb).more hb.size)
  have HRe := fun W (hb : Below w.heap.size w W) => HR n L ls W ((hL.below hb).more hb.size) (hcap.below hb)
  have HBe := fun (k : Nat) (hk : k ≤ 12) W (hb : Below w.heap.size w W) => rbest14_any L ls k hk W ((hL.below hb).more hb.size)
  obtain ⟨A, c, rfl, hlen, -⟩ := hL
  unfold mtb at hB0 hbu HG
  unfold mtv at *
  obtain ⟨u0, u1, -⟩ := now2 hbu rfl
  go_enter Try.func5, Try.ntmps5
  go_wp2_with fail
  refine HG.mono ?_
  rintro e w1 ⟨rfl, hb⟩
  have hB1 := hB0.trans (hb.mono hB0.size)
  have hbu1 := keep_blk hb hbu
  clear u0 u1 hb HG hB0 hbu
  obtain ⟨u0, u1, -⟩ := now2 hbu1 rfl
  cases hg : gr14 n ls
  · by_cases h9 : 9 < n
    · have hd9 : decide (9 < n) = true := decide_eq_true h9
      clear HI HRe HBe hg
      go_wp2_with fail
      refine (HK _).mono ?_
      rintro e w2 ⟨rfl, hb⟩
      have hB2 := hB1.trans (hb.mono hB1.size)
      clear hb
      go_wp2
      go_ret
      exact ⟨rfl, hB2⟩
    · have hd9 : decide (9 < n) = false := decide_eq_false h9
      have HI1 := HI _ hB1
      go_wp2_with fail
      refine HI1.mono ?_
      rintro e w2 ⟨rfl, hb⟩
      have hB2 := hB1.trans (hb.mono hB1.size)
      have hbu2 := keep_blk hb hbu1
      clear u0 u1 hb HI1 HI hbu1 hB1
      obtain ⟨u0, u1, -⟩ := now2 hbu2 rfl
      cases hr : rightM n ls
      · clear HRe HBe hg
        go_wp2_with fail
        refine (HK _).mono ?_
        rintro e w3 ⟨rfl, hb⟩
        have hB3 := hB2.trans (hb.mono hB2.size)
        clear hb
        go_wp2
        go_ret
        exact ⟨rfl, hB3⟩
      · have HR1 := HRe _ hB2 hg hr
        have hrr := red_right hr
        have hbst := red_best14 hr
        obtain ⟨n0, -, -⟩ := right_iff.1 hr
        clear hg hr HRe
        obtain ⟨k, rfl⟩ := Int.eq_ofNat_of_zero_le n0
        have hk9 : k ≤ 12 := by omega
        have HB1 := HBe k hk9
        clear HBe n0
        rw [show (Int.toNat (k : Int)) = k from rfl] at hbst
        have hb12 : bestM k ls ≤ 12 := by
          rcases best_spec k ls (2 ^ k) with ⟨e, -⟩ | ⟨ch, -, -, e, -⟩
          · change bestM k ls = -1 at e; omega
          · change bestM k ls = _ at e
            have := chK_len ch k
            rw [chK_all] at this
            omega
        generalize takL (k : Int) ls = T at *
        generalize (redL (k : Int) ls).2 = RL at *
        generalize bestM k ls = b1 at *
        have hx := Lib.hid hbst
        clear hbst
        go_wp2_with fail
        refine HR1.mono ?_
        rintro e w3 ⟨u, r, rfl, hu, hM, -, hb⟩
        have hB3 := (hB2.trans (hb.mono hB2.size)).alloc (Nat.le_trans hB2.size hb.size) (.cells #[.int .i64 k, r] 24 (0, 0))
        have hM3 := (hM.below (below_alloc1 w3 (.cells #[.int .i64 k, r] 24 (0, 0)))).more (below_alloc1 w3 (.cells #[.int .i64 k, r] 24 (0, 0))).size
        have hbu3 := keep_alloc (x := .cells #[.int .i64 k, r] 24 (0, 0)) (keep_blk hb hbu2)
        have hbr3 := heap_alloc_new w3 (.cells #[.int .i64 k, r] 24 (0, 0))
        have HI3 := rright13_any _ r k RL hM3
        rw [hrr] at HI3
        obtain ⟨Ar, cr, rfl, -, -⟩ := id hM
        obtain ⟨Au, cu, rfl, -, -⟩ := hu
        clear u0 u1 HR1 hb hB2 hbu2 hM
        obtain ⟨u0, u1, -⟩ := now2 hbu3 rfl
        obtain ⟨m0, m1, -⟩ := now2 hbr3 rfl
        have hkk : ((k : Int) != (k : Int)) = false := by simp
        go_wp2_with fail
        refine HI3.mono ?_
        rintro e w4 ⟨rfl, hb⟩
        have hB4 := hB3.trans (hb.mono hB3.size)
        have hbu4 := keep_blk hb hbu3
        have hbr4 := keep_blk hb hbr3
        have hM4 := (hM3.below hb).more hb.size
        clear u0 u1 m0 m1 HI3 hb hB3 hbu3 hbr3 hM3
        go_upto_region 6 with (fail)
        obtain ⟨m0, m1, -⟩ := box2 hbr4 rfl
        obtain ⟨u0, u1, -⟩ := box2 hbu4 rfl
        refine wp_region_held_tail 10 (fun W_ => Below w4.heap.size w4 W_) (by kernel_rfl) (by kernel_rfl) (Below.refl _ w4).drew (fun hF hHeld => ?_)
        refine takeL13 (i := 0) (v := ?_) hF rfl (by kernel_rfl) (by kernel_rfl) (by kernel_rfl) (fun _ _ _ h => h) (Or.inl ⟨by rfl, ?_⟩) (by assumption) ?_
        rotate_left 1
        · intro w_ hSw
          go_simp
          try with_reducible rfl
        try simp only [Act.put, List.setIfInBounds_toArray, List.set_cons_zero, List.set_cons_succ]
        refine takeL13 (i := 1) (v := ?_) hF rfl (by kernel_rfl) (by kernel_rfl) (by kernel_rfl) (fun _ _ _ h => h) (Or.inl ⟨by rfl, ?_⟩) (by assumption) ?_
        rotate_left 1
        · intro w_ hSw
          have q0 := u0 ⟨w_, hSw⟩
          have q1 := u1 ⟨w_, hSw⟩
          dsimp only at q0 q1
          go_simp
          try with_reducible rfl
        try simp only [Act.put, List.setIfInBounds_toArray, List.set_cons_zero, List.set_cons_succ]
        refine takeL13 (i := 2) (v := ?_) hF rfl (by kernel_rfl) (by kernel_rfl) (by kernel_rfl) (fun _ _ _ h => h) (Or.inl ⟨by rfl, ?_⟩) (by assumption) ?_
        rotate_left 1
        · intro w_ hSw
          go_simp
          try with_reducible rfl
        try simp only [Act.put, List.setIfInBounds_toArray, List.set_cons_zero, List.set_cons_succ]
        refine takeL13 (i := 3) (v := ?_) hF rfl (by kernel_rfl) (by kernel_rfl) (by kernel_rfl) (fun _ _ _ h => h) (Or.inl ⟨by rfl, ?_⟩) (by assumption) ?_
        rotate_left 1
        · intro w_ hSw
          have q0 := u0 ⟨w_, hSw⟩
          have q1 := u1 ⟨w_, hSw⟩
          dsimp only at q0 q1
          go_simp
          try with_reducible rfl
        try simp only [Act.put, List.setIfInBounds_toArray, List.set_cons_zero, List.set_cons_succ]
        refine takeL13 (i := 5) (v := ?_) hF rfl (by kernel_rfl) (by kernel_rfl) (by kernel_rfl) (fun _ _ _ h => h) (Or.inl ⟨by rfl, ?_⟩) (by assumption) ?_
        rotate_left 1
        · intro w_ hSw
          go_simp
          try with_reducible rfl
        try simp only [Act.put, List.setIfInBounds_toArray, List.set_cons_zero, List.set_cons_succ]
        refine takeL13 (i := 6) (v := ?_) hF rfl (by kernel_rfl) (by kernel_rfl) (by kernel_rfl) (fun _ _ _ h => h) (Or.inl ⟨by rfl, ?_⟩) (by assumption) ?_
        rotate_left 1
        · intro w_ hSw
          have q0 := m0 ⟨w_, hSw⟩
          have q1 := m1 ⟨w_, hSw⟩
          dsimp only at q0 q1
          go_simp
          try with_reducible rfl
        try simp only [Act.put, List.setIfInBounds_toArray, List.set_cons_zero, List.set_cons_succ]
        refine takeL13 (i := 7) (v := ?_) hF rfl (by kernel_rfl) (by kernel_rfl) (by kernel_rfl) (fun _ _ _ h => h) (Or.inl ⟨by rfl, ?_⟩) (by assumption) ?_
        rotate_left 1
        · intro w_ hSw
          go_simp
          try with_reducible rfl
        try simp only [Act.put, List.setIfInBounds_toArray, List.set_cons_zero, List.set_cons_succ]
        refine takeL13 (i := 8) (v := ?_) hF rfl (by kernel_rfl) (by kernel_rfl) (by kernel_rfl) (fun _ _ _ h => h) (Or.inl ⟨by rfl, ?_⟩) (by assumption) ?_
        rotate_left 1
        · intro w_ hSw
          have q0 := m0 ⟨w_, hSw⟩
          have q1 := m1 ⟨w_, hSw⟩
          dsimp only at q0 q1
          go_simp
          try with_reducible rfl
        try simp only [Act.put, List.setIfInBounds_toArray, List.set_cons_zero, List.set_cons_succ]
        refine oneL13 (i := 4) (by kernel_rfl) (by kernel_rfl) rfl (fun _ hK => ?_)
        go_simp
        refine (HB1 _ (hB4.trans (hHeld.mono hB4.size))).mono ?_
        rintro e w5 ⟨rfl, hb5⟩
        have hHa := hHeld.trans (hb5.mono hHeld.size)
        try go_simp
        refine hK.out _ _ hHa (fun hHeld => ?_)
        clear hK
        try simp only [Act.put, List.setIfInBounds_toArray, List.set_cons_zero, List.set_cons_succ]
        have HB2 := rbest14_any _ RL k hk9 w5 ((hM4.below hHa).more hHa.size)
        clear hHeld
        refine oneL13 (i := 9) (by kernel_rfl) (by kernel_rfl) rfl (fun _ hK => ?_)
        go_simp
        refine HB2.mono ?_
        rintro e w6 ⟨rfl, hb6⟩
        have hHb := hHa.trans (hb6.mono hHa.size)
        try go_simp
        refine hK.out _ _ hHb (fun hHeld => ?_)
        clear hK
        try simp only [Act.put, List.setIfInBounds_toArray, List.set_cons_zero, List.set_cons_succ]
        refine ⟨by kernel_rfl, ?_⟩
        simp only [List.drop_succ_cons, List.drop_zero]
        have hB6 := hB4.trans (hHb.mono hB4.size)
        generalize bestM k RL = b2 at *
        clear u0 u1 m0 m1 HB1 HB2 hB4 hHa hHb hbu4 hbr4 hM4 hb5 hb6
        rcases hx.out with ⟨e1, e2⟩ | ⟨e1, e2, e3⟩
        · subst e1 e2
          clear hx
          go_wp2_with fail
          refine (HK _).mono ?_
          rintro e w7 ⟨rfl, hb⟩
          have hB7 := hB6.trans (hb.mono hB6.size)
          clear hb
          go_wp2
          go_ret
          exact ⟨rfl, hB7⟩
        · have f1 : decide (b1 < 0) = false := decide_eq_false (by omega)
          have f2 : decide (b2 < 0) = false := decide_eq_false (by omega)
          have f4 : wrap64 ((T.length : Int) + b2) = (T.length : Int) + b2 := by unfold wrap64; omega
          have f3 : wrap64 ((T.length : Int) + b2) = b1 := by rw [f4]; exact e3.symm
          clear hx e1 e2 e3 f4
          go_wp2_with fail
          refine (HK _).mono ?_
          rintro e w7 ⟨rfl, hb⟩
          have hB7 := hB6.trans (hb.mono hB6.size)
          clear hb
          go_wp2
          go_ret
          exact ⟨rfl, hB7⟩
  · clear HI HRe HBe hg
    go_wp2_with fail
    refine (HK _).mono ?_
    rintro e w2 ⟨rfl, hb⟩
    have hB2 := hB1.trans (hb.mono hB1.size)
    clear hb
    go_wp2
    go_ret
    exact ⟨rfl, hB2⟩
end Go.Proofs.Ytjjpobpcpgcbaaa
