/- CoverMakes, where a covering may be made; CoverMakes. -/
import Derived.Test.YtdfllifjbabfjaaGreatDoorGM27
import Derived.Test.YtdfllifjbabfjaaGreatDoorGM31
import Derived.Test.YtdfllifjbabfjaaGreatDoorGM25
namespace Go.Proofs.YtdfllifjbabfjaaGreatDoor
open Go.RowKit Go.Joins

theorem takeL13 {P : Program} {l : List Oper} {n : Nat} {S : World → Prop} {Q : Exit → Act → World → Prop} {i k : Nat} {o : Oper} {v : Value} {done : Array Bool} {a : Act} {w : World} (hF : tailOk l n = true) (ho : l[i]? = some o) (hi : decide (i < n) = true)
    (hf : Region.free .any l.toArray done i = true) (hr : (Region.ready .any l.toArray done).contains i = true)
    (hQ : ∀ c a w, Q (.panic c) (a.put o.dst v) w → Q (.panic c) a w) (hy : YieldsIf P l.toArray S o v a) (hS : S w)
    (h : HeadH P .any l.toArray Q S n (TailL P l Q n) k (done.setIfInBounds i true) (a.put o.dst v) w) : HeadH P .any l.toArray Q S n (TailL P l Q n) (k + 1) done a w :=
  HeadH.take hF (by simpa using ho) hi hf hr hQ hy hS h
theorem oneL13 {P : Program} {l : List Oper} {n : Nat} {S : World → Prop} {Q : Exit → Act → World → Prop} {i k : Nat} {o : Oper} {done : Array Bool} {a : Act} {w : World} (hr : Region.ready .any l.toArray done = [i]) (hi : decide (i < n) = true) (ho : l[i]? = some o)
    (h : ∀ K' : Act → World → Prop, Shut (∀ a w, S w → (S w → HeadH P .any l.toArray Q S n (TailL P l Q n) k (done.setIfInBounds i true) a w) → K' a w) → if Region.wanted o (yielded l.toArray a.tmps) = true then Oper.wp P o a w K' Q else K' (a.put o.dst undef) w) :
    HeadH P .any l.toArray Q S n (TailL P l Q n) (k + 1) done a w :=
  HeadH.one hr hi (by simpa using ho) h
def on8 (s : Sp) : Prop := s.on.length ≤ 8
theorem mayE_zero {s : Sp} {rs : List Rw} (h : mayE s rs = 0) : on8 s ∧ rs.length ≤ 4000 := by
  unfold mayE at h
  split at h
  · rename_i h1
    rw [Bool.and_eq_true] at h1
    have h2 := h1.1
    unfold spB at h2
    rw [Bool.and_eq_true] at h2
    have h3 := (headS_iff s).1 h2.1
    split at h
    · omega
    · exact ⟨by unfold on8; omega, by omega⟩
  · omega
set_option maxHeartbeats 4000000 in
set_option maxRecDepth 100000 in
theorem makes13_good (HG : MakeGood) (HR : RightV) (HK : Knows13) (i : Int) (A C L : Value) (on may : List (BitVec 256)) (rs : List Rw) (w : World) (hT : TabW w) (hA : SetsAt w w.heap.size A on) (hC : SetsAt w w.heap.size C may) (hL : RwsAt w w.heap.size L rs) (hn : mayE ⟨i, on, may⟩ rs = 0) :
    Calls Tryz.prog 3 #[spv i A C, L] w fun e w' => e = .returned (.bool true) ∧ Below w.heap.size w w' := by
  obtain ⟨h8, h4000⟩ := mayE_zero hn
  unfold on8 at h8
  simp only at h8
  have hB0 := below_alloc1 w (spb i A C)
  have hbx : (w.alloc (spb i A C)).heap[w.heap.size]? = some (spb i A C) := heap_alloc_new _ _
  have C1 := fun W (hb : Below w.heap.size w W) => HG i A C L on may rs W ((hA.below hb).more hb.size) ((hC.below hb).more hb.size) ((hL.below hb).more hb.size) hn (hT.below hb)
  have C2 := fun W (hb : Below w.heap.size w W) => rmay13_any i A C L on may rs W ((hA.below hb).more hb.size) ((hC.below hb).more hb.size) ((hL.below hb).more hb.size)
  have C3 := fun W (hb : Below w.heap.size w W) h60 => rrows13_any i A C L on may rs W ((hA.below hb).more hb.size) ((hC.below hb).more hb.size) ((hL.below hb).more hb.size) h8 h60
  have CR := fun v K W h => HR rs.length v K W h
  obtain ⟨A1, c1, rfl, -, -⟩ := hA
  obtain ⟨A2, c2, rfl, -, -⟩ := hC
  obtain ⟨A3, c3, rfl, -, -⟩ := hL
  have CG := greats13_any i A1 A2 A3 c1 c2 c3 on may rs
  have hg60 : great13 on may rs = false → rs.length ≤ 60 := fun h => by unfold great13 at h; simp at h; omega
  generalize great13 on may rs = g at CG hg60
  rw [hn] at C2
  have hEE : ((rs.length : Int) == (rs.length : Int)) = true := by simp
  unfold spb at hB0 hbx
  unfold spv mtv at *
  obtain ⟨u0, u1, u2, -⟩ := now3 hbx rfl
  go_enter Tryz.func3, Tryz.ntmps3
  go_wp2_with fail
  refine (CG _).mono ?_
  rintro e w1 ⟨rfl, hb⟩
  have hB1 := hB0.trans (hb.mono hB0.size)
  have hbx1 := keep_blk hb hbx
  clear u0 u1 u2 hb CG hB0 hbx hn
  obtain ⟨u0, u1, u2, -⟩ := now3 hbx1 rfl
  cases g
  · have h60 := hg60 rfl
    have D1 := C1 _ hB1
    clear hg60
    go_wp2_with fail
    refine D1.mono ?_
    rintro e w2 ⟨v, K, rfl, hM, hpw, hmem, hb⟩
    have hrt := made_right hmem h4000
    have hB2 := (hB1.trans (hb.mono hB1.size)).alloc (Nat.le_trans hB1.size hb.size) (.cells #[.int .i64 rs.length, v] 30 (0, 0))
    have hM2 := (hM.below (below_alloc1 w2 (.cells #[.int .i64 rs.length, v] 30 (0, 0)))).more (below_alloc1 w2 (.cells #[.int .i64 rs.length, v] 30 (0, 0))).size
    have hbx2 := keep_alloc (x := .cells #[.int .i64 rs.length, v] 30 (0, 0)) (keep_blk hb hbx1)
    have hbm2 := heap_alloc_new w2 (.cells #[.int .i64 rs.length, v] 30 (0, 0))
    have hpwH := Lib.hid hpw
    have hmemH := Lib.hid hmem
    have hlR := Lib.hid h4000
    obtain ⟨AK, cK, rfl, -, -⟩ := id hM
    clear u0 u1 u2 D1 C1 hb hbx1 hB1 hM hpw hmem h4000
    obtain ⟨u0, u1, u2, -⟩ := now3 hbx2 rfl
    obtain ⟨m0, m1, -⟩ := now2 hbm2 rfl
    have D2 := C2 _ hB2
    go_wp2_with fail
    refine D2.mono ?_
    rintro e w3 ⟨rfl, hb⟩
    have hB3 := hB2.trans (hb.mono hB2.size)
    have hbm3 := keep_blk hb hbm2
    have hbx3 := keep_blk hb hbx2
    have hM3 := (hM2.below hb).more hb.size
    clear u0 u1 u2 m0 m1 D2 C2 hb hbx2 hB2 hbm2 hM2
    go_upto_region 7 with (fail)
    obtain ⟨m0, m1, -⟩ := box2 hbm3 rfl
    obtain ⟨u0, u1, u2, -⟩ := box3 hbx3 rfl
    refine wp_region_held_tail 11 (fun W_ => Below w3.heap.size w3 W_) (by kernel_rfl) (by kernel_rfl) (Below.refl _ w3).drew (fun hF hHeld => ?_)
    refine takeL13 (i := 0) (v := ?_) hF rfl (by kernel_rfl) (by kernel_rfl) (by kernel_rfl) (fun _ _ _ h => h) (Or.inl ⟨by rfl, ?_⟩) (by assumption) ?_
    rotate_left 1
    · intro w_ hSw
      go_simp
      try with_reducible rfl
    try simp only [Act.put, List.setIfInBounds_toArray, List.set_cons_zero, List.set_cons_succ]
    refine takeL13 (i := 1) (v := ?_) hF rfl (by kernel_rfl) (by kernel_rfl) (by kernel_rfl) (fun _ _ _ h => h) (Or.inl ⟨by rfl, ?_⟩) (by assumption) ?_
    rotate_left 1
    · intro w_ hSw
      have q0 := m0 ⟨w_, hSw⟩
      have q1 := m1 ⟨w_, hSw⟩
      dsimp only at q0 q1
      go_simp
      try with_reducible rfl
    try simp only [Act.put, List.setIfInBounds_toArray, List.set_cons_zero, List.set_cons_succ]
    refine takeL13 (i := 2) (v := ?_) hF rfl (by kernel_rfl) (by kernel_rfl) (by kernel_rfl) (fun _ _ _ h => h) (Or.inl ⟨by rfl, ?_⟩) (by assumption) ?_
    rotate_left 1
    · intro w_ hSw
      go_simp
      try with_reducible rfl
    try simp only [Act.put, List.setIfInBounds_toArray, List.set_cons_zero, List.set_cons_succ]
    refine takeL13 (i := 3) (v := ?_) hF rfl (by kernel_rfl) (by kernel_rfl) (by kernel_rfl) (fun _ _ _ h => h) (Or.inl ⟨by rfl, ?_⟩) (by assumption) ?_
    rotate_left 1
    · intro w_ hSw
      go_simp
      try with_reducible rfl
    try simp only [Act.put, List.setIfInBounds_toArray, List.set_cons_zero, List.set_cons_succ]
    refine takeL13 (i := 4) (v := ?_) hF rfl (by kernel_rfl) (by kernel_rfl) (by kernel_rfl) (fun _ _ _ h => h) (Or.inl ⟨by rfl, ?_⟩) (by assumption) ?_
    rotate_left 1
    · intro w_ hSw
      go_simp
      try with_reducible rfl
    try simp only [Act.put, List.setIfInBounds_toArray, List.set_cons_zero, List.set_cons_succ]
    refine takeL13 (i := 5) (v := ?_) hF rfl (by kernel_rfl) (by kernel_rfl) (by kernel_rfl) (fun _ _ _ h => h) (Or.inl ⟨by rfl, ?_⟩) (by assumption) ?_
    rotate_left 1
    · intro w_ hSw
      go_simp
      try with_reducible rfl
    try simp only [Act.put, List.setIfInBounds_toArray, List.set_cons_zero, List.set_cons_succ]
    refine takeL13 (i := 6) (v := ?_) hF rfl (by kernel_rfl) (by kernel_rfl) (by kernel_rfl) (fun _ _ _ h => h) (Or.inl ⟨by rfl, ?_⟩) (by assumption) ?_
    rotate_left 1
    · intro w_ hSw
      go_simp
      try with_reducible rfl
    try simp only [Act.put, List.setIfInBounds_toArray, List.set_cons_zero, List.set_cons_succ]
    refine takeL13 (i := 7) (v := ?_) hF rfl (by kernel_rfl) (by kernel_rfl) (by kernel_rfl) (fun _ _ _ h => h) (Or.inl ⟨by rfl, ?_⟩) (by assumption) ?_
    rotate_left 1
    · intro w_ hSw
      have q0 := m0 ⟨w_, hSw⟩
      have q1 := m1 ⟨w_, hSw⟩
      dsimp only at q0 q1
      go_simp
      try with_reducible rfl
    try simp only [Act.put, List.setIfInBounds_toArray, List.set_cons_zero, List.set_cons_succ]
    refine takeL13 (i := 8) (v := ?_) hF rfl (by kernel_rfl) (by kernel_rfl) (by kernel_rfl) (fun _ _ _ h => h) (Or.inl ⟨by rfl, ?_⟩) (by assumption) ?_
    rotate_left 1
    · intro w_ hSw
      have q0 := u0 ⟨w_, hSw⟩
      have q1 := u1 ⟨w_, hSw⟩
      have q2 := u2 ⟨w_, hSw⟩
      dsimp only at q0 q1 q2
      go_simp
      try with_reducible rfl
    try simp only [Act.put, List.setIfInBounds_toArray, List.set_cons_zero, List.set_cons_succ]
    refine takeL13 (i := 9) (v := ?_) hF rfl (by kernel_rfl) (by kernel_rfl) (by kernel_rfl) (fun _ _ _ h => h) (Or.inl ⟨by rfl, ?_⟩) (by assumption) ?_
    rotate_left 1
    · intro w_ hSw
      go_simp
      try with_reducible rfl
    try simp only [Act.put, List.setIfInBounds_toArray, List.set_cons_zero, List.set_cons_succ]
    refine oneL13 (i := 10) (by kernel_rfl) (by kernel_rfl) rfl (fun _ hK => ?_)
    go_simp
    refine (C3 _ (hB3.trans (hHeld.mono hB3.size)) h60).mono ?_
    rintro e w4 ⟨v2, K2, rfl, hM4, hpw2, hmem2, hb4⟩
    have hHa := hHeld.trans (hb4.mono hHeld.size)
    try go_simp
    refine hK.out _ _ hHa (fun hHeld => ?_)
    clear hK
    try simp only [Act.put, List.setIfInBounds_toArray, List.set_cons_zero, List.set_cons_succ]
    refine ⟨by kernel_rfl, ?_⟩
    simp only [List.drop_succ_cons, List.drop_zero]
    have e2 : K2 = K := ahead_ext hpw2 hpwH.out fun x => (hmem2 x).trans (hmemH.out x).symm
    subst e2
    have hMa := (hM3.below hHa).more hHa.size
    have D4 := rsameRows13_any _ _ _ _ _ hMa hM4
    rw [decide_eq_true rfl] at D4
    have hB4 := hB3.trans (hHa.mono hB3.size)
    have hbm4 := keep_blk hHa hbm3
    clear u0 u1 u2 m0 m1 hHeld hpw2 hmem2 hM4 hb4 hbx3 hB3 hbm3
    obtain ⟨m0, m1, -⟩ := now2 hbm4 rfl
    go_wp2_with fail
    refine D4.mono ?_
    rintro e w5 ⟨rfl, hb⟩
    have hB5 := hB4.trans (hb.mono hB4.size)
    have hbm5 := keep_blk hb hbm4
    have D5 := CR _ _ w5 ((hMa.below hb).more hb.size)
    rw [hrt] at D5
    clear m0 m1 D4 hb hB4 hbm4 hMa
    obtain ⟨m0, m1, -⟩ := now2 hbm5 rfl
    go_wp2_with fail
    refine D5.mono ?_
    rintro e w6 ⟨rfl, hb⟩
    have hB6 := hB5.trans (hb.mono hB5.size)
    clear m0 m1 D5 hb hB5
    go_wp2_with fail
    refine (HK _ (hT.below (by assumption))).mono ?_
    rintro e w7 ⟨rfl, hb⟩
    have hB7 := hB6.trans (hb.mono hB6.size)
    go_wp2
    go_ret
    exact ⟨rfl, hB7⟩
  · go_wp2_with fail
    refine (HK _ (hT.below (by assumption))).mono ?_
    rintro e w2 ⟨rfl, hb⟩
    go_wp2
    go_ret
    exact ⟨rfl, hB1.trans (hb.mono hB1.size)⟩
theorem coverMakes_any (HB : MakeBad) (HG : MakeGood) (HR : RightV) (HK : Knows13) (i : Int) (A C L : Value) (on may : List (BitVec 256)) (rs : List Rw) (w : World) (hT : TabW w) (hA : SetsAt w w.heap.size A on) (hC : SetsAt w w.heap.size C may) (hL : RwsAt w w.heap.size L rs) :
    Calls Tryz.prog 3 #[spv i A C, L] w fun e w' => e = .returned (.bool true) ∧ Below w.heap.size w w' := by
  by_cases hn : mayE ⟨i, on, may⟩ rs = 0
  · exact makes13_good HG HR HK i A C L on may rs w hT hA hC hL hn
  · exact makes13_bad HB HK i A C L on may rs w hT hA hC hL hn
end Go.Proofs.YtdfllifjbabfjaaGreatDoor
