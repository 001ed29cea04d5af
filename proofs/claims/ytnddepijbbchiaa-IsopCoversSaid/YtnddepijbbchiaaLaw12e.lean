/- The statements of layer 12, walked over what the package answers: IsopCovers, IsopSides. -/
import Derived.Test.YtnddepijbbchiaaLaw12d
import Derived.Test.YtnddepijbbchiaaHeld04
namespace Go.Proofs.Ytnddepijbbchiaa
open Go.RowKit Go.Joins

theorem takeL12 {P : Program} {l : List Oper} {n : Nat} {S : World → Prop} {Q : Exit → Act → World → Prop} {i k : Nat} {o : Oper} {v : Value} {done : Array Bool} {a : Act} {w : World} (hF : tailOk l n = true) (ho : l[i]? = some o) (hi : decide (i < n) = true)
    (hf : Region.free .any l.toArray done i = true) (hr : (Region.ready .any l.toArray done).contains i = true)
    (hQ : ∀ c a w, Q (.panic c) (a.put o.dst v) w → Q (.panic c) a w) (hy : YieldsIf P l.toArray S o v a) (hS : S w)
    (h : HeadH P .any l.toArray Q S n (TailL P l Q n) k (done.setIfInBounds i true) (a.put o.dst v) w) : HeadH P .any l.toArray Q S n (TailL P l Q n) (k + 1) done a w :=
  HeadH.take hF (by simpa using ho) hi hf hr hQ hy hS h
theorem oneL12 {P : Program} {l : List Oper} {n : Nat} {S : World → Prop} {Q : Exit → Act → World → Prop} {i k : Nat} {o : Oper} {done : Array Bool} {a : Act} {w : World} (hr : Region.ready .any l.toArray done = [i]) (hi : decide (i < n) = true) (ho : l[i]? = some o)
    (h : ∀ K' : Act → World → Prop, Shut (∀ a w, S w → (S w → HeadH P .any l.toArray Q S n (TailL P l Q n) k (done.setIfInBounds i true) a w) → K' a w) → if Region.wanted o (yielded l.toArray a.tmps) = true then Oper.wp P o a w K' Q else K' (a.put o.dst undef) w) :
    HeadH P .any l.toArray Q S n (TailL P l Q n) (k + 1) done a w :=
  HeadH.one hr hi (by simpa using ho) h
theorem flagsF (S : BitVec 256) (w : World) : Calls Try.prog 12 #[sv S] w fun e w' => ∃ b c : Nat, e = .returned (.slice (some ⟨b, 0, none⟩) 256 c) ∧ w.heap.size ≤ b ∧ FlAt w' b (fun p => S.getLsbD p) ∧ Below w.heap.size w w' :=
  (flags_any2 S w).mono fun _ _ ⟨b, c, h1, h2, h3, h4, h5⟩ => ⟨b, c, h1, h2, ⟨h3, h4⟩, h5⟩
set_option maxHeartbeats 4000000 in
set_option maxRecDepth 100000 in
theorem covers12_yes (HC : CoverI) (HK : Knows12) (S M : BitVec 256) (n : Nat) (hm : mayB S M n = true) (h6 : n ≤ 6) (w : World) : Calls Try.prog 4 #[sv S, sv M, .int .i64 n] w fun e w' => e = .returned (.bool true) ∧ Below w.heap.size w w' := by
  have HM := fun w => may12_any S M n w
  rw [hm] at HM
  have C1 := fun w => cover_yes HC hm w
  rw [Int.toNat_natCast] at C1
  have HFS := fun w => flagsF S w
  have HFM := fun w => flagsF M w
  have HR := fun (bo co bm cm : Nat) w h1 h2 => cover12_any n (by omega) (n + 1) (by omega) _ _ 0 (by omega) (may_iso hm) bo co bm cm w h1 h2
  rw [show isoF n (n + 1) (fun p => S.getLsbD p) (fun p => M.getLsbD p) 0 = isoS S M n from rfl] at HR
  have HSm := fun w v u h1 h2 => rsame9_any w v u (isoS S M n) (isoS S M n) h1 h2
  have hd6 : decide ((6 : Int) < (n : Int)) = false := decide_eq_false (by omega)
  have hB := below_alloc2 w (.cells (sa S) 24) (.cells (sa M) 24)
  have hb0 := heap_alloc2_old w (.cells (sa S) 24) (.cells (sa M) 24)
  have hb1 := heap_alloc2_new w (.cells (sa S) 24) (.cells (sa M) 24)
  generalize isoS S M n = L at *
  obtain ⟨s0, s1, s2, s3, -⟩ := now4 hb0 rfl
  obtain ⟨t0, t1, t2, t3, -⟩ := now4 hb1 rfl
  unfold sv sa at *
  unfold wv at *
  go_enter Try.func4, Try.ntmps4
  go_wp2_with fail
  refine (HM _).mono ?_
  rintro e w1 ⟨rfl, hb⟩
  have hB1 := hB.trans (hb.mono hB.size)
  replace hb0 := keep_blk hb hb0
  replace hb1 := keep_blk hb hb1
  clear s0 s1 s2 s3 t0 t1 t2 t3 hB hb HM
  obtain ⟨s0, s1, s2, s3, -⟩ := now4 hb0 rfl
  obtain ⟨t0, t1, t2, t3, -⟩ := now4 hb1 rfl
  go_wp2_with fail
  refine (C1 _).mono ?_
  rintro e w2 ⟨v, rfl, hL, hb⟩
  have hB2 := hB1.trans (hb.mono hB1.size)
  replace hb0 := keep_blk hb hb0
  replace hb1 := keep_blk hb hb1
  clear s0 s1 s2 s3 t0 t1 t2 t3 hB1 hb C1 h6 hm
  go_upto_region 7 with (fail)
  obtain ⟨s0, s1, s2, s3, -⟩ := box4 hb0 rfl
  obtain ⟨t0, t1, t2, t3, -⟩ := box4 hb1 rfl
  refine wp_region_held_tail 7 (fun W_ => Below w2.heap.size w2 W_) (by kernel_rfl) (by kernel_rfl) (Below.refl _ w2).drew (fun hF hHeld => ?_)
  refine takeL12 (i := 0) (v := ?_) hF rfl (by kernel_rfl) (by kernel_rfl) (by kernel_rfl) (fun _ _ _ h => h) (Or.inl ⟨by rfl, ?_⟩) (by assumption) ?_
  rotate_left 1
  · intro w_ hSw
    go_simp
    try with_reducible rfl
  try simp only [Act.put, List.setIfInBounds_toArray, List.set_cons_zero, List.set_cons_succ]
  refine takeL12 (i := 1) (v := ?_) hF rfl (by kernel_rfl) (by kernel_rfl) (by kernel_rfl) (fun _ _ _ h => h) (Or.inl ⟨by rfl, ?_⟩) (by assumption) ?_
  rotate_left 1
  · intro w_ hSw
    have q0 := s0 ⟨w_, hSw⟩
    have q1 := s1 ⟨w_, hSw⟩
    have q2 := s2 ⟨w_, hSw⟩
    have q3 := s3 ⟨w_, hSw⟩
    dsimp only at q0 q1 q2 q3
    go_simp
    try with_reducible rfl
  try simp only [Act.put, List.setIfInBounds_toArray, List.set_cons_zero, List.set_cons_succ]
  refine takeL12 (i := 3) (v := ?_) hF rfl (by kernel_rfl) (by kernel_rfl) (by kernel_rfl) (fun _ _ _ h => h) (Or.inl ⟨by rfl, ?_⟩) (by assumption) ?_
  rotate_left 1
  · intro w_ hSw
    have q0 := t0 ⟨w_, hSw⟩
    have q1 := t1 ⟨w_, hSw⟩
    have q2 := t2 ⟨w_, hSw⟩
    have q3 := t3 ⟨w_, hSw⟩
    dsimp only at q0 q1 q2 q3
    go_simp
    try with_reducible rfl
  try simp only [Act.put, List.setIfInBounds_toArray, List.set_cons_zero, List.set_cons_succ]
  refine takeL12 (i := 5) (v := ?_) hF rfl (by kernel_rfl) (by kernel_rfl) (by kernel_rfl) (fun _ _ _ h => h) (Or.inl ⟨by rfl, ?_⟩) (by assumption) ?_
  rotate_left 1
  · intro w_ hSw
    go_simp
    try with_reducible rfl
  try simp only [Act.put, List.setIfInBounds_toArray, List.set_cons_zero, List.set_cons_succ]
  refine oneL12 (i := 2) (by kernel_rfl) (by kernel_rfl) rfl (fun _ hK => ?_)
  go_simp
  refine (HFS _).mono ?_
  rintro e wa ⟨bo, co, rfl, hbo, hfo, hba⟩
  have hHa := hHeld.trans (hba.mono hHeld.size)
  try go_simp
  refine hK.out _ _ hHa (fun hHeld => ?_)
  clear hK
  try simp only [Act.put, List.setIfInBounds_toArray, List.set_cons_zero, List.set_cons_succ]
  refine oneL12 (i := 4) (by kernel_rfl) (by kernel_rfl) rfl (fun _ hK => ?_)
  go_simp
  refine (HFM _).mono ?_
  rintro e wb ⟨bm, cm, rfl, hbm, hfm, hbb⟩
  have hHb := hHa.trans (hbb.mono hHa.size)
  have hfo2 := hfo.below hbb hfo.1
  try go_simp
  refine hK.out _ _ hHb (fun hHeld => ?_)
  clear hK
  try simp only [Act.put, List.setIfInBounds_toArray, List.set_cons_zero, List.set_cons_succ]
  refine oneL12 (i := 6) (by kernel_rfl) (by kernel_rfl) rfl (fun _ hK => ?_)
  go_simp
  refine (HR bo co bm cm _ hfo2 hfm).mono ?_
  rintro e wc ⟨u, rfl, hu, hbc⟩
  have hHc := hHb.trans (hbc.mono hHb.size)
  try go_simp
  refine hK.out _ _ hHc (fun hHeld => ?_)
  clear hK
  try simp only [Act.put, List.setIfInBounds_toArray, List.set_cons_zero, List.set_cons_succ]
  refine ⟨by kernel_rfl, ?_⟩
  simp only [List.drop_succ_cons, List.drop_zero]
  have hL2 := (hL.below hHc).more hHc.size
  have hBc := hB2.trans (hHc.mono hB2.size)
  have HS1 := HSm wc v u hL2 hu
  clear hHeld s0 s1 s2 s3 t0 t1 t2 t3 HFS HFM HR HSm hba hbb hbc hHa hHb hHc hfo hfm hfo2 hbo hbm hL hL2 hu hb0 hb1 hB2
  go_wp2_with fail
  refine HS1.mono ?_
  rintro e wd ⟨q, rfl, hq, hbd⟩
  obtain rfl : q = true := hq.2 (by trivial)
  have hBd := hBc.trans (hbd.mono hBc.size)
  clear HS1 hq hbd hBc
  go_wp2_with fail
  refine (HK _).mono ?_
  rintro e we ⟨rfl, hbe⟩
  have hBe := hBd.trans (hbe.mono hBd.size)
  clear HK hbe hBd
  go_wp2
  go_ret
  exact ⟨rfl, hBe⟩
theorem isopCovers_any (HC : CoverI) (HK : Knows12) (S M : BitVec 256) (n : Int) (w : World) : Calls Try.prog 4 #[sv S, sv M, .int .i64 n] w fun e w' => e = .returned (.bool true) ∧ Below w.heap.size w w' := by
  cases hm : mayB S M n
  · exact covers12_no HC HK S M n hm w
  · by_cases h6 : 6 < n
    · exact covers12_great HK S M n hm h6 w
    · have := may_n8 hm
      obtain ⟨k, rfl⟩ : ∃ k : Nat, n = k := ⟨n.toNat, by omega⟩
      exact covers12_yes HC HK S M k hm (by omega) w
theorem sid_yes {S : BitVec 256} {i : Nat} (h : i ≤ 7) (one : Bool) : sidB S i one = bvOf fun p => sideF (fun q => S.getLsbD q) i one p := by
  unfold sidB
  rw [if_pos ⟨by omega, by omega⟩, Int.toNat_natCast]
set_option maxHeartbeats 4000000 in
set_option maxRecDepth 100000 in
theorem sides12_no (HS : SideI) (HK : Knows12) (S : BitVec 256) (i : Int) (one : Bool) (h : i < 0 ∨ (0 ≤ i ∧ 7 < i)) (w : World) : Calls Try.prog 3 #[sv S, .int .i64 i, .bool one] w fun e w' => e = .returned (.bool true) ∧ Below w.heap.size w w' := by
  have H1 := fun w => HS S i one w
  rw [show sidB S i one = 0 by unfold sidB; rw [if_neg (by omega)], show sv 0 = .agg #[.int .u64 0, .int .u64 0, .int .u64 0, .int .u64 0] from by kernel_rfl] at H1
  have hE := fun w => eq4_refl 0 0 0 0 w
  have hB := below_alloc1 w (.cells (sa S) 24)
  have hb0 := heap_alloc_new w (.cells (sa S) 24)
  unfold sv sa at *
  unfold wv at *
  rcases h with h | ⟨h, h7⟩
  all_goals
    go_enter Try.func3, Try.ntmps3
    go_upto_region 1 with (fail)
    generalize w.alloc _ = W at *
    obtain ⟨s0, s1, s2, s3, -⟩ := now4 hb0 rfl
    go_wp2_with fail
    refine (H1 _).mono ?_
    rintro e w1 ⟨rfl, hb1⟩
    have hB1 := hB.trans (hb1.mono hB.size)
    clear s0 s1 s2 s3 hb0 hB hb1 H1
    have hx := heap_alloc_new w1 (.cells #[.int .u64 0, .int .u64 0, .int .u64 0, .int .u64 0] 24)
    have hB2 := hB1.trans ((below_alloc1 w1 (.cells #[.int .u64 0, .int .u64 0, .int .u64 0, .int .u64 0] 24)).mono hB1.size)
    go_upto_region 2 with (fail)
    generalize w1.alloc _ = w2 at *
    obtain ⟨x0, x1, x2, x3, -⟩ := now4 hx rfl
    go_wp2_with fail
    refine (HK _).mono ?_
    rintro e w3 ⟨rfl, hb3⟩
    have hB3 := hB2.trans (hb3.mono hB2.size)
    clear HK x0 x1 x2 x3 hx hb3
    go_wp2
    go_ret
    exact ⟨rfl, hB3⟩
set_option maxHeartbeats 4000000 in
set_option maxRecDepth 100000 in
theorem sides12_yes (HS : SideI) (HK : Knows12) (S : BitVec 256) (i : Nat) (one : Bool) (h : i ≤ 7) (w : World) : Calls Try.prog 3 #[sv S, .int .i64 i, .bool one] w fun e w' => e = .returned (.bool true) ∧ Below w.heap.size w w' := by
  have H1 := fun w => HS S i one w
  rw [sid_yes h] at H1
  have HF := fun w => flagsF S w
  have HD := fun ba ca w h1 => side12_any (fun q => S.getLsbD q) ba ca i (by omega) one w h1
  have HT := fun b w (h : FlAt w b (fun p => sideF (fun q => S.getLsbD q) i one p)) => refset_any (fun p => sideF (fun q => S.getLsbD q) i one p) b 256 w h.1 h.2
  generalize (fun p => sideF (fun q => S.getLsbD q) i one p) = G at *
  generalize bvOf G = R at *
  have hE := fun w => eq4_refl (wd R 0).toNat (wd R 1).toNat (wd R 2).toNat (wd R 3).toNat w
  have g0 : ¬ (i : Int) < 0 := by omega
  have g7 : ¬ 7 < (i : Int) := by omega
  have hB := below_alloc1 w (.cells (sa S) 24)
  have hb0 := heap_alloc_new w (.cells (sa S) 24)
  unfold sv sa at *
  unfold wv at *
  go_enter Try.func3, Try.ntmps3
  go_upto_region 1 with (fail)
  generalize w.alloc _ = W at *
  obtain ⟨s0, s1, s2, s3, -⟩ := now4 hb0 rfl
  go_wp2_with fail
  refine (H1 _).mono ?_
  rintro e w1 ⟨rfl, hb1⟩
  have hB1 := hB.trans (hb1.mono hB.size)
  replace hb0 := keep_blk hb1 hb0
  clear s0 s1 s2 s3 hB hb1 H1
  have hx := heap_alloc_new w1 (.cells #[.int .u64 (wd R 0).toNat, .int .u64 (wd R 1).toNat, .int .u64 (wd R 2).toNat, .int .u64 (wd R 3).toNat] 24)
  replace hb0 := keep_alloc (x := .cells #[.int .u64 (wd R 0).toNat, .int .u64 (wd R 1).toNat, .int .u64 (wd R 2).toNat, .int .u64 (wd R 3).toNat] 24) hb0
  have hB2 := hB1.trans ((below_alloc1 w1 (.cells #[.int .u64 (wd R 0).toNat, .int .u64 (wd R 1).toNat, .int .u64 (wd R 2).toNat, .int .u64 (wd R 3).toNat] 24)).mono hB1.size)
  clear hB1 h
  go_upto_region 2 with (fail)
  generalize w1.alloc _ = w2 at *
  go_upto_region 4 with (fail)
  obtain ⟨s0, s1, s2, s3, -⟩ := box4 hb0 rfl
  obtain ⟨t0, t1, t2, t3, -⟩ := box4 hx rfl
  refine wp_region_held_tail 7 (fun W_ => Below w2.heap.size w2 W_) (by kernel_rfl) (by kernel_rfl) (Below.refl _ w2).drew (fun hF hHeld => ?_)
  refine takeL12 (i := 0) (v := ?_) hF rfl (by kernel_rfl) (by kernel_rfl) (by kernel_rfl) (fun _ _ _ h => h) (Or.inl ⟨by rfl, ?_⟩) (by assumption) ?_
  rotate_left 1
  · intro w_ hSw
    have q0 := t0 ⟨w_, hSw⟩
    have q1 := t1 ⟨w_, hSw⟩
    have q2 := t2 ⟨w_, hSw⟩
    have q3 := t3 ⟨w_, hSw⟩
    dsimp only at q0 q1 q2 q3
    go_simp
    try with_reducible rfl
  try simp only [Act.put, List.setIfInBounds_toArray, List.set_cons_zero, List.set_cons_succ]
  refine takeL12 (i := 1) (v := ?_) hF rfl (by kernel_rfl) (by kernel_rfl) (by kernel_rfl) (fun _ _ _ h => h) (Or.inl ⟨by rfl, ?_⟩) (by assumption) ?_
  rotate_left 1
  · intro w_ hSw
    have q0 := s0 ⟨w_, hSw⟩
    have q1 := s1 ⟨w_, hSw⟩
    have q2 := s2 ⟨w_, hSw⟩
    have q3 := s3 ⟨w_, hSw⟩
    dsimp only at q0 q1 q2 q3
    go_simp
    try with_reducible rfl
  try simp only [Act.put, List.setIfInBounds_toArray, List.set_cons_zero, List.set_cons_succ]
  refine takeL12 (i := 3) (v := ?_) hF rfl (by kernel_rfl) (by kernel_rfl) (by kernel_rfl) (fun _ _ _ h => h) (Or.inl ⟨by rfl, ?_⟩) (by assumption) ?_
  rotate_left 1
  · intro w_ hSw
    go_simp
    try with_reducible rfl
  try simp only [Act.put, List.setIfInBounds_toArray, List.set_cons_zero, List.set_cons_succ]
  refine takeL12 (i := 4) (v := ?_) hF rfl (by kernel_rfl) (by kernel_rfl) (by kernel_rfl) (fun _ _ _ h => h) (Or.inl ⟨by rfl, ?_⟩) (by assumption) ?_
  rotate_left 1
  · intro w_ hSw
    go_simp
    try with_reducible rfl
  try simp only [Act.put, List.setIfInBounds_toArray, List.set_cons_zero, List.set_cons_succ]
  refine oneL12 (i := 2) (by kernel_rfl) (by kernel_rfl) rfl (fun _ hK => ?_)
  go_simp
  refine (HF _).mono ?_
  rintro e wa ⟨bo, co, rfl, hbo, hfo, hba⟩
  have hHa := hHeld.trans (hba.mono hHeld.size)
  try go_simp
  refine hK.out _ _ hHa (fun hHeld => ?_)
  clear hK
  try simp only [Act.put, List.setIfInBounds_toArray, List.set_cons_zero, List.set_cons_succ]
  refine oneL12 (i := 5) (by kernel_rfl) (by kernel_rfl) rfl (fun _ hK => ?_)
  go_simp
  refine (HD bo co _ hfo).mono ?_
  rintro e wb ⟨bm, rfl, hbm, hfm, hbb⟩
  have hHb := hHa.trans (hbb.mono hHa.size)
  try go_simp
  refine hK.out _ _ hHb (fun hHeld => ?_)
  clear hK
  try simp only [Act.put, List.setIfInBounds_toArray, List.set_cons_zero, List.set_cons_succ]
  refine oneL12 (i := 6) (by kernel_rfl) (by kernel_rfl) rfl (fun _ hK => ?_)
  go_simp
  refine (HT bm _ hfm).mono ?_
  rintro e wc ⟨rfl, hbc⟩
  have hHc := hHb.trans (hbc.mono hHb.size)
  try go_simp
  refine hK.out _ _ hHc (fun hHeld => ?_)
  clear hK
  try simp only [Act.put, List.setIfInBounds_toArray, List.set_cons_zero, List.set_cons_succ]
  refine ⟨by kernel_rfl, ?_⟩
  simp only [List.drop_succ_cons, List.drop_zero]
  have hBc := hB2.trans (hHc.mono hB2.size)
  clear hHeld s0 s1 s2 s3 t0 t1 t2 t3 HF HD HT hba hbb hbc hHa hHb hHc hfo hfm hbo hbm hb0 hx hB2
  go_wp2_with fail
  refine (HK _).mono ?_
  rintro e we ⟨rfl, hbe⟩
  have hBe := hBc.trans (hbe.mono hBc.size)
  clear HK hbe hBc
  go_wp2
  go_ret
  exact ⟨rfl, hBe⟩
theorem isopSides_any (HS : SideI) (HK : Knows12) (S : BitVec 256) (i : Int) (one : Bool) (w : World) : Calls Try.prog 3 #[sv S, .int .i64 i, .bool one] w fun e w' => e = .returned (.bool true) ∧ Below w.heap.size w w' := by
  by_cases h : i < 0 ∨ (0 ≤ i ∧ 7 < i)
  · exact sides12_no HS HK S i one h w
  · obtain ⟨k, rfl⟩ : ∃ k : Nat, i = k := ⟨i.toNat, by omega⟩
    exact sides12_yes HS HK S k one (by omega) w
end Go.Proofs.Ytnddepijbbchiaa
