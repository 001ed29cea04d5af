/- The statement CubeSets, walked. -/
import Derived.Test.YtmackldgkofedaaSets02
namespace Go.Proofs.Ytmackldgkofedaa
open Go.RowKit Go.Joins


set_option maxHeartbeats 1000000 in
set_option maxRecDepth 1000000 in
theorem cubeSets_a (ma va mb vb mc vc : BitVec 8) (n : Int) (ha : rightB ma va n = false) (w : World) :
    Calls Try.prog 5 #[cv ma va, cv mb vb, cv mc vc, .int .i64 n] w fun e w' => e = .returned (.bool true) ∧ Below w.heap.size w w' := by
  have HA := fun w => rright_any ma va n w
  rw [ha] at HA
  unfold cv bvv at *
  go_enter Try.func5, Try.ntmps5
  go_wp2_with fail
  refine (HA _).mono ?_
  rintro e w1 ⟨rfl, hb1⟩
  have fa1 : w1.heap[w.heap.size]? = some (cb ma va) := keep_blk hb1 (heap_alloc3_a _ _ _ _)
  have fb1 : w1.heap[w.heap.size + 1]? = some (cb mb vb) := keep_blk hb1 (heap_alloc3_b _ _ _ _)
  have fc1 : w1.heap[w.heap.size + 2]? = some (cb mc vc) := keep_blk hb1 (heap_alloc3_c _ _ _ _)
  have hB1 : Below w.heap.size w w1 := (below_alloc3 w _ _ _).trans (hb1.mono (by simp; omega))
  clear hb1
  go_wp2_with fail
  refine ((knows2_any _)).mono ?_
  rintro e w2 ⟨rfl, hb2⟩
  have fa2 := keep_blk hb2 fa1
  have fb2 := keep_blk hb2 fb1
  have fc2 := keep_blk hb2 fc1
  have hB2 : Below w.heap.size w w2 := hB1.trans (hb2.mono hB1.size)
  clear hb2 hB1 fa1 fb1 fc1
  go_wp2
  go_ret
  exact ⟨rfl, hB2⟩
set_option maxHeartbeats 1000000 in
set_option maxRecDepth 1000000 in
theorem cubeSets_b (ma va mb vb mc vc : BitVec 8) (n : Int) (ha : rightB ma va n = true) (hb : rightB mb vb n = false) (w : World) :
    Calls Try.prog 5 #[cv ma va, cv mb vb, cv mc vc, .int .i64 n] w fun e w' => e = .returned (.bool true) ∧ Below w.heap.size w w' := by
  have HA := fun w => rright_any ma va n w
  rw [ha] at HA
  have HB := fun w => rright_any mb vb n w
  rw [hb] at HB
  unfold cv bvv at *
  go_enter Try.func5, Try.ntmps5
  go_wp2_with fail
  refine (HA _).mono ?_
  rintro e w1 ⟨rfl, hb1⟩
  have fa1 : w1.heap[w.heap.size]? = some (cb ma va) := keep_blk hb1 (heap_alloc3_a _ _ _ _)
  have fb1 : w1.heap[w.heap.size + 1]? = some (cb mb vb) := keep_blk hb1 (heap_alloc3_b _ _ _ _)
  have fc1 : w1.heap[w.heap.size + 2]? = some (cb mc vc) := keep_blk hb1 (heap_alloc3_c _ _ _ _)
  have hB1 : Below w.heap.size w w1 := (below_alloc3 w _ _ _).trans (hb1.mono (by simp; omega))
  clear hb1
  obtain ⟨B0, B1, -⟩ := now2 fb1 rfl
  go_wp2_with fail
  refine ((HB _)).mono ?_
  rintro e w2 ⟨rfl, hb2⟩
  have fa2 := keep_blk hb2 fa1
  have fb2 := keep_blk hb2 fb1
  have fc2 := keep_blk hb2 fc1
  have hB2 : Below w.heap.size w w2 := hB1.trans (hb2.mono hB1.size)
  clear hb2 hB1 fa1 fb1 fc1 B0 B1
  go_wp2_with fail
  refine ((knows2_any _)).mono ?_
  rintro e w3 ⟨rfl, hb3⟩
  have fa3 := keep_blk hb3 fa2
  have fb3 := keep_blk hb3 fb2
  have fc3 := keep_blk hb3 fc2
  have hB3 : Below w.heap.size w w3 := hB2.trans (hb3.mono hB2.size)
  clear hb3 hB2 fa2 fb2 fc2
  go_wp2
  go_ret
  exact ⟨rfl, hB3⟩
set_option maxHeartbeats 1000000 in
set_option maxRecDepth 1000000 in
theorem cubeSets_c (ma va mb vb mc vc : BitVec 8) (n : Int) (ha : rightB ma va n = true) (hb : rightB mb vb n = true) (hc : rightB mc vc n = false) (w : World) :
    Calls Try.prog 5 #[cv ma va, cv mb vb, cv mc vc, .int .i64 n] w fun e w' => e = .returned (.bool true) ∧ Below w.heap.size w w' := by
  have HA := fun w => rright_any ma va n w
  rw [ha] at HA
  have HB := fun w => rright_any mb vb n w
  rw [hb] at HB
  have HC := fun w => rright_any mc vc n w
  rw [hc] at HC
  unfold cv bvv at *
  go_enter Try.func5, Try.ntmps5
  go_wp2_with fail
  refine (HA _).mono ?_
  rintro e w1 ⟨rfl, hb1⟩
  have fa1 : w1.heap[w.heap.size]? = some (cb ma va) := keep_blk hb1 (heap_alloc3_a _ _ _ _)
  have fb1 : w1.heap[w.heap.size + 1]? = some (cb mb vb) := keep_blk hb1 (heap_alloc3_b _ _ _ _)
  have fc1 : w1.heap[w.heap.size + 2]? = some (cb mc vc) := keep_blk hb1 (heap_alloc3_c _ _ _ _)
  have hB1 : Below w.heap.size w w1 := (below_alloc3 w _ _ _).trans (hb1.mono (by simp; omega))
  clear hb1
  obtain ⟨B0, B1, -⟩ := now2 fb1 rfl
  go_wp2_with fail
  refine ((HB _)).mono ?_
  rintro e w2 ⟨rfl, hb2⟩
  have fa2 := keep_blk hb2 fa1
  have fb2 := keep_blk hb2 fb1
  have fc2 := keep_blk hb2 fc1
  have hB2 : Below w.heap.size w w2 := hB1.trans (hb2.mono hB1.size)
  clear hb2 hB1 fa1 fb1 fc1 B0 B1
  obtain ⟨C0, C1, -⟩ := now2 fc2 rfl
  go_wp2_with fail
  refine ((HC _)).mono ?_
  rintro e w3 ⟨rfl, hb3⟩
  have fa3 := keep_blk hb3 fa2
  have fb3 := keep_blk hb3 fb2
  have fc3 := keep_blk hb3 fc2
  have hB3 : Below w.heap.size w w3 := hB2.trans (hb3.mono hB2.size)
  clear hb3 hB2 fa2 fb2 fc2 C0 C1
  go_wp2_with fail
  refine ((knows2_any _)).mono ?_
  rintro e w4 ⟨rfl, hb4⟩
  have fa4 := keep_blk hb4 fa3
  have fb4 := keep_blk hb4 fb3
  have fc4 := keep_blk hb4 fc3
  have hB4 : Below w.heap.size w w4 := hB3.trans (hb4.mono hB3.size)
  clear hb4 hB3 fa3 fb3 fc3
  go_wp2
  go_ret
  exact ⟨rfl, hB4⟩
set_option maxHeartbeats 4000000 in
set_option maxRecDepth 1000000 in
theorem cubeSets_meet_no (ma va mb vb mc vc : BitVec 8) (n : Nat) (ha : rightB ma va n = true) (hb : rightB mb vb n = true) (hc : rightB mc vc n = true) (hm : clashB ma va mb vb = 0) (h1 : holdsB mc vc ma va = false) (w : World) :
    Calls Try.prog 5 #[cv ma va, cv mb vb, cv mc vc, .int .i64 n] w fun e w' => e = .returned (.bool true) ∧ Below w.heap.size w w' := by
  have F := setsFacts ha hb
  have HA := fun w => rright_any ma va n w
  have HB := fun w => rright_any mb vb n w
  have HC := fun w => rright_any mc vc n w
  rw [ha] at HA
  rw [hb] at HB
  rw [hc] at HC
  have HX := fun w => cpoints_yes ha w
  have HY := fun w => cpoints_yes hb w
  have HM := fun w => meet_yes ma va mb vb hm w
  have HZ := fun w => cpoints_yes (meet_right ha hb) w
  rw [← F.meet hm] at HZ
  have HN := fun w => and_any (cpts ma va n n) (cpts mb vb n n) w
  have HS := fun w => size_any ma va w
  rw [F.size] at HS
  have HJ := fun w => join_any ma va mb vb w
  have HK := fun w => count_any (cpts ma va n n) w
  rw [F.count] at HK
  have HH := fun w => holds_any ma va mb vb w
  have HI := fun w => refwithin_any (cpts mb vb n n) (cpts ma va n n) w
  rw [F.within] at HI
  have HJa := fun w => holds_any (joinM ma va mb vb) (va &&& joinM ma va mb vb) ma va w
  rw [join_left] at HJa
  have HJb := fun w => holds_any (joinM ma va mb vb) (va &&& joinM ma va mb vb) mb vb w
  rw [join_right] at HJb
  have Hca := fun w => holds_any mc vc ma va w
  rw [h1] at Hca
  have hsz := F.small
  have hpw := F.le
  clear F ha hb hc hm h1 
  generalize szK ma n = q at *
  generalize hjv : va &&& joinM ma va mb vb = vj at *
  generalize hjm : joinM ma va mb vb = mj at *
  clear hjv hjm
  generalize holdsB ma va mb vb = H at *
  generalize cpts ma va n n = X at *
  generalize cpts mb vb n n = Y at *
  generalize X &&& Y = Z at *
  generalize hmv : (va &&& ma ||| vb &&& mb) = vm at *
  generalize hmm : ma ||| mb = mm at *
  clear hmv hmm
  unfold cv sv bvv wv at *
  have E := eq4_refl
  go_enter Try.func5, Try.ntmps5
  go_wp2_with fail
  refine (HA _).mono ?_
  rintro e w1 ⟨rfl, hb1⟩
  have fa1 : w1.heap[w.heap.size]? = some (cb ma va) := keep_blk hb1 (heap_alloc3_a _ _ _ _)
  have fb1 : w1.heap[w.heap.size + 1]? = some (cb mb vb) := keep_blk hb1 (heap_alloc3_b _ _ _ _)
  have fc1 : w1.heap[w.heap.size + 2]? = some (cb mc vc) := keep_blk hb1 (heap_alloc3_c _ _ _ _)
  have hB1 : Below w.heap.size w w1 := (below_alloc3 w _ _ _).trans (hb1.mono (by simp; omega))
  clear hb1
  obtain ⟨B0, B1, -⟩ := now2 fb1 rfl
  go_wp2_with fail
  refine ((HB _)).mono ?_
  rintro e w2 ⟨rfl, hb2⟩
  have fa2 := keep_blk hb2 fa1
  have fb2 := keep_blk hb2 fb1
  have fc2 := keep_blk hb2 fc1
  have hB2 : Below w.heap.size w w2 := hB1.trans (hb2.mono hB1.size)
  clear hb2 hB1 fa1 fb1 fc1 B0 B1
  obtain ⟨C0, C1, -⟩ := now2 fc2 rfl
  go_wp2_with fail
  refine ((HC _)).mono ?_
  rintro e w3 ⟨rfl, hb3⟩
  have fa3 := keep_blk hb3 fa2
  have fb3 := keep_blk hb3 fb2
  have fc3 := keep_blk hb3 fc2
  have hB3 : Below w.heap.size w w3 := hB2.trans (hb3.mono hB2.size)
  clear hb3 hB2 fa2 fb2 fc2 C0 C1
  obtain ⟨A0, A1, -⟩ := now2 fa3 rfl
  go_wp2_with fail
  refine ((HX _)).mono ?_
  rintro e w4 ⟨rfl, hb4⟩
  have fa4 := keep_blk hb4 fa3
  have fb4 := keep_blk hb4 fb3
  have fc4 := keep_blk hb4 fc3
  have hB4 : Below w.heap.size w w4 := hB3.trans (hb4.mono hB3.size)
  clear hb4 hB3 fa3 fb3 fc3 A0 A1
  obtain ⟨B0, B1, -⟩ := al2 fb4 rfl
  go_wp2_with fail
  refine ((HY _)).mono ?_
  rintro e w5 ⟨rfl, hb5⟩
  have fa5 := keep_blk hb5 (keep_alloc fa4)
  have fb5 := keep_blk hb5 (keep_alloc fb4)
  have fc5 := keep_blk hb5 (keep_alloc fc4)
  have fx5 := keep_blk hb5 (heap_alloc_new _ _)
  have hB5 : Below w.heap.size w w5 := (hB4.alloc hB4.size _).trans (hb5.mono (by have := hB4.size; simp; omega))
  clear hb5 hB4 fa4 fb4 fc4 B0 B1
  obtain ⟨A0, A1, -⟩ := al2 fa5 rfl
  obtain ⟨B0, B1, -⟩ := al2 fb5 rfl
  go_wp2_with fail
  refine ((HM _)).mono ?_
  rintro e w6 ⟨rfl, hb6⟩
  have fa6 := keep_blk hb6 (keep_alloc fa5)
  have fb6 := keep_blk hb6 (keep_alloc fb5)
  have fc6 := keep_blk hb6 (keep_alloc fc5)
  have fx6 := keep_blk hb6 (keep_alloc fx5)
  have fy6 := keep_blk hb6 (heap_alloc_new _ _)
  have hB6 : Below w.heap.size w w6 := (hB5.alloc hB5.size _).trans (hb6.mono (by have := hB5.size; simp; omega))
  clear hb6 hB5 fa5 fb5 fc5 fx5 A0 A1 B0 B1
  go_wp2_with fail
  refine ((HZ _)).mono ?_
  rintro e w7 ⟨rfl, hb7⟩
  have fa7 := keep_blk hb7 (keep_alloc fa6)
  have fb7 := keep_blk hb7 (keep_alloc fb6)
  have fc7 := keep_blk hb7 (keep_alloc fc6)
  have fx7 := keep_blk hb7 (keep_alloc fx6)
  have fy7 := keep_blk hb7 (keep_alloc fy6)
  have fm7 := keep_blk hb7 (heap_alloc_new _ _)
  have hB7 : Below w.heap.size w w7 := (hB6.alloc hB6.size _).trans (hb7.mono (by have := hB6.size; simp; omega))
  clear hb7 hB6 fa6 fb6 fc6 fx6 fy6
  clear HA HB HC HX HY HM HZ fm7
  obtain ⟨A0, A1, -⟩ := al2 fa7 rfl
  go_wp2_with fail
  refine ((HS _)).mono ?_
  rintro e w8 ⟨rfl, hb8⟩
  have fa8 := keep_blk hb8 (keep_alloc fa7)
  have fb8 := keep_blk hb8 (keep_alloc fb7)
  have fc8 := keep_blk hb8 (keep_alloc fc7)
  have fx8 := keep_blk hb8 (keep_alloc fx7)
  have fy8 := keep_blk hb8 (keep_alloc fy7)
  have fz8 := keep_blk hb8 (heap_alloc_new _ _)
  have hB8 : Below w.heap.size w w8 := (hB7.alloc hB7.size _).trans (hb8.mono (by have := hB7.size; simp; omega))
  clear hb8 hB7 fa7 fb7 fc7 fx7 fy7 A0 A1
  go_wp2
  go_loop [17, 18] (fun p i => ∃ k : Nat, q ≤ k ∧ k ≤ n ∧ i = .int .i64 k ∧ p = .int .i64 (2 ^ (k - q) : Nat)) (fun _ i => n - (intOf i).toNat)
  case atStart => exact ⟨q, by omega, by omega, rfl, by simp⟩
  case round =>
  obtain ⟨k, hk1, hk2, rfl, rfl⟩ := hrel
  by_cases hlt : k < n
  · have hp := Lib.hid (pow_next k q hk1)
    have hp2 := pow_many k q (by omega)
    generalize 2 ^ (k - q) = P at *
    go_wp2
    go_round
    case rel => exact ⟨k + 1, by omega, by omega, by go_num, by rw [← hp.out]; go_num⟩
    case measure => simp [intOf]; omega
  have e : k = n := by omega
  subst e
  generalize 2 ^ (k - q) = P at *
  obtain ⟨A0, A1, -⟩ := now2 fa8 rfl
  obtain ⟨B0, B1, -⟩ := now2 fb8 rfl
  go_wp2_with fail
  refine ((HJ _)).mono ?_
  rintro e w9 ⟨rfl, hb9⟩
  have fa9 := keep_blk hb9 fa8
  have fb9 := keep_blk hb9 fb8
  have fc9 := keep_blk hb9 fc8
  have fx9 := keep_blk hb9 fx8
  have fy9 := keep_blk hb9 fy8
  have fz9 := keep_blk hb9 fz8
  have hB9 : Below w.heap.size w w9 := hB8.trans (hb9.mono hB8.size)
  clear hb9 hB8 fa8 fb8 fc8 fx8 fy8 fz8 A0 A1 B0 B1
  go_wp2
  generalize hW : w9.alloc (cb mj vj) = wj at *
  have ga := keep_alloc (x := cb mj vj) fa9
  rw [hW] at ga
  have gb := keep_alloc (x := cb mj vj) fb9
  rw [hW] at gb
  have gc := keep_alloc (x := cb mj vj) fc9
  rw [hW] at gc
  have gx := keep_alloc (x := cb mj vj) fx9
  rw [hW] at gx
  have gy := keep_alloc (x := cb mj vj) fy9
  rw [hW] at gy
  have gz := keep_alloc (x := cb mj vj) fz9
  rw [hW] at gz
  have gj := (by rw [← hW]; exact heap_alloc_new _ _ : wj.heap[w9.heap.size]? = some (cb mj vj))
  have hBj : Below w.heap.size w wj := by rw [← hW]; exact hB9.alloc hB9.size _
  clear hW hB9 fa9 fb9 fc9 fx9 fy9 fz9
  obtain ⟨A0, A1, -⟩ := box2 ga rfl
  obtain ⟨B0, B1, -⟩ := box2 gb rfl
  obtain ⟨J0, J1, -⟩ := box2 gj rfl
  obtain ⟨X0, X1, X2, X3, -⟩ := box4 gx rfl
  obtain ⟨Y0, Y1, Y2, Y3, -⟩ := box4 gy rfl
  obtain ⟨Z0, Z1, Z2, Z3, -⟩ := box4 gz rfl
  refine wp_region_after (by kernel_rfl) (by kernel_rfl) ?_
  repeat (first | go_big_quiet_step ((first | (go_at_call 18; exact Calls.after_of (HK _)) | (go_at_call 20; exact Calls.after_of (HI _)) | (go_at_call 21; exact Calls.after_of (HN _)) | (go_at_call_of 19 (Value.agg #[Value.int IntKind.u8 mj.toNat, Value.int IntKind.u8 vj.toNat]); go_at_call_of 19 (Value.agg #[Value.int IntKind.u8 ma.toNat, Value.int IntKind.u8 va.toNat]); exact Calls.after_of (HJa _)) | (go_at_call_of 19 (Value.agg #[Value.int IntKind.u8 mj.toNat, Value.int IntKind.u8 vj.toNat]); go_at_call_of 19 (Value.agg #[Value.int IntKind.u8 mb.toNat, Value.int IntKind.u8 vb.toNat]); exact Calls.after_of (HJb _)) | (go_at_call 19; exact Calls.after_of (HH _)))))
  refine wpQuiet_nil ?_
  intro x
  have hB10 : Below w.heap.size w x.1 := hBj.trans (x.2.mono hBj.size)
  have fa10 := After.same x ga
  have fb10 := After.same x gb
  have fc10 := After.same x gc
  have fj10 := After.same x gj
  generalize x.1 = w10 at *
  clear x hBj ga gb gc gx gy gz gj A0 A1 B0 B1 J0 J1 X0 X1 X2 X3 Y0 Y1 Y2 Y3 Z0 Z1 Z2 Z3 HK HI HN HH HJa HJb
  obtain ⟨A0, A1, -⟩ := now2 fa10 rfl
  obtain ⟨C0, C1, -⟩ := now2 fc10 rfl
  go_wp2_with fail
  refine ((Hca _)).mono ?_
  rintro e w11 ⟨rfl, hb11⟩
  have fa11 := keep_blk hb11 fa10
  have fb11 := keep_blk hb11 fb10
  have fc11 := keep_blk hb11 fc10
  have fj11 := keep_blk hb11 fj10
  have hB11 : Below w.heap.size w w11 := hB10.trans (hb11.mono hB10.size)
  clear hb11 hB10 fa10 fb10 fc10 fj10 A0 A1 C0 C1
  go_wp2_with fail
  refine ((knows2_any _)).mono ?_
  rintro e w12 ⟨rfl, hb12⟩
  have fa12 := keep_blk hb12 fa11
  have fb12 := keep_blk hb12 fb11
  have fc12 := keep_blk hb12 fc11
  have fj12 := keep_blk hb12 fj11
  have hB12 : Below w.heap.size w w12 := hB11.trans (hb12.mono hB11.size)
  clear hb12 hB11 fa11 fb11 fc11 fj11
  go_wp2
  go_ret
  exact ⟨rfl, hB12⟩
set_option maxHeartbeats 4000000 in
set_option maxRecDepth 1000000 in
theorem cubeSets_meet_left (ma va mb vb mc vc : BitVec 8) (n : Nat) (ha : rightB ma va n = true) (hb : rightB mb vb n = true) (hc : rightB mc vc n = true) (hm : clashB ma va mb vb = 0) (h1 : holdsB mc vc ma va = true) (h2 : holdsB mc vc mb vb = false) (w : World) :
    Calls Try.prog 5 #[cv ma va, cv mb vb, cv mc vc, .int .i64 n] w fun e w' => e = .returned (.bool true) ∧ Below w.heap.size w w' := by
  have F := setsFacts ha hb
  have HA := fun w => rright_any ma va n w
  have HB := fun w => rright_any mb vb n w
  have HC := fun w => rright_any mc vc n w
  rw [ha] at HA
  rw [hb] at HB
  rw [hc] at HC
  have HX := fun w => cpoints_yes ha w
  have HY := fun w => cpoints_yes hb w
  have HM := fun w => meet_yes ma va mb vb hm w
  have HZ := fun w => cpoints_yes (meet_right ha hb) w
  rw [← F.meet hm] at HZ
  have HN := fun w => and_any (cpts ma va n n) (cpts mb vb n n) w
  have HS := fun w => size_any ma va w
  rw [F.size] at HS
  have HJ := fun w => join_any ma va mb vb w
  have HK := fun w => count_any (cpts ma va n n) w
  rw [F.count] at HK
  have HH := fun w => holds_any ma va mb vb w
  have HI := fun w => refwithin_any (cpts mb vb n n) (cpts ma va n n) w
  rw [F.within] at HI
  have HJa := fun w => holds_any (joinM ma va mb vb) (va &&& joinM ma va mb vb) ma va w
  rw [join_left] at HJa
  have HJb := fun w => holds_any (joinM ma va mb vb) (va &&& joinM ma va mb vb) mb vb w
  rw [join_right] at HJb
  have Hca := fun w => holds_any mc vc ma va w
  rw [h1] at Hca
  have Hcb := fun w => holds_any mc vc mb vb w
  rw [h2] at Hcb
  have hsz := F.small
  have hpw := F.le
  clear F ha hb hc hm h1 h2
  generalize szK ma n = q at *
  generalize hjv : va &&& joinM ma va mb vb = vj at *
  generalize hjm : joinM ma va mb vb = mj at *
  clear hjv hjm
  generalize holdsB ma va mb vb = H at *
  generalize cpts ma va n n = X at *
  generalize cpts mb vb n n = Y at *
  generalize X &&& Y = Z at *
  generalize hmv : (va &&& ma ||| vb &&& mb) = vm at *
  generalize hmm : ma ||| mb = mm at *
  clear hmv hmm
  unfold cv sv bvv wv at *
  have E := eq4_refl
  go_enter Try.func5, Try.ntmps5
  go_wp2_with fail
  refine (HA _).mono ?_
  rintro e w1 ⟨rfl, hb1⟩
  have fa1 : w1.heap[w.heap.size]? = some (cb ma va) := keep_blk hb1 (heap_alloc3_a _ _ _ _)
  have fb1 : w1.heap[w.heap.size + 1]? = some (cb mb vb) := keep_blk hb1 (heap_alloc3_b _ _ _ _)
  have fc1 : w1.heap[w.heap.size + 2]? = some (cb mc vc) := keep_blk hb1 (heap_alloc3_c _ _ _ _)
  have hB1 : Below w.heap.size w w1 := (below_alloc3 w _ _ _).trans (hb1.mono (by simp; omega))
  clear hb1
  obtain ⟨B0, B1, -⟩ := now2 fb1 rfl
  go_wp2_with fail
  refine ((HB _)).mono ?_
  rintro e w2 ⟨rfl, hb2⟩
  have fa2 := keep_blk hb2 fa1
  have fb2 := keep_blk hb2 fb1
  have fc2 := keep_blk hb2 fc1
  have hB2 : Below w.heap.size w w2 := hB1.trans (hb2.mono hB1.size)
  clear hb2 hB1 fa1 fb1 fc1 B0 B1
  obtain ⟨C0, C1, -⟩ := now2 fc2 rfl
  go_wp2_with fail
  refine ((HC _)).mono ?_
  rintro e w3 ⟨rfl, hb3⟩
  have fa3 := keep_blk hb3 fa2
  have fb3 := keep_blk hb3 fb2
  have fc3 := keep_blk hb3 fc2
  have hB3 : Below w.heap.size w w3 := hB2.trans (hb3.mono hB2.size)
  clear hb3 hB2 fa2 fb2 fc2 C0 C1
  obtain ⟨A0, A1, -⟩ := now2 fa3 rfl
  go_wp2_with fail
  refine ((HX _)).mono ?_
  rintro e w4 ⟨rfl, hb4⟩
  have fa4 := keep_blk hb4 fa3
  have fb4 := keep_blk hb4 fb3
  have fc4 := keep_blk hb4 fc3
  have hB4 : Below w.heap.size w w4 := hB3.trans (hb4.mono hB3.size)
  clear hb4 hB3 fa3 fb3 fc3 A0 A1
  obtain ⟨B0, B1, -⟩ := al2 fb4 rfl
  go_wp2_with fail
  refine ((HY _)).mono ?_
  rintro e w5 ⟨rfl, hb5⟩
  have fa5 := keep_blk hb5 (keep_alloc fa4)
  have fb5 := keep_blk hb5 (keep_alloc fb4)
  have fc5 := keep_blk hb5 (keep_alloc fc4)
  have fx5 := keep_blk hb5 (heap_alloc_new _ _)
  have hB5 : Below w.heap.size w w5 := (hB4.alloc hB4.size _).trans (hb5.mono (by have := hB4.size; simp; omega))
  clear hb5 hB4 fa4 fb4 fc4 B0 B1
  obtain ⟨A0, A1, -⟩ := al2 fa5 rfl
  obtain ⟨B0, B1, -⟩ := al2 fb5 rfl
  go_wp2_with fail
  refine ((HM _)).mono ?_
  rintro e w6 ⟨rfl, hb6⟩
  have fa6 := keep_blk hb6 (keep_alloc fa5)
  have fb6 := keep_blk hb6 (keep_alloc fb5)
  have fc6 := keep_blk hb6 (keep_alloc fc5)
  have fx6 := keep_blk hb6 (keep_alloc fx5)
  have fy6 := keep_blk hb6 (heap_alloc_new _ _)
  have hB6 : Below w.heap.size w w6 := (hB5.alloc hB5.size _).trans (hb6.mono (by have := hB5.size; simp; omega))
  clear hb6 hB5 fa5 fb5 fc5 fx5 A0 A1 B0 B1
  go_wp2_with fail
  refine ((HZ _)).mono ?_
  rintro e w7 ⟨rfl, hb7⟩
  have fa7 := keep_blk hb7 (keep_alloc fa6)
  have fb7 := keep_blk hb7 (keep_alloc fb6)
  have fc7 := keep_blk hb7 (keep_alloc fc6)
  have fx7 := keep_blk hb7 (keep_alloc fx6)
  have fy7 := keep_blk hb7 (keep_alloc fy6)
  have fm7 := keep_blk hb7 (heap_alloc_new _ _)
  have hB7 : Below w.heap.size w w7 := (hB6.alloc hB6.size _).trans (hb7.mono (by have := hB6.size; simp; omega))
  clear hb7 hB6 fa6 fb6 fc6 fx6 fy6
  clear HA HB HC HX HY HM HZ fm7
  obtain ⟨A0, A1, -⟩ := al2 fa7 rfl
  go_wp2_with fail
  refine ((HS _)).mono ?_
  rintro e w8 ⟨rfl, hb8⟩
  have fa8 := keep_blk hb8 (keep_alloc fa7)
  have fb8 := keep_blk hb8 (keep_alloc fb7)
  have fc8 := keep_blk hb8 (keep_alloc fc7)
  have fx8 := keep_blk hb8 (keep_alloc fx7)
  have fy8 := keep_blk hb8 (keep_alloc fy7)
  have fz8 := keep_blk hb8 (heap_alloc_new _ _)
  have hB8 : Below w.heap.size w w8 := (hB7.alloc hB7.size _).trans (hb8.mono (by have := hB7.size; simp; omega))
  clear hb8 hB7 fa7 fb7 fc7 fx7 fy7 A0 A1
  go_wp2
  go_loop [17, 18] (fun p i => ∃ k : Nat, q ≤ k ∧ k ≤ n ∧ i = .int .i64 k ∧ p = .int .i64 (2 ^ (k - q) : Nat)) (fun _ i => n - (intOf i).toNat)
  case atStart => exact ⟨q, by omega, by omega, rfl, by simp⟩
  case round =>
  obtain ⟨k, hk1, hk2, rfl, rfl⟩ := hrel
  by_cases hlt : k < n
  · have hp := Lib.hid (pow_next k q hk1)
    have hp2 := pow_many k q (by omega)
    generalize 2 ^ (k - q) = P at *
    go_wp2
    go_round
    case rel => exact ⟨k + 1, by omega, by omega, by go_num, by rw [← hp.out]; go_num⟩
    case measure => simp [intOf]; omega
  have e : k = n := by omega
  subst e
  generalize 2 ^ (k - q) = P at *
  obtain ⟨A0, A1, -⟩ := now2 fa8 rfl
  obtain ⟨B0, B1, -⟩ := now2 fb8 rfl
  go_wp2_with fail
  refine ((HJ _)).mono ?_
  rintro e w9 ⟨rfl, hb9⟩
  have fa9 := keep_blk hb9 fa8
  have fb9 := keep_blk hb9 fb8
  have fc9 := keep_blk hb9 fc8
  have fx9 := keep_blk hb9 fx8
  have fy9 := keep_blk hb9 fy8
  have fz9 := keep_blk hb9 fz8
  have hB9 : Below w.heap.size w w9 := hB8.trans (hb9.mono hB8.size)
  clear hb9 hB8 fa8 fb8 fc8 fx8 fy8 fz8 A0 A1 B0 B1
  go_wp2
  generalize hW : w9.alloc (cb mj vj) = wj at *
  have ga := keep_alloc (x := cb mj vj) fa9
  rw [hW] at ga
  have gb := keep_alloc (x := cb mj vj) fb9
  rw [hW] at gb
  have gc := keep_alloc (x := cb mj vj) fc9
  rw [hW] at gc
  have gx := keep_alloc (x := cb mj vj) fx9
  rw [hW] at gx
  have gy := keep_alloc (x := cb mj vj) fy9
  rw [hW] at gy
  have gz := keep_alloc (x := cb mj vj) fz9
  rw [hW] at gz
  have gj := (by rw [← hW]; exact heap_alloc_new _ _ : wj.heap[w9.heap.size]? = some (cb mj vj))
  have hBj : Below w.heap.size w wj := by rw [← hW]; exact hB9.alloc hB9.size _
  clear hW hB9 fa9 fb9 fc9 fx9 fy9 fz9
  obtain ⟨A0, A1, -⟩ := box2 ga rfl
  obtain ⟨B0, B1, -⟩ := box2 gb rfl
  obtain ⟨J0, J1, -⟩ := box2 gj rfl
  obtain ⟨X0, X1, X2, X3, -⟩ := box4 gx rfl
  obtain ⟨Y0, Y1, Y2, Y3, -⟩ := box4 gy rfl
  obtain ⟨Z0, Z1, Z2, Z3, -⟩ := box4 gz rfl
  refine wp_region_after (by kernel_rfl) (by kernel_rfl) ?_
  repeat (first | go_big_quiet_step ((first | (go_at_call 18; exact Calls.after_of (HK _)) | (go_at_call 20; exact Calls.after_of (HI _)) | (go_at_call 21; exact Calls.after_of (HN _)) | (go_at_call_of 19 (Value.agg #[Value.int IntKind.u8 mj.toNat, Value.int IntKind.u8 vj.toNat]); go_at_call_of 19 (Value.agg #[Value.int IntKind.u8 ma.toNat, Value.int IntKind.u8 va.toNat]); exact Calls.after_of (HJa _)) | (go_at_call_of 19 (Value.agg #[Value.int IntKind.u8 mj.toNat, Value.int IntKind.u8 vj.toNat]); go_at_call_of 19 (Value.agg #[Value.int IntKind.u8 mb.toNat, Value.int IntKind.u8 vb.toNat]); exact Calls.after_of (HJb _)) | (go_at_call 19; exact Calls.after_of (HH _)))))
  refine wpQuiet_nil ?_
  intro x
  have hB10 : Below w.heap.size w x.1 := hBj.trans (x.2.mono hBj.size)
  have fa10 := After.same x ga
  have fb10 := After.same x gb
  have fc10 := After.same x gc
  have fj10 := After.same x gj
  generalize x.1 = w10 at *
  clear x hBj ga gb gc gx gy gz gj A0 A1 B0 B1 J0 J1 X0 X1 X2 X3 Y0 Y1 Y2 Y3 Z0 Z1 Z2 Z3 HK HI HN HH HJa HJb
  obtain ⟨A0, A1, -⟩ := now2 fa10 rfl
  obtain ⟨C0, C1, -⟩ := now2 fc10 rfl
  go_wp2_with fail
  refine ((Hca _)).mono ?_
  rintro e w11 ⟨rfl, hb11⟩
  have fa11 := keep_blk hb11 fa10
  have fb11 := keep_blk hb11 fb10
  have fc11 := keep_blk hb11 fc10
  have fj11 := keep_blk hb11 fj10
  have hB11 : Below w.heap.size w w11 := hB10.trans (hb11.mono hB10.size)
  clear hb11 hB10 fa10 fb10 fc10 fj10 A0 A1 C0 C1
  obtain ⟨B0, B1, -⟩ := now2 fb11 rfl
  obtain ⟨C0, C1, -⟩ := now2 fc11 rfl
  go_wp2_with fail
  refine ((Hcb _)).mono ?_
  rintro e w12 ⟨rfl, hb12⟩
  have fa12 := keep_blk hb12 fa11
  have fb12 := keep_blk hb12 fb11
  have fc12 := keep_blk hb12 fc11
  have fj12 := keep_blk hb12 fj11
  have hB12 : Below w.heap.size w w12 := hB11.trans (hb12.mono hB11.size)
  clear hb12 hB11 fa11 fb11 fc11 fj11 B0 B1 C0 C1
  go_wp2_with fail
  refine ((knows2_any _)).mono ?_
  rintro e w13 ⟨rfl, hb13⟩
  have fa13 := keep_blk hb13 fa12
  have fb13 := keep_blk hb13 fb12
  have fc13 := keep_blk hb13 fc12
  have fj13 := keep_blk hb13 fj12
  have hB13 : Below w.heap.size w w13 := hB12.trans (hb13.mono hB12.size)
  clear hb13 hB12 fa12 fb12 fc12 fj12
  go_wp2
  go_ret
  exact ⟨rfl, hB13⟩
set_option maxHeartbeats 4000000 in
set_option maxRecDepth 1000000 in
theorem cubeSets_meet_both (ma va mb vb mc vc : BitVec 8) (n : Nat) (ha : rightB ma va n = true) (hb : rightB mb vb n = true) (hc : rightB mc vc n = true) (hm : clashB ma va mb vb = 0) (h1 : holdsB mc vc ma va = true) (h2 : holdsB mc vc mb vb = true) (w : World) :
    Calls Try.prog 5 #[cv ma va, cv mb vb, cv mc vc, .int .i64 n] w fun e w' => e = .returned (.bool true) ∧ Below w.heap.size w w' := by
  have F := setsFacts ha hb
  have HA := fun w => rright_any ma va n w
  have HB := fun w => rright_any mb vb n w
  have HC := fun w => rright_any mc vc n w
  rw [ha] at HA
  rw [hb] at HB
  rw [hc] at HC
  have HX := fun w => cpoints_yes ha w
  have HY := fun w => cpoints_yes hb w
  have HM := fun w => meet_yes ma va mb vb hm w
  have HZ := fun w => cpoints_yes (meet_right ha hb) w
  rw [← F.meet hm] at HZ
  have HN := fun w => and_any (cpts ma va n n) (cpts mb vb n n) w
  have HS := fun w => size_any ma va w
  rw [F.size] at HS
  have HJ := fun w => join_any ma va mb vb w
  have HK := fun w => count_any (cpts ma va n n) w
  rw [F.count] at HK
  have HH := fun w => holds_any ma va mb vb w
  have HI := fun w => refwithin_any (cpts mb vb n n) (cpts ma va n n) w
  rw [F.within] at HI
  have HJa := fun w => holds_any (joinM ma va mb vb) (va &&& joinM ma va mb vb) ma va w
  rw [join_left] at HJa
  have HJb := fun w => holds_any (joinM ma va mb vb) (va &&& joinM ma va mb vb) mb vb w
  rw [join_right] at HJb
  have Hca := fun w => holds_any mc vc ma va w
  rw [h1] at Hca
  have Hcb := fun w => holds_any mc vc mb vb w
  rw [h2] at Hcb
  have Hcj := fun w => holds_any mc vc (joinM ma va mb vb) (va &&& joinM ma va mb vb) w
  rw [join_least ma va mb vb mc vc h1 h2] at Hcj
  have hsz := F.small
  have hpw := F.le
  clear F ha hb hc hm h1 h2
  generalize szK ma n = q at *
  generalize hjv : va &&& joinM ma va mb vb = vj at *
  generalize hjm : joinM ma va mb vb = mj at *
  clear hjv hjm
  generalize holdsB ma va mb vb = H at *
  generalize cpts ma va n n = X at *
  generalize cpts mb vb n n = Y at *
  generalize X &&& Y = Z at *
  generalize hmv : (va &&& ma ||| vb &&& mb) = vm at *
  generalize hmm : ma ||| mb = mm at *
  clear hmv hmm
  unfold cv sv bvv wv at *
  have E := eq4_refl
  go_enter Try.func5, Try.ntmps5
  go_wp2_with fail
  refine (HA _).mono ?_
  rintro e w1 ⟨rfl, hb1⟩
  have fa1 : w1.heap[w.heap.size]? = some (cb ma va) := keep_blk hb1 (heap_alloc3_a _ _ _ _)
  have fb1 : w1.heap[w.heap.size + 1]? = some (cb mb vb) := keep_blk hb1 (heap_alloc3_b _ _ _ _)
  have fc1 : w1.heap[w.heap.size + 2]? = some (cb mc vc) := keep_blk hb1 (heap_alloc3_c _ _ _ _)
  have hB1 : Below w.heap.size w w1 := (below_alloc3 w _ _ _).trans (hb1.mono (by simp; omega))
  clear hb1
  obtain ⟨B0, B1, -⟩ := now2 fb1 rfl
  go_wp2_with fail
  refine ((HB _)).mono ?_
  rintro e w2 ⟨rfl, hb2⟩
  have fa2 := keep_blk hb2 fa1
  have fb2 := keep_blk hb2 fb1
  have fc2 := keep_blk hb2 fc1
  have hB2 : Below w.heap.size w w2 := hB1.trans (hb2.mono hB1.size)
  clear hb2 hB1 fa1 fb1 fc1 B0 B1
  obtain ⟨C0, C1, -⟩ := now2 fc2 rfl
  go_wp2_with fail
  refine ((HC _)).mono ?_
  rintro e w3 ⟨rfl, hb3⟩
  have fa3 := keep_blk hb3 fa2
  have fb3 := keep_blk hb3 fb2
  have fc3 := keep_blk hb3 fc2
  have hB3 : Below w.heap.size w w3 := hB2.trans (hb3.mono hB2.size)
  clear hb3 hB2 fa2 fb2 fc2 C0 C1
  obtain ⟨A0, A1, -⟩ := now2 fa3 rfl
  go_wp2_with fail
  refine ((HX _)).mono ?_
  rintro e w4 ⟨rfl, hb4⟩
  have fa4 := keep_blk hb4 fa3
  have fb4 := keep_blk hb4 fb3
  have fc4 := keep_blk hb4 fc3
  have hB4 : Below w.heap.size w w4 := hB3.trans (hb4.mono hB3.size)
  clear hb4 hB3 fa3 fb3 fc3 A0 A1
  obtain ⟨B0, B1, -⟩ := al2 fb4 rfl
  go_wp2_with fail
  refine ((HY _)).mono ?_
  rintro e w5 ⟨rfl, hb5⟩
  have fa5 := keep_blk hb5 (keep_alloc fa4)
  have fb5 := keep_blk hb5 (keep_alloc fb4)
  have fc5 := keep_blk hb5 (keep_alloc fc4)
  have fx5 := keep_blk hb5 (heap_alloc_new _ _)
  have hB5 : Below w.heap.size w w5 := (hB4.alloc hB4.size _).trans (hb5.mono (by have := hB4.size; simp; omega))
  clear hb5 hB4 fa4 fb4 fc4 B0 B1
  obtain ⟨A0, A1, -⟩ := al2 fa5 rfl
  obtain ⟨B0, B1, -⟩ := al2 fb5 rfl
  go_wp2_with fail
  refine ((HM _)).mono ?_
  rintro e w6 ⟨rfl, hb6⟩
  have fa6 := keep_blk hb6 (keep_alloc fa5)
  have fb6 := keep_blk hb6 (keep_alloc fb5)
  have fc6 := keep_blk hb6 (keep_alloc fc5)
  have fx6 := keep_blk hb6 (keep_alloc fx5)
  have fy6 := keep_blk hb6 (heap_alloc_new _ _)
  have hB6 : Below w.heap.size w w6 := (hB5.alloc hB5.size _).trans (hb6.mono (by have := hB5.size; simp; omega))
  clear hb6 hB5 fa5 fb5 fc5 fx5 A0 A1 B0 B1
  go_wp2_with fail
  refine ((HZ _)).mono ?_
  rintro e w7 ⟨rfl, hb7⟩
  have fa7 := keep_blk hb7 (keep_alloc fa6)
  have fb7 := keep_blk hb7 (keep_alloc fb6)
  have fc7 := keep_blk hb7 (keep_alloc fc6)
  have fx7 := keep_blk hb7 (keep_alloc fx6)
  have fy7 := keep_blk hb7 (keep_alloc fy6)
  have fm7 := keep_blk hb7 (heap_alloc_new _ _)
  have hB7 : Below w.heap.size w w7 := (hB6.alloc hB6.size _).trans (hb7.mono (by have := hB6.size; simp; omega))
  clear hb7 hB6 fa6 fb6 fc6 fx6 fy6
  clear HA HB HC HX HY HM HZ fm7
  obtain ⟨A0, A1, -⟩ := al2 fa7 rfl
  go_wp2_with fail
  refine ((HS _)).mono ?_
  rintro e w8 ⟨rfl, hb8⟩
  have fa8 := keep_blk hb8 (keep_alloc fa7)
  have fb8 := keep_blk hb8 (keep_alloc fb7)
  have fc8 := keep_blk hb8 (keep_alloc fc7)
  have fx8 := keep_blk hb8 (keep_alloc fx7)
  have fy8 := keep_blk hb8 (keep_alloc fy7)
  have fz8 := keep_blk hb8 (heap_alloc_new _ _)
  have hB8 : Below w.heap.size w w8 := (hB7.alloc hB7.size _).trans (hb8.mono (by have := hB7.size; simp; omega))
  clear hb8 hB7 fa7 fb7 fc7 fx7 fy7 A0 A1
  go_wp2
  go_loop [17, 18] (fun p i => ∃ k : Nat, q ≤ k ∧ k ≤ n ∧ i = .int .i64 k ∧ p = .int .i64 (2 ^ (k - q) : Nat)) (fun _ i => n - (intOf i).toNat)
  case atStart => exact ⟨q, by omega, by omega, rfl, by simp⟩
  case round =>
  obtain ⟨k, hk1, hk2, rfl, rfl⟩ := hrel
  by_cases hlt : k < n
  · have hp := Lib.hid (pow_next k q hk1)
    have hp2 := pow_many k q (by omega)
    generalize 2 ^ (k - q) = P at *
    go_wp2
    go_round
    case rel => exact ⟨k + 1, by omega, by omega, by go_num, by rw [← hp.out]; go_num⟩
    case measure => simp [intOf]; omega
  have e : k = n := by omega
  subst e
  generalize 2 ^ (k - q) = P at *
  obtain ⟨A0, A1, -⟩ := now2 fa8 rfl
  obtain ⟨B0, B1, -⟩ := now2 fb8 rfl
  go_wp2_with fail
  refine ((HJ _)).mono ?_
  rintro e w9 ⟨rfl, hb9⟩
  have fa9 := keep_blk hb9 fa8
  have fb9 := keep_blk hb9 fb8
  have fc9 := keep_blk hb9 fc8
  have fx9 := keep_blk hb9 fx8
  have fy9 := keep_blk hb9 fy8
  have fz9 := keep_blk hb9 fz8
  have hB9 : Below w.heap.size w w9 := hB8.trans (hb9.mono hB8.size)
  clear hb9 hB8 fa8 fb8 fc8 fx8 fy8 fz8 A0 A1 B0 B1
  go_wp2
  generalize hW : w9.alloc (cb mj vj) = wj at *
  have ga := keep_alloc (x := cb mj vj) fa9
  rw [hW] at ga
  have gb := keep_alloc (x := cb mj vj) fb9
  rw [hW] at gb
  have gc := keep_alloc (x := cb mj vj) fc9
  rw [hW] at gc
  have gx := keep_alloc (x := cb mj vj) fx9
  rw [hW] at gx
  have gy := keep_alloc (x := cb mj vj) fy9
  rw [hW] at gy
  have gz := keep_alloc (x := cb mj vj) fz9
  rw [hW] at gz
  have gj := (by rw [← hW]; exact heap_alloc_new _ _ : wj.heap[w9.heap.size]? = some (cb mj vj))
  have hBj : Below w.heap.size w wj := by rw [← hW]; exact hB9.alloc hB9.size _
  clear hW hB9 fa9 fb9 fc9 fx9 fy9 fz9
  obtain ⟨A0, A1, -⟩ := box2 ga rfl
  obtain ⟨B0, B1, -⟩ := box2 gb rfl
  obtain ⟨J0, J1, -⟩ := box2 gj rfl
  obtain ⟨X0, X1, X2, X3, -⟩ := box4 gx rfl
  obtain ⟨Y0, Y1, Y2, Y3, -⟩ := box4 gy rfl
  obtain ⟨Z0, Z1, Z2, Z3, -⟩ := box4 gz rfl
  refine wp_region_after (by kernel_rfl) (by kernel_rfl) ?_
  repeat (first | go_big_quiet_step ((first | (go_at_call 18; exact Calls.after_of (HK _)) | (go_at_call 20; exact Calls.after_of (HI _)) | (go_at_call 21; exact Calls.after_of (HN _)) | (go_at_call_of 19 (Value.agg #[Value.int IntKind.u8 mj.toNat, Value.int IntKind.u8 vj.toNat]); go_at_call_of 19 (Value.agg #[Value.int IntKind.u8 ma.toNat, Value.int IntKind.u8 va.toNat]); exact Calls.after_of (HJa _)) | (go_at_call_of 19 (Value.agg #[Value.int IntKind.u8 mj.toNat, Value.int IntKind.u8 vj.toNat]); go_at_call_of 19 (Value.agg #[Value.int IntKind.u8 mb.toNat, Value.int IntKind.u8 vb.toNat]); exact Calls.after_of (HJb _)) | (go_at_call 19; exact Calls.after_of (HH _)))))
  refine wpQuiet_nil ?_
  intro x
  have hB10 : Below w.heap.size w x.1 := hBj.trans (x.2.mono hBj.size)
  have fa10 := After.same x ga
  have fb10 := After.same x gb
  have fc10 := After.same x gc
  have fj10 := After.same x gj
  generalize x.1 = w10 at *
  clear x hBj ga gb gc gx gy gz gj A0 A1 B0 B1 J0 J1 X0 X1 X2 X3 Y0 Y1 Y2 Y3 Z0 Z1 Z2 Z3 HK HI HN HH HJa HJb
  obtain ⟨A0, A1, -⟩ := now2 fa10 rfl
  obtain ⟨C0, C1, -⟩ := now2 fc10 rfl
  go_wp2_with fail
  refine ((Hca _)).mono ?_
  rintro e w11 ⟨rfl, hb11⟩
  have fa11 := keep_blk hb11 fa10
  have fb11 := keep_blk hb11 fb10
  have fc11 := keep_blk hb11 fc10
  have fj11 := keep_blk hb11 fj10
  have hB11 : Below w.heap.size w w11 := hB10.trans (hb11.mono hB10.size)
  clear hb11 hB10 fa10 fb10 fc10 fj10 A0 A1 C0 C1
  obtain ⟨B0, B1, -⟩ := now2 fb11 rfl
  obtain ⟨C0, C1, -⟩ := now2 fc11 rfl
  go_wp2_with fail
  refine ((Hcb _)).mono ?_
  rintro e w12 ⟨rfl, hb12⟩
  have fa12 := keep_blk hb12 fa11
  have fb12 := keep_blk hb12 fb11
  have fc12 := keep_blk hb12 fc11
  have fj12 := keep_blk hb12 fj11
  have hB12 : Below w.heap.size w w12 := hB11.trans (hb12.mono hB11.size)
  clear hb12 hB11 fa11 fb11 fc11 fj11 B0 B1 C0 C1
  obtain ⟨J0, J1, -⟩ := now2 fj12 rfl
  obtain ⟨C0, C1, -⟩ := now2 fc12 rfl
  go_wp2_with fail
  refine ((Hcj _)).mono ?_
  rintro e w13 ⟨rfl, hb13⟩
  have fa13 := keep_blk hb13 fa12
  have fb13 := keep_blk hb13 fb12
  have fc13 := keep_blk hb13 fc12
  have fj13 := keep_blk hb13 fj12
  have hB13 : Below w.heap.size w w13 := hB12.trans (hb13.mono hB12.size)
  clear hb13 hB12 fa12 fb12 fc12 fj12 J0 J1 C0 C1
  go_wp2_with fail
  refine ((knows2_any _)).mono ?_
  rintro e w14 ⟨rfl, hb14⟩
  have fa14 := keep_blk hb14 fa13
  have fb14 := keep_blk hb14 fb13
  have fc14 := keep_blk hb14 fc13
  have fj14 := keep_blk hb14 fj13
  have hB14 : Below w.heap.size w w14 := hB13.trans (hb14.mono hB13.size)
  clear hb14 hB13 fa13 fb13 fc13 fj13
  go_wp2
  go_ret
  exact ⟨rfl, hB14⟩
set_option maxHeartbeats 4000000 in
set_option maxRecDepth 1000000 in
theorem cubeSets_none_no (ma va mb vb mc vc : BitVec 8) (n : Nat) (ha : rightB ma va n = true) (hb : rightB mb vb n = true) (hc : rightB mc vc n = true) (hm : ¬ clashB ma va mb vb = 0) (h1 : holdsB mc vc ma va = false) (w : World) :
    Calls Try.prog 5 #[cv ma va, cv mb vb, cv mc vc, .int .i64 n] w fun e w' => e = .returned (.bool true) ∧ Below w.heap.size w w' := by
  have F := setsFacts ha hb
  have HA := fun w => rright_any ma va n w
  have HB := fun w => rright_any mb vb n w
  have HC := fun w => rright_any mc vc n w
  rw [ha] at HA
  rw [hb] at HB
  rw [hc] at HC
  have HX := fun w => cpoints_yes ha w
  have HY := fun w => cpoints_yes hb w
  have HM := fun w => meet_no ma va mb vb hm w
  have HZ := fun w => cpoints_yes (zero_right n (by omega) (by have := F.le; omega)) w
  have HN := fun w => and_any (cpts ma va n n) (cpts mb vb n n) w
  rw [F.none hm, show sv 0 = .agg #[.int .u64 0, .int .u64 0, .int .u64 0, .int .u64 0] by kernel_rfl] at HN
  rw [show cv 0 0 = .agg #[.int .u8 0, .int .u8 0] by kernel_rfl] at HM HZ
  have HS := fun w => size_any ma va w
  rw [F.size] at HS
  have HJ := fun w => join_any ma va mb vb w
  have HK := fun w => count_any (cpts ma va n n) w
  rw [F.count] at HK
  have HH := fun w => holds_any ma va mb vb w
  have HI := fun w => refwithin_any (cpts mb vb n n) (cpts ma va n n) w
  rw [F.within] at HI
  have HJa := fun w => holds_any (joinM ma va mb vb) (va &&& joinM ma va mb vb) ma va w
  rw [join_left] at HJa
  have HJb := fun w => holds_any (joinM ma va mb vb) (va &&& joinM ma va mb vb) mb vb w
  rw [join_right] at HJb
  have Hca := fun w => holds_any mc vc ma va w
  rw [h1] at Hca
  have hsz := F.small
  have hpw := F.le
  clear F ha hb hc hm h1 
  generalize szK ma n = q at *
  generalize hjv : va &&& joinM ma va mb vb = vj at *
  generalize hjm : joinM ma va mb vb = mj at *
  clear hjv hjm
  generalize holdsB ma va mb vb = H at *
  generalize cpts ma va n n = X at *
  generalize cpts mb vb n n = Y at *
  generalize cpts 0 0 n n = Z at *
  unfold cv sv bvv wv at *
  have E := eq4_refl
  go_enter Try.func5, Try.ntmps5
  go_wp2_with fail
  refine (HA _).mono ?_
  rintro e w1 ⟨rfl, hb1⟩
  have fa1 : w1.heap[w.heap.size]? = some (cb ma va) := keep_blk hb1 (heap_alloc3_a _ _ _ _)
  have fb1 : w1.heap[w.heap.size + 1]? = some (cb mb vb) := keep_blk hb1 (heap_alloc3_b _ _ _ _)
  have fc1 : w1.heap[w.heap.size + 2]? = some (cb mc vc) := keep_blk hb1 (heap_alloc3_c _ _ _ _)
  have hB1 : Below w.heap.size w w1 := (below_alloc3 w _ _ _).trans (hb1.mono (by simp; omega))
  clear hb1
  obtain ⟨B0, B1, -⟩ := now2 fb1 rfl
  go_wp2_with fail
  refine ((HB _)).mono ?_
  rintro e w2 ⟨rfl, hb2⟩
  have fa2 := keep_blk hb2 fa1
  have fb2 := keep_blk hb2 fb1
  have fc2 := keep_blk hb2 fc1
  have hB2 : Below w.heap.size w w2 := hB1.trans (hb2.mono hB1.size)
  clear hb2 hB1 fa1 fb1 fc1 B0 B1
  obtain ⟨C0, C1, -⟩ := now2 fc2 rfl
  go_wp2_with fail
  refine ((HC _)).mono ?_
  rintro e w3 ⟨rfl, hb3⟩
  have fa3 := keep_blk hb3 fa2
  have fb3 := keep_blk hb3 fb2
  have fc3 := keep_blk hb3 fc2
  have hB3 : Below w.heap.size w w3 := hB2.trans (hb3.mono hB2.size)
  clear hb3 hB2 fa2 fb2 fc2 C0 C1
  obtain ⟨A0, A1, -⟩ := now2 fa3 rfl
  go_wp2_with fail
  refine ((HX _)).mono ?_
  rintro e w4 ⟨rfl, hb4⟩
  have fa4 := keep_blk hb4 fa3
  have fb4 := keep_blk hb4 fb3
  have fc4 := keep_blk hb4 fc3
  have hB4 : Below w.heap.size w w4 := hB3.trans (hb4.mono hB3.size)
  clear hb4 hB3 fa3 fb3 fc3 A0 A1
  obtain ⟨B0, B1, -⟩ := al2 fb4 rfl
  go_wp2_with fail
  refine ((HY _)).mono ?_
  rintro e w5 ⟨rfl, hb5⟩
  have fa5 := keep_blk hb5 (keep_alloc fa4)
  have fb5 := keep_blk hb5 (keep_alloc fb4)
  have fc5 := keep_blk hb5 (keep_alloc fc4)
  have fx5 := keep_blk hb5 (heap_alloc_new _ _)
  have hB5 : Below w.heap.size w w5 := (hB4.alloc hB4.size _).trans (hb5.mono (by have := hB4.size; simp; omega))
  clear hb5 hB4 fa4 fb4 fc4 B0 B1
  obtain ⟨A0, A1, -⟩ := al2 fa5 rfl
  obtain ⟨B0, B1, -⟩ := al2 fb5 rfl
  go_wp2_with fail
  refine ((HM _)).mono ?_
  rintro e w6 ⟨rfl, hb6⟩
  have fa6 := keep_blk hb6 (keep_alloc fa5)
  have fb6 := keep_blk hb6 (keep_alloc fb5)
  have fc6 := keep_blk hb6 (keep_alloc fc5)
  have fx6 := keep_blk hb6 (keep_alloc fx5)
  have fy6 := keep_blk hb6 (heap_alloc_new _ _)
  have hB6 : Below w.heap.size w w6 := (hB5.alloc hB5.size _).trans (hb6.mono (by have := hB5.size; simp; omega))
  clear hb6 hB5 fa5 fb5 fc5 fx5 A0 A1 B0 B1
  go_wp2_with fail
  refine ((HZ _)).mono ?_
  rintro e w7 ⟨rfl, hb7⟩
  have fa7 := keep_blk hb7 (keep_alloc fa6)
  have fb7 := keep_blk hb7 (keep_alloc fb6)
  have fc7 := keep_blk hb7 (keep_alloc fc6)
  have fx7 := keep_blk hb7 (keep_alloc fx6)
  have fy7 := keep_blk hb7 (keep_alloc fy6)
  have fm7 := keep_blk hb7 (heap_alloc_new _ _)
  have hB7 : Below w.heap.size w w7 := (hB6.alloc hB6.size _).trans (hb7.mono (by have := hB6.size; simp; omega))
  clear hb7 hB6 fa6 fb6 fc6 fx6 fy6
  clear HA HB HC HX HY HM HZ fm7
  obtain ⟨A0, A1, -⟩ := al2 fa7 rfl
  go_wp2_with fail
  refine ((HS _)).mono ?_
  rintro e w8 ⟨rfl, hb8⟩
  have fa8 := keep_blk hb8 (keep_alloc fa7)
  have fb8 := keep_blk hb8 (keep_alloc fb7)
  have fc8 := keep_blk hb8 (keep_alloc fc7)
  have fx8 := keep_blk hb8 (keep_alloc fx7)
  have fy8 := keep_blk hb8 (keep_alloc fy7)
  have fz8 := keep_blk hb8 (heap_alloc_new _ _)
  have hB8 : Below w.heap.size w w8 := (hB7.alloc hB7.size _).trans (hb8.mono (by have := hB7.size; simp; omega))
  clear hb8 hB7 fa7 fb7 fc7 fx7 fy7 A0 A1
  go_wp2
  go_loop [17, 18] (fun p i => ∃ k : Nat, q ≤ k ∧ k ≤ n ∧ i = .int .i64 k ∧ p = .int .i64 (2 ^ (k - q) : Nat)) (fun _ i => n - (intOf i).toNat)
  case atStart => exact ⟨q, by omega, by omega, rfl, by simp⟩
  case round =>
  obtain ⟨k, hk1, hk2, rfl, rfl⟩ := hrel
  by_cases hlt : k < n
  · have hp := Lib.hid (pow_next k q hk1)
    have hp2 := pow_many k q (by omega)
    generalize 2 ^ (k - q) = P at *
    go_wp2
    go_round
    case rel => exact ⟨k + 1, by omega, by omega, by go_num, by rw [← hp.out]; go_num⟩
    case measure => simp [intOf]; omega
  have e : k = n := by omega
  subst e
  generalize 2 ^ (k - q) = P at *
  obtain ⟨A0, A1, -⟩ := now2 fa8 rfl
  obtain ⟨B0, B1, -⟩ := now2 fb8 rfl
  go_wp2_with fail
  refine ((HJ _)).mono ?_
  rintro e w9 ⟨rfl, hb9⟩
  have fa9 := keep_blk hb9 fa8
  have fb9 := keep_blk hb9 fb8
  have fc9 := keep_blk hb9 fc8
  have fx9 := keep_blk hb9 fx8
  have fy9 := keep_blk hb9 fy8
  have fz9 := keep_blk hb9 fz8
  have hB9 : Below w.heap.size w w9 := hB8.trans (hb9.mono hB8.size)
  clear hb9 hB8 fa8 fb8 fc8 fx8 fy8 fz8 A0 A1 B0 B1
  go_wp2
  generalize hW : w9.alloc (cb mj vj) = wj at *
  have ga := keep_alloc (x := cb mj vj) fa9
  rw [hW] at ga
  have gb := keep_alloc (x := cb mj vj) fb9
  rw [hW] at gb
  have gc := keep_alloc (x := cb mj vj) fc9
  rw [hW] at gc
  have gx := keep_alloc (x := cb mj vj) fx9
  rw [hW] at gx
  have gy := keep_alloc (x := cb mj vj) fy9
  rw [hW] at gy
  have gz := keep_alloc (x := cb mj vj) fz9
  rw [hW] at gz
  have gj := (by rw [← hW]; exact heap_alloc_new _ _ : wj.heap[w9.heap.size]? = some (cb mj vj))
  have hBj : Below w.heap.size w wj := by rw [← hW]; exact hB9.alloc hB9.size _
  clear hW hB9 fa9 fb9 fc9 fx9 fy9 fz9
  obtain ⟨A0, A1, -⟩ := box2 ga rfl
  obtain ⟨B0, B1, -⟩ := box2 gb rfl
  obtain ⟨J0, J1, -⟩ := box2 gj rfl
  obtain ⟨X0, X1, X2, X3, -⟩ := box4 gx rfl
  obtain ⟨Y0, Y1, Y2, Y3, -⟩ := box4 gy rfl
  obtain ⟨Z0, Z1, Z2, Z3, -⟩ := box4 gz rfl
  refine wp_region_after (by kernel_rfl) (by kernel_rfl) ?_
  repeat (first | go_big_quiet_step ((first | (go_at_call 18; exact Calls.after_of (HK _)) | (go_at_call 20; exact Calls.after_of (HI _)) | (go_at_call 21; exact Calls.after_of (HN _)) | (go_at_call_of 19 (Value.agg #[Value.int IntKind.u8 mj.toNat, Value.int IntKind.u8 vj.toNat]); go_at_call_of 19 (Value.agg #[Value.int IntKind.u8 ma.toNat, Value.int IntKind.u8 va.toNat]); exact Calls.after_of (HJa _)) | (go_at_call_of 19 (Value.agg #[Value.int IntKind.u8 mj.toNat, Value.int IntKind.u8 vj.toNat]); go_at_call_of 19 (Value.agg #[Value.int IntKind.u8 mb.toNat, Value.int IntKind.u8 vb.toNat]); exact Calls.after_of (HJb _)) | (go_at_call 19; exact Calls.after_of (HH _)))))
  refine wpQuiet_nil ?_
  intro x
  have hB10 : Below w.heap.size w x.1 := hBj.trans (x.2.mono hBj.size)
  have fa10 := After.same x ga
  have fb10 := After.same x gb
  have fc10 := After.same x gc
  have fj10 := After.same x gj
  generalize x.1 = w10 at *
  clear x hBj ga gb gc gx gy gz gj A0 A1 B0 B1 J0 J1 X0 X1 X2 X3 Y0 Y1 Y2 Y3 Z0 Z1 Z2 Z3 HK HI HN HH HJa HJb
  obtain ⟨A0, A1, -⟩ := now2 fa10 rfl
  obtain ⟨C0, C1, -⟩ := now2 fc10 rfl
  go_wp2_with fail
  refine ((Hca _)).mono ?_
  rintro e w11 ⟨rfl, hb11⟩
  have fa11 := keep_blk hb11 fa10
  have fb11 := keep_blk hb11 fb10
  have fc11 := keep_blk hb11 fc10
  have fj11 := keep_blk hb11 fj10
  have hB11 : Below w.heap.size w w11 := hB10.trans (hb11.mono hB10.size)
  clear hb11 hB10 fa10 fb10 fc10 fj10 A0 A1 C0 C1
  go_wp2_with fail
  refine ((knows2_any _)).mono ?_
  rintro e w12 ⟨rfl, hb12⟩
  have fa12 := keep_blk hb12 fa11
  have fb12 := keep_blk hb12 fb11
  have fc12 := keep_blk hb12 fc11
  have fj12 := keep_blk hb12 fj11
  have hB12 : Below w.heap.size w w12 := hB11.trans (hb12.mono hB11.size)
  clear hb12 hB11 fa11 fb11 fc11 fj11
  go_wp2
  go_ret
  exact ⟨rfl, hB12⟩
set_option maxHeartbeats 4000000 in
set_option maxRecDepth 1000000 in
theorem cubeSets_none_left (ma va mb vb mc vc : BitVec 8) (n : Nat) (ha : rightB ma va n = true) (hb : rightB mb vb n = true) (hc : rightB mc vc n = true) (hm : ¬ clashB ma va mb vb = 0) (h1 : holdsB mc vc ma va = true) (h2 : holdsB mc vc mb vb = false) (w : World) :
    Calls Try.prog 5 #[cv ma va, cv mb vb, cv mc vc, .int .i64 n] w fun e w' => e = .returned (.bool true) ∧ Below w.heap.size w w' := by
  have F := setsFacts ha hb
  have HA := fun w => rright_any ma va n w
  have HB := fun w => rright_any mb vb n w
  have HC := fun w => rright_any mc vc n w
  rw [ha] at HA
  rw [hb] at HB
  rw [hc] at HC
  have HX := fun w => cpoints_yes ha w
  have HY := fun w => cpoints_yes hb w
  have HM := fun w => meet_no ma va mb vb hm w
  have HZ := fun w => cpoints_yes (zero_right n (by omega) (by have := F.le; omega)) w
  have HN := fun w => and_any (cpts ma va n n) (cpts mb vb n n) w
  rw [F.none hm, show sv 0 = .agg #[.int .u64 0, .int .u64 0, .int .u64 0, .int .u64 0] by kernel_rfl] at HN
  rw [show cv 0 0 = .agg #[.int .u8 0, .int .u8 0] by kernel_rfl] at HM HZ
  have HS := fun w => size_any ma va w
  rw [F.size] at HS
  have HJ := fun w => join_any ma va mb vb w
  have HK := fun w => count_any (cpts ma va n n) w
  rw [F.count] at HK
  have HH := fun w => holds_any ma va mb vb w
  have HI := fun w => refwithin_any (cpts mb vb n n) (cpts ma va n n) w
  rw [F.within] at HI
  have HJa := fun w => holds_any (joinM ma va mb vb) (va &&& joinM ma va mb vb) ma va w
  rw [join_left] at HJa
  have HJb := fun w => holds_any (joinM ma va mb vb) (va &&& joinM ma va mb vb) mb vb w
  rw [join_right] at HJb
  have Hca := fun w => holds_any mc vc ma va w
  rw [h1] at Hca
  have Hcb := fun w => holds_any mc vc mb vb w
  rw [h2] at Hcb
  have hsz := F.small
  have hpw := F.le
  clear F ha hb hc hm h1 h2
  generalize szK ma n = q at *
  generalize hjv : va &&& joinM ma va mb vb = vj at *
  generalize hjm : joinM ma va mb vb = mj at *
  clear hjv hjm
  generalize holdsB ma va mb vb = H at *
  generalize cpts ma va n n = X at *
  generalize cpts mb vb n n = Y at *
  generalize cpts 0 0 n n = Z at *
  unfold cv sv bvv wv at *
  have E := eq4_refl
  go_enter Try.func5, Try.ntmps5
  go_wp2_with fail
  refine (HA _).mono ?_
  rintro e w1 ⟨rfl, hb1⟩
  have fa1 : w1.heap[w.heap.size]? = some (cb ma va) := keep_blk hb1 (heap_alloc3_a _ _ _ _)
  have fb1 : w1.heap[w.heap.size + 1]? = some (cb mb vb) := keep_blk hb1 (heap_alloc3_b _ _ _ _)
  have fc1 : w1.heap[w.heap.size + 2]? = some (cb mc vc) := keep_blk hb1 (heap_alloc3_c _ _ _ _)
  have hB1 : Below w.heap.size w w1 := (below_alloc3 w _ _ _).trans (hb1.mono (by simp; omega))
  clear hb1
  obtain ⟨B0, B1, -⟩ := now2 fb1 rfl
  go_wp2_with fail
  refine ((HB _)).mono ?_
  rintro e w2 ⟨rfl, hb2⟩
  have fa2 := keep_blk hb2 fa1
  have fb2 := keep_blk hb2 fb1
  have fc2 := keep_blk hb2 fc1
  have hB2 : Below w.heap.size w w2 := hB1.trans (hb2.mono hB1.size)
  clear hb2 hB1 fa1 fb1 fc1 B0 B1
  obtain ⟨C0, C1, -⟩ := now2 fc2 rfl
  go_wp2_with fail
  refine ((HC _)).mono ?_
  rintro e w3 ⟨rfl, hb3⟩
  have fa3 := keep_blk hb3 fa2
  have fb3 := keep_blk hb3 fb2
  have fc3 := keep_blk hb3 fc2
  have hB3 : Below w.heap.size w w3 := hB2.trans (hb3.mono hB2.size)
  clear hb3 hB2 fa2 fb2 fc2 C0 C1
  obtain ⟨A0, A1, -⟩ := now2 fa3 rfl
  go_wp2_with fail
  refine ((HX _)).mono ?_
  rintro e w4 ⟨rfl, hb4⟩
  have fa4 := keep_blk hb4 fa3
  have fb4 := keep_blk hb4 fb3
  have fc4 := keep_blk hb4 fc3
  have hB4 : Below w.heap.size w w4 := hB3.trans (hb4.mono hB3.size)
  clear hb4 hB3 fa3 fb3 fc3 A0 A1
  obtain ⟨B0, B1, -⟩ := al2 fb4 rfl
  go_wp2_with fail
  refine ((HY _)).mono ?_
  rintro e w5 ⟨rfl, hb5⟩
  have fa5 := keep_blk hb5 (keep_alloc fa4)
  have fb5 := keep_blk hb5 (keep_alloc fb4)
  have fc5 := keep_blk hb5 (keep_alloc fc4)
  have fx5 := keep_blk hb5 (heap_alloc_new _ _)
  have hB5 : Below w.heap.size w w5 := (hB4.alloc hB4.size _).trans (hb5.mono (by have := hB4.size; simp; omega))
  clear hb5 hB4 fa4 fb4 fc4 B0 B1
  obtain ⟨A0, A1, -⟩ := al2 fa5 rfl
  obtain ⟨B0, B1, -⟩ := al2 fb5 rfl
  go_wp2_with fail
  refine ((HM _)).mono ?_
  rintro e w6 ⟨rfl, hb6⟩
  have fa6 := keep_blk hb6 (keep_alloc fa5)
  have fb6 := keep_blk hb6 (keep_alloc fb5)
  have fc6 := keep_blk hb6 (keep_alloc fc5)
  have fx6 := keep_blk hb6 (keep_alloc fx5)
  have fy6 := keep_blk hb6 (heap_alloc_new _ _)
  have hB6 : Below w.heap.size w w6 := (hB5.alloc hB5.size _).trans (hb6.mono (by have := hB5.size; simp; omega))
  clear hb6 hB5 fa5 fb5 fc5 fx5 A0 A1 B0 B1
  go_wp2_with fail
  refine ((HZ _)).mono ?_
  rintro e w7 ⟨rfl, hb7⟩
  have fa7 := keep_blk hb7 (keep_alloc fa6)
  have fb7 := keep_blk hb7 (keep_alloc fb6)
  have fc7 := keep_blk hb7 (keep_alloc fc6)
  have fx7 := keep_blk hb7 (keep_alloc fx6)
  have fy7 := keep_blk hb7 (keep_alloc fy6)
  have fm7 := keep_blk hb7 (heap_alloc_new _ _)
  have hB7 : Below w.heap.size w w7 := (hB6.alloc hB6.size _).trans (hb7.mono (by have := hB6.size; simp; omega))
  clear hb7 hB6 fa6 fb6 fc6 fx6 fy6
  clear HA HB HC HX HY HM HZ fm7
  obtain ⟨A0, A1, -⟩ := al2 fa7 rfl
  go_wp2_with fail
  refine ((HS _)).mono ?_
  rintro e w8 ⟨rfl, hb8⟩
  have fa8 := keep_blk hb8 (keep_alloc fa7)
  have fb8 := keep_blk hb8 (keep_alloc fb7)
  have fc8 := keep_blk hb8 (keep_alloc fc7)
  have fx8 := keep_blk hb8 (keep_alloc fx7)
  have fy8 := keep_blk hb8 (keep_alloc fy7)
  have fz8 := keep_blk hb8 (heap_alloc_new _ _)
  have hB8 : Below w.heap.size w w8 := (hB7.alloc hB7.size _).trans (hb8.mono (by have := hB7.size; simp; omega))
  clear hb8 hB7 fa7 fb7 fc7 fx7 fy7 A0 A1
  go_wp2
  go_loop [17, 18] (fun p i => ∃ k : Nat, q ≤ k ∧ k ≤ n ∧ i = .int .i64 k ∧ p = .int .i64 (2 ^ (k - q) : Nat)) (fun _ i => n - (intOf i).toNat)
  case atStart => exact ⟨q, by omega, by omega, rfl, by simp⟩
  case round =>
  obtain ⟨k, hk1, hk2, rfl, rfl⟩ := hrel
  by_cases hlt : k < n
  · have hp := Lib.hid (pow_next k q hk1)
    have hp2 := pow_many k q (by omega)
    generalize 2 ^ (k - q) = P at *
    go_wp2
    go_round
    case rel => exact ⟨k + 1, by omega, by omega, by go_num, by rw [← hp.out]; go_num⟩
    case measure => simp [intOf]; omega
  have e : k = n := by omega
  subst e
  generalize 2 ^ (k - q) = P at *
  obtain ⟨A0, A1, -⟩ := now2 fa8 rfl
  obtain ⟨B0, B1, -⟩ := now2 fb8 rfl
  go_wp2_with fail
  refine ((HJ _)).mono ?_
  rintro e w9 ⟨rfl, hb9⟩
  have fa9 := keep_blk hb9 fa8
  have fb9 := keep_blk hb9 fb8
  have fc9 := keep_blk hb9 fc8
  have fx9 := keep_blk hb9 fx8
  have fy9 := keep_blk hb9 fy8
  have fz9 := keep_blk hb9 fz8
  have hB9 : Below w.heap.size w w9 := hB8.trans (hb9.mono hB8.size)
  clear hb9 hB8 fa8 fb8 fc8 fx8 fy8 fz8 A0 A1 B0 B1
  go_wp2
  generalize hW : w9.alloc (cb mj vj) = wj at *
  have ga := keep_alloc (x := cb mj vj) fa9
  rw [hW] at ga
  have gb := keep_alloc (x := cb mj vj) fb9
  rw [hW] at gb
  have gc := keep_alloc (x := cb mj vj) fc9
  rw [hW] at gc
  have gx := keep_alloc (x := cb mj vj) fx9
  rw [hW] at gx
  have gy := keep_alloc (x := cb mj vj) fy9
  rw [hW] at gy
  have gz := keep_alloc (x := cb mj vj) fz9
  rw [hW] at gz
  have gj := (by rw [← hW]; exact heap_alloc_new _ _ : wj.heap[w9.heap.size]? = some (cb mj vj))
  have hBj : Below w.heap.size w wj := by rw [← hW]; exact hB9.alloc hB9.size _
  clear hW hB9 fa9 fb9 fc9 fx9 fy9 fz9
  obtain ⟨A0, A1, -⟩ := box2 ga rfl
  obtain ⟨B0, B1, -⟩ := box2 gb rfl
  obtain ⟨J0, J1, -⟩ := box2 gj rfl
  obtain ⟨X0, X1, X2, X3, -⟩ := box4 gx rfl
  obtain ⟨Y0, Y1, Y2, Y3, -⟩ := box4 gy rfl
  obtain ⟨Z0, Z1, Z2, Z3, -⟩ := box4 gz rfl
  refine wp_region_after (by kernel_rfl) (by kernel_rfl) ?_
  repeat (first | go_big_quiet_step ((first | (go_at_call 18; exact Calls.after_of (HK _)) | (go_at_call 20; exact Calls.after_of (HI _)) | (go_at_call 21; exact Calls.after_of (HN _)) | (go_at_call_of 19 (Value.agg #[Value.int IntKind.u8 mj.toNat, Value.int IntKind.u8 vj.toNat]); go_at_call_of 19 (Value.agg #[Value.int IntKind.u8 ma.toNat, Value.int IntKind.u8 va.toNat]); exact Calls.after_of (HJa _)) | (go_at_call_of 19 (Value.agg #[Value.int IntKind.u8 mj.toNat, Value.int IntKind.u8 vj.toNat]); go_at_call_of 19 (Value.agg #[Value.int IntKind.u8 mb.toNat, Value.int IntKind.u8 vb.toNat]); exact Calls.after_of (HJb _)) | (go_at_call 19; exact Calls.after_of (HH _)))))
  refine wpQuiet_nil ?_
  intro x
  have hB10 : Below w.heap.size w x.1 := hBj.trans (x.2.mono hBj.size)
  have fa10 := After.same x ga
  have fb10 := After.same x gb
  have fc10 := After.same x gc
  have fj10 := After.same x gj
  generalize x.1 = w10 at *
  clear x hBj ga gb gc gx gy gz gj A0 A1 B0 B1 J0 J1 X0 X1 X2 X3 Y0 Y1 Y2 Y3 Z0 Z1 Z2 Z3 HK HI HN HH HJa HJb
  obtain ⟨A0, A1, -⟩ := now2 fa10 rfl
  obtain ⟨C0, C1, -⟩ := now2 fc10 rfl
  go_wp2_with fail
  refine ((Hca _)).mono ?_
  rintro e w11 ⟨rfl, hb11⟩
  have fa11 := keep_blk hb11 fa10
  have fb11 := keep_blk hb11 fb10
  have fc11 := keep_blk hb11 fc10
  have fj11 := keep_blk hb11 fj10
  have hB11 : Below w.heap.size w w11 := hB10.trans (hb11.mono hB10.size)
  clear hb11 hB10 fa10 fb10 fc10 fj10 A0 A1 C0 C1
  obtain ⟨B0, B1, -⟩ := now2 fb11 rfl
  obtain ⟨C0, C1, -⟩ := now2 fc11 rfl
  go_wp2_with fail
  refine ((Hcb _)).mono ?_
  rintro e w12 ⟨rfl, hb12⟩
  have fa12 := keep_blk hb12 fa11
  have fb12 := keep_blk hb12 fb11
  have fc12 := keep_blk hb12 fc11
  have fj12 := keep_blk hb12 fj11
  have hB12 : Below w.heap.size w w12 := hB11.trans (hb12.mono hB11.size)
  clear hb12 hB11 fa11 fb11 fc11 fj11 B0 B1 C0 C1
  go_wp2_with fail
  refine ((knows2_any _)).mono ?_
  rintro e w13 ⟨rfl, hb13⟩
  have fa13 := keep_blk hb13 fa12
  have fb13 := keep_blk hb13 fb12
  have fc13 := keep_blk hb13 fc12
  have fj13 := keep_blk hb13 fj12
  have hB13 : Below w.heap.size w w13 := hB12.trans (hb13.mono hB12.size)
  clear hb13 hB12 fa12 fb12 fc12 fj12
  go_wp2
  go_ret
  exact ⟨rfl, hB13⟩
set_option maxHeartbeats 4000000 in
set_option maxRecDepth 1000000 in
theorem cubeSets_none_both (ma va mb vb mc vc : BitVec 8) (n : Nat) (ha : rightB ma va n = true) (hb : rightB mb vb n = true) (hc : rightB mc vc n = true) (hm : ¬ clashB ma va mb vb = 0) (h1 : holdsB mc vc ma va = true) (h2 : holdsB mc vc mb vb = true) (w : World) :
    Calls Try.prog 5 #[cv ma va, cv mb vb, cv mc vc, .int .i64 n] w fun e w' => e = .returned (.bool true) ∧ Below w.heap.size w w' := by
  have F := setsFacts ha hb
  have HA := fun w => rright_any ma va n w
  have HB := fun w => rright_any mb vb n w
  have HC := fun w => rright_any mc vc n w
  rw [ha] at HA
  rw [hb] at HB
  rw [hc] at HC
  have HX := fun w => cpoints_yes ha w
  have HY := fun w => cpoints_yes hb w
  have HM := fun w => meet_no ma va mb vb hm w
  have HZ := fun w => cpoints_yes (zero_right n (by omega) (by have := F.le; omega)) w
  have HN := fun w => and_any (cpts ma va n n) (cpts mb vb n n) w
  rw [F.none hm, show sv 0 = .agg #[.int .u64 0, .int .u64 0, .int .u64 0, .int .u64 0] by kernel_rfl] at HN
  rw [show cv 0 0 = .agg #[.int .u8 0, .int .u8 0] by kernel_rfl] at HM HZ
  have HS := fun w => size_any ma va w
  rw [F.size] at HS
  have HJ := fun w => join_any ma va mb vb w
  have HK := fun w => count_any (cpts ma va n n) w
  rw [F.count] at HK
  have HH := fun w => holds_any ma va mb vb w
  have HI := fun w => refwithin_any (cpts mb vb n n) (cpts ma va n n) w
  rw [F.within] at HI
  have HJa := fun w => holds_any (joinM ma va mb vb) (va &&& joinM ma va mb vb) ma va w
  rw [join_left] at HJa
  have HJb := fun w => holds_any (joinM ma va mb vb) (va &&& joinM ma va mb vb) mb vb w
  rw [join_right] at HJb
  have Hca := fun w => holds_any mc vc ma va w
  rw [h1] at Hca
  have Hcb := fun w => holds_any mc vc mb vb w
  rw [h2] at Hcb
  have Hcj := fun w => holds_any mc vc (joinM ma va mb vb) (va &&& joinM ma va mb vb) w
  rw [join_least ma va mb vb mc vc h1 h2] at Hcj
  have hsz := F.small
  have hpw := F.le
  clear F ha hb hc hm h1 h2
  generalize szK ma n = q at *
  generalize hjv : va &&& joinM ma va mb vb = vj at *
  generalize hjm : joinM ma va mb vb = mj at *
  clear hjv hjm
  generalize holdsB ma va mb vb = H at *
  generalize cpts ma va n n = X at *
  generalize cpts mb vb n n = Y at *
  generalize cpts 0 0 n n = Z at *
  unfold cv sv bvv wv at *
  have E := eq4_refl
  go_enter Try.func5, Try.ntmps5
  go_wp2_with fail
  refine (HA _).mono ?_
  rintro e w1 ⟨rfl, hb1⟩
  have fa1 : w1.heap[w.heap.size]? = some (cb ma va) := keep_blk hb1 (heap_alloc3_a _ _ _ _)
  have fb1 : w1.heap[w.heap.size + 1]? = some (cb mb vb) := keep_blk hb1 (heap_alloc3_b _ _ _ _)
  have fc1 : w1.heap[w.heap.size + 2]? = some (cb mc vc) := keep_blk hb1 (heap_alloc3_c _ _ _ _)
  have hB1 : Below w.heap.size w w1 := (below_alloc3 w _ _ _).trans (hb1.mono (by simp; omega))
  clear hb1
  obtain ⟨B0, B1, -⟩ := now2 fb1 rfl
  go_wp2_with fail
  refine ((HB _)).mono ?_
  rintro e w2 ⟨rfl, hb2⟩
  have fa2 := keep_blk hb2 fa1
  have fb2 := keep_blk hb2 fb1
  have fc2 := keep_blk hb2 fc1
  have hB2 : Below w.heap.size w w2 := hB1.trans (hb2.mono hB1.size)
  clear hb2 hB1 fa1 fb1 fc1 B0 B1
  obtain ⟨C0, C1, -⟩ := now2 fc2 rfl
  go_wp2_with fail
  refine ((HC _)).mono ?_
  rintro e w3 ⟨rfl, hb3⟩
  have fa3 := keep_blk hb3 fa2
  have fb3 := keep_blk hb3 fb2
  have fc3 := keep_blk hb3 fc2
  have hB3 : Below w.heap.size w w3 := hB2.trans (hb3.mono hB2.size)
  clear hb3 hB2 fa2 fb2 fc2 C0 C1
  obtain ⟨A0, A1, -⟩ := now2 fa3 rfl
  go_wp2_with fail
  refine ((HX _)).mono ?_
  rintro e w4 ⟨rfl, hb4⟩
  have fa4 := keep_blk hb4 fa3
  have fb4 := keep_blk hb4 fb3
  have fc4 := keep_blk hb4 fc3
  have hB4 : Below w.heap.size w w4 := hB3.trans (hb4.mono hB3.size)
  clear hb4 hB3 fa3 fb3 fc3 A0 A1
  obtain ⟨B0, B1, -⟩ := al2 fb4 rfl
  go_wp2_with fail
  refine ((HY _)).mono ?_
  rintro e w5 ⟨rfl, hb5⟩
  have fa5 := keep_blk hb5 (keep_alloc fa4)
  have fb5 := keep_blk hb5 (keep_alloc fb4)
  have fc5 := keep_blk hb5 (keep_alloc fc4)
  have fx5 := keep_blk hb5 (heap_alloc_new _ _)
  have hB5 : Below w.heap.size w w5 := (hB4.alloc hB4.size _).trans (hb5.mono (by have := hB4.size; simp; omega))
  clear hb5 hB4 fa4 fb4 fc4 B0 B1
  obtain ⟨A0, A1, -⟩ := al2 fa5 rfl
  obtain ⟨B0, B1, -⟩ := al2 fb5 rfl
  go_wp2_with fail
  refine ((HM _)).mono ?_
  rintro e w6 ⟨rfl, hb6⟩
  have fa6 := keep_blk hb6 (keep_alloc fa5)
  have fb6 := keep_blk hb6 (keep_alloc fb5)
  have fc6 := keep_blk hb6 (keep_alloc fc5)
  have fx6 := keep_blk hb6 (keep_alloc fx5)
  have fy6 := keep_blk hb6 (heap_alloc_new _ _)
  have hB6 : Below w.heap.size w w6 := (hB5.alloc hB5.size _).trans (hb6.mono (by have := hB5.size; simp; omega))
  clear hb6 hB5 fa5 fb5 fc5 fx5 A0 A1 B0 B1
  go_wp2_with fail
  refine ((HZ _)).mono ?_
  rintro e w7 ⟨rfl, hb7⟩
  have fa7 := keep_blk hb7 (keep_alloc fa6)
  have fb7 := keep_blk hb7 (keep_alloc fb6)
  have fc7 := keep_blk hb7 (keep_alloc fc6)
  have fx7 := keep_blk hb7 (keep_alloc fx6)
  have fy7 := keep_blk hb7 (keep_alloc fy6)
  have fm7 := keep_blk hb7 (heap_alloc_new _ _)
  have hB7 : Below w.heap.size w w7 := (hB6.alloc hB6.size _).trans (hb7.mono (by have := hB6.size; simp; omega))
  clear hb7 hB6 fa6 fb6 fc6 fx6 fy6
  clear HA HB HC HX HY HM HZ fm7
  obtain ⟨A0, A1, -⟩ := al2 fa7 rfl
  go_wp2_with fail
  refine ((HS _)).mono ?_
  rintro e w8 ⟨rfl, hb8⟩
  have fa8 := keep_blk hb8 (keep_alloc fa7)
  have fb8 := keep_blk hb8 (keep_alloc fb7)
  have fc8 := keep_blk hb8 (keep_alloc fc7)
  have fx8 := keep_blk hb8 (keep_alloc fx7)
  have fy8 := keep_blk hb8 (keep_alloc fy7)
  have fz8 := keep_blk hb8 (heap_alloc_new _ _)
  have hB8 : Below w.heap.size w w8 := (hB7.alloc hB7.size _).trans (hb8.mono (by have := hB7.size; simp; omega))
  clear hb8 hB7 fa7 fb7 fc7 fx7 fy7 A0 A1
  go_wp2
  go_loop [17, 18] (fun p i => ∃ k : Nat, q ≤ k ∧ k ≤ n ∧ i = .int .i64 k ∧ p = .int .i64 (2 ^ (k - q) : Nat)) (fun _ i => n - (intOf i).toNat)
  case atStart => exact ⟨q, by omega, by omega, rfl, by simp⟩
  case round =>
  obtain ⟨k, hk1, hk2, rfl, rfl⟩ := hrel
  by_cases hlt : k < n
  · have hp := Lib.hid (pow_next k q hk1)
    have hp2 := pow_many k q (by omega)
    generalize 2 ^ (k - q) = P at *
    go_wp2
    go_round
    case rel => exact ⟨k + 1, by omega, by omega, by go_num, by rw [← hp.out]; go_num⟩
    case measure => simp [intOf]; omega
  have e : k = n := by omega
  subst e
  generalize 2 ^ (k - q) = P at *
  obtain ⟨A0, A1, -⟩ := now2 fa8 rfl
  obtain ⟨B0, B1, -⟩ := now2 fb8 rfl
  go_wp2_with fail
  refine ((HJ _)).mono ?_
  rintro e w9 ⟨rfl, hb9⟩
  have fa9 := keep_blk hb9 fa8
  have fb9 := keep_blk hb9 fb8
  have fc9 := keep_blk hb9 fc8
  have fx9 := keep_blk hb9 fx8
  have fy9 := keep_blk hb9 fy8
  have fz9 := keep_blk hb9 fz8
  have hB9 : Below w.heap.size w w9 := hB8.trans (hb9.mono hB8.size)
  clear hb9 hB8 fa8 fb8 fc8 fx8 fy8 fz8 A0 A1 B0 B1
  go_wp2
  generalize hW : w9.alloc (cb mj vj) = wj at *
  have ga := keep_alloc (x := cb mj vj) fa9
  rw [hW] at ga
  have gb := keep_alloc (x := cb mj vj) fb9
  rw [hW] at gb
  have gc := keep_alloc (x := cb mj vj) fc9
  rw [hW] at gc
  have gx := keep_alloc (x := cb mj vj) fx9
  rw [hW] at gx
  have gy := keep_alloc (x := cb mj vj) fy9
  rw [hW] at gy
  have gz := keep_alloc (x := cb mj vj) fz9
  rw [hW] at gz
  have gj := (by rw [← hW]; exact heap_alloc_new _ _ : wj.heap[w9.heap.size]? = some (cb mj vj))
  have hBj : Below w.heap.size w wj := by rw [← hW]; exact hB9.alloc hB9.size _
  clear hW hB9 fa9 fb9 fc9 fx9 fy9 fz9
  obtain ⟨A0, A1, -⟩ := box2 ga rfl
  obtain ⟨B0, B1, -⟩ := box2 gb rfl
  obtain ⟨J0, J1, -⟩ := box2 gj rfl
  obtain ⟨X0, X1, X2, X3, -⟩ := box4 gx rfl
  obtain ⟨Y0, Y1, Y2, Y3, -⟩ := box4 gy rfl
  obtain ⟨Z0, Z1, Z2, Z3, -⟩ := box4 gz rfl
  refine wp_region_after (by kernel_rfl) (by kernel_rfl) ?_
  repeat (first | go_big_quiet_step ((first | (go_at_call 18; exact Calls.after_of (HK _)) | (go_at_call 20; exact Calls.after_of (HI _)) | (go_at_call 21; exact Calls.after_of (HN _)) | (go_at_call_of 19 (Value.agg #[Value.int IntKind.u8 mj.toNat, Value.int IntKind.u8 vj.toNat]); go_at_call_of 19 (Value.agg #[Value.int IntKind.u8 ma.toNat, Value.int IntKind.u8 va.toNat]); exact Calls.after_of (HJa _)) | (go_at_call_of 19 (Value.agg #[Value.int IntKind.u8 mj.toNat, Value.int IntKind.u8 vj.toNat]); go_at_call_of 19 (Value.agg #[Value.int IntKind.u8 mb.toNat, Value.int IntKind.u8 vb.toNat]); exact Calls.after_of (HJb _)) | (go_at_call 19; exact Calls.after_of (HH _)))))
  refine wpQuiet_nil ?_
  intro x
  have hB10 : Below w.heap.size w x.1 := hBj.trans (x.2.mono hBj.size)
  have fa10 := After.same x ga
  have fb10 := After.same x gb
  have fc10 := After.same x gc
  have fj10 := After.same x gj
  generalize x.1 = w10 at *
  clear x hBj ga gb gc gx gy gz gj A0 A1 B0 B1 J0 J1 X0 X1 X2 X3 Y0 Y1 Y2 Y3 Z0 Z1 Z2 Z3 HK HI HN HH HJa HJb
  obtain ⟨A0, A1, -⟩ := now2 fa10 rfl
  obtain ⟨C0, C1, -⟩ := now2 fc10 rfl
  go_wp2_with fail
  refine ((Hca _)).mono ?_
  rintro e w11 ⟨rfl, hb11⟩
  have fa11 := keep_blk hb11 fa10
  have fb11 := keep_blk hb11 fb10
  have fc11 := keep_blk hb11 fc10
  have fj11 := keep_blk hb11 fj10
  have hB11 : Below w.heap.size w w11 := hB10.trans (hb11.mono hB10.size)
  clear hb11 hB10 fa10 fb10 fc10 fj10 A0 A1 C0 C1
  obtain ⟨B0, B1, -⟩ := now2 fb11 rfl
  obtain ⟨C0, C1, -⟩ := now2 fc11 rfl
  go_wp2_with fail
  refine ((Hcb _)).mono ?_
  rintro e w12 ⟨rfl, hb12⟩
  have fa12 := keep_blk hb12 fa11
  have fb12 := keep_blk hb12 fb11
  have fc12 := keep_blk hb12 fc11
  have fj12 := keep_blk hb12 fj11
  have hB12 : Below w.heap.size w w12 := hB11.trans (hb12.mono hB11.size)
  clear hb12 hB11 fa11 fb11 fc11 fj11 B0 B1 C0 C1
  obtain ⟨J0, J1, -⟩ := now2 fj12 rfl
  obtain ⟨C0, C1, -⟩ := now2 fc12 rfl
  go_wp2_with fail
  refine ((Hcj _)).mono ?_
  rintro e w13 ⟨rfl, hb13⟩
  have fa13 := keep_blk hb13 fa12
  have fb13 := keep_blk hb13 fb12
  have fc13 := keep_blk hb13 fc12
  have fj13 := keep_blk hb13 fj12
  have hB13 : Below w.heap.size w w13 := hB12.trans (hb13.mono hB12.size)
  clear hb13 hB12 fa12 fb12 fc12 fj12 J0 J1 C0 C1
  go_wp2_with fail
  refine ((knows2_any _)).mono ?_
  rintro e w14 ⟨rfl, hb14⟩
  have fa14 := keep_blk hb14 fa13
  have fb14 := keep_blk hb14 fb13
  have fc14 := keep_blk hb14 fc13
  have fj14 := keep_blk hb14 fj13
  have hB14 : Below w.heap.size w w14 := hB13.trans (hb14.mono hB13.size)
  clear hb14 hB13 fa13 fb13 fc13 fj13
  go_wp2
  go_ret
  exact ⟨rfl, hB14⟩
theorem cubeSets_any (ma va mb vb mc vc : BitVec 8) (n : Int) (w : World) :
    Calls Try.prog 5 #[cv ma va, cv mb vb, cv mc vc, .int .i64 n] w fun e w' => e = .returned (.bool true) ∧ Below w.heap.size w w' := by
  cases ha : rightB ma va n
  · exact cubeSets_a ma va mb vb mc vc n ha w
  cases hb : rightB mb vb n
  · exact cubeSets_b ma va mb vb mc vc n ha hb w
  cases hc : rightB mc vc n
  · exact cubeSets_c ma va mb vb mc vc n ha hb hc w
  obtain ⟨k, rfl⟩ := Int.eq_ofNat_of_zero_le ((rightB_iff ma va n).1 ha).1
  by_cases hm : clashB ma va mb vb = 0
  · cases h1 : holdsB mc vc ma va
    · exact cubeSets_meet_no ma va mb vb mc vc k ha hb hc hm h1 w
    · cases h2 : holdsB mc vc mb vb
      · exact cubeSets_meet_left ma va mb vb mc vc k ha hb hc hm h1 h2 w
      · exact cubeSets_meet_both ma va mb vb mc vc k ha hb hc hm h1 h2 w
  · cases h1 : holdsB mc vc ma va
    · exact cubeSets_none_no ma va mb vb mc vc k ha hb hc hm h1 w
    · cases h2 : holdsB mc vc mb vb
      · exact cubeSets_none_left ma va mb vb mc vc k ha hb hc hm h1 h2 w
      · exact cubeSets_none_both ma va mb vb mc vc k ha hb hc hm h1 h2 w
end Go.Proofs.Ytmackldgkofedaa
