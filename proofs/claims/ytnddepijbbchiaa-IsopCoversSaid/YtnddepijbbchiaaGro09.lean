/- What a cube grows to, plain; the document's own Grow of layer 9. -/
import Derived.Test.YtnddepijbbchiaaRhp09
namespace Go.Proofs.Ytnddepijbbchiaa
open Go.RowKit Go.Joins

/-- One literal left out, where it may be. -/
def dropC (S : BitVec 256) (n : Int) (x : BitVec 8 × BitVec 8) (i : Nat) : BitVec 8 × BitVec 8 := if inB S n (drM x.1 i) (drM x.2 i) = true then (drM x.1 i, drM x.2 i) else x
def dropsC (S : BitVec 256) (n : Int) (x : BitVec 8 × BitVec 8) (k : Nat) : BitVec 8 × BitVec 8 := (List.range k).foldl (dropC S n) x
def growC (S : BitVec 256) (n : Int) (m v : BitVec 8) : BitVec 8 × BitVec 8 := dropsC S n (m, v) n.toNat
theorem dropsC_succ (S : BitVec 256) (n : Int) (x : BitVec 8 × BitVec 8) (k : Nat) : dropsC S n x (k + 1) = dropC S n (dropsC S n x k) k := by
  unfold dropsC; rw [List.range_succ, List.foldl_append]; rfl
theorem inC_down {S : BitVec 256} {n : Int} {m v m' v' : BitVec 8} (h : inB S n m v = true) (hh : holdsB m v m' v' = true) (hr : rightB m' v' n = true) : inB S n m' v' = true := by
  obtain ⟨h0, h8, -, -⟩ := (rightB_iff m' v' n).1 hr
  obtain ⟨k, rfl⟩ : ∃ k : Nat, n = k := ⟨n.toNat, by omega⟩
  rw [inB_iff] at *
  exact ⟨hr, fun p hp hf => h.2 p hp (fits_holds hh hf)⟩
theorem holds_dd (m v : BitVec 8) (i k : Nat) : holdsB (drM (drM m k) i) (drM (drM v k) i) (drM m i) (drM v i) = true := by
  rw [holdsB_iff]
  intro j hj
  simp only [drM_bit] at *
  cases hm : m.getLsbD j
  · rw [hm] at hj; cases hj
  · rw [hm] at hj
    cases hk : decide (j = k)
    · cases hi : decide (j = i)
      · simp
      · rw [hi] at hj; simp at hj
    · rw [hk] at hj; simp at hj
theorem in_right {S : BitVec 256} {n : Int} {m v : BitVec 8} (h : inB S n m v = true) : rightB m v n = true := by
  unfold inB at h; rw [Bool.and_eq_true] at h; exact h.1
theorem dropsC_inv {S : BitVec 256} {n : Int} {m v : BitVec 8} (h : inB S n m v = true) : ∀ k, inB S n (dropsC S n (m, v) k).1 (dropsC S n (m, v) k).2 = true ∧ holdsB (dropsC S n (m, v) k).1 (dropsC S n (m, v) k).2 m v = true ∧
    ∀ i, i < k → (dropsC S n (m, v) k).1.getLsbD i = true → inB S n (drM (dropsC S n (m, v) k).1 i) (drM (dropsC S n (m, v) k).2 i) = false
  | 0 => ⟨h, holds_self m v, fun i hi => absurd hi (Nat.not_lt_zero _)⟩
  | k + 1 => by
    obtain ⟨h1, h2, h3⟩ := dropsC_inv h k
    rw [dropsC_succ]
    generalize dropsC S n (m, v) k = y at *
    unfold dropC
    by_cases hd : inB S n (drM y.1 k) (drM y.2 k) = true
    · rw [if_pos hd]
      refine ⟨hd, holds_step (holds_dr _ _ k) h2, fun i hi hb => ?_⟩
      simp only [drM_bit] at hb
      rw [Bool.and_eq_true] at hb
      have hne : i ≠ k := fun e => by subst e; simp at hb
      rw [Bool.eq_false_iff]
      intro hin
      have := inC_down hin (holds_dd y.1 y.2 i k) (right_dr i (in_right h1))
      rw [h3 i (by omega) hb.1] at this; cases this
    · rw [if_neg hd]
      refine ⟨h1, h2, fun i hi hb => ?_⟩
      by_cases e : i = k
      · subst e; exact Bool.eq_false_iff.2 hd
      · exact h3 i (by omega) hb
/-- What a cube grows to is prime, and holds it. -/
theorem growC_prime {S : BitVec 256} {n : Int} {m v : BitVec 8} (h : inB S n m v = true) : primB S n (growC S n m v).1 (growC S n m v).2 = true ∧ holdsB (growC S n m v).1 (growC S n m v).2 m v = true := by
  obtain ⟨h1, h2, h3⟩ := dropsC_inv h n.toNat
  exact ⟨(primB_iff _ _ _ _).2 ⟨h1, h3⟩, h2⟩
/-- Where the boxes of the document's Grow lie. -/
structure GcI (w : World) (S : BitVec 256) (y : BitVec 8 × BitVec 8) (wr : World) : Prop where
  x : wr.heap[w.heap.size]? = some (cb y.1 y.2)
  s : wr.heap[w.heap.size + 1]? = some (.cells (sa S) 24 (0, 0))
  r : wr.heap[w.heap.size + 2]? = some cb0
  b : Below w.heap.size w wr
theorem GcI.after {w wr w2 : World} {S : BitVec 256} {y : BitVec 8 × BitVec 8} (h : GcI w S y wr) (hb : Below wr.heap.size wr w2) : GcI w S y w2 :=
  ⟨keep_blk hb h.x, keep_blk hb h.s, keep_blk hb h.r, h.b.trans (hb.mono h.b.size)⟩
theorem GcI.put {w wr : World} {S : BitVec 256} {y : BitVec 8 × BitVec 8} (h : GcI w S y wr) (m v : BitVec 8) :
    GcI w S (m, v) ((wr.setCell ⟨w.heap.size, 0, none⟩ (.int .u8 m.toNat)).setCell ⟨w.heap.size, 1, none⟩ (.int .u8 v.toNat)) :=
  ⟨put2 h.x, keep_set2 (by omega) h.s, keep_set2 (by omega) h.r, below2 (Nat.le_refl _) h.b⟩
set_option maxHeartbeats 4000000 in
set_option maxRecDepth 100000 in
theorem rgrow9_any (m v : BitVec 8) (S : BitVec 256) (n : Nat) (hin : inB S n m v = true) (w : World) :
    Calls Try.prog 21 #[cv m v, sv S, .int .i64 n] w fun e w' => e = .returned (cv (growC S n m v).1 (growC S n m v).2) ∧ Below w.heap.size w w' := by
  have hn8 : n ≤ 8 := by have := (rightB_iff _ _ _).1 (in_right hin); omega
  have HO := fun (m v : BitVec 8) (i : Nat) (hi : i < 8) (hv : v &&& m = v) w => (by have := rwithout9_any m v i hi w; rwa [hv] at this : Calls Try.prog 44 #[cv m v, .int .i64 i] w fun e w' => e = .returned (cv (drM m i) (drM v i)) ∧ Below w.heap.size w w')
  have HW := fun m v w => rwithin9_any m v S n w
  have hinv := Lib.hid (fun k => (dropsC_inv hin k).1)
  have hsuc := Lib.hid (fun k => dropsC_succ S n (m, v) k)
  have hG : GcI w S (m, v) (((w.alloc (cb m v)).alloc (.cells (sa S) 24)).alloc cb0) := ⟨heap_alloc3_a _ _ _ _, heap_alloc3_b _ _ _ _, heap_alloc3_c _ _ _ _, below_alloc3 _ _ _ _⟩
  have hge : Hid (growC S n m v = dropsC S n (m, v) n) := Lib.hid (by unfold growC; rw [Int.toNat_natCast])
  unfold cv sv cb cb0 bvv at *
  unfold sa wv at hG
  unfold wv at *
  go_enter Try.func21, Try.ntmps21
  go_wp2
  generalize ((w.alloc _).alloc _).alloc _ = W at *
  go_loopw [7] (fun t wr => ∃ k : Nat, k ≤ n ∧ t = .int .i64 k ∧ GcI w S (dropsC S n (m, v) k) wr) (fun t _ => n - (intOf t).toNat)
  case atStart => exact ⟨0, by omega, rfl, hG⟩
  case round =>
    clear hG
    obtain ⟨k, hk, rfl, I⟩ := hrel
    have hyin := hinv.out k
    have hst := Lib.hid (hsuc.out k)
    have hvm := ((rightB_iff _ _ _).1 (in_right hyin)).2.2.2
    by_cases hkn : k < n
    · have hkd : decide ((k : Int) < (n : Int)) = true := decide_eq_true (by omega)
      generalize dropsC S n (m, v) k = y at *
      obtain ⟨ym, yv⟩ := y
      simp only at hyin hvm
      have HOy := fun w => HO ym yv k (by omega) hvm w
      have HWy := fun w => HW (drM ym k) (drM yv k) w
      have hx := I.x
      have hs := I.s
      (try unfold cb at hx)
      unfold sa wv at hs
      simp only at hx
      clear HO HW
      go_upto_region 4 with (fail)
      obtain ⟨X0, X1, -⟩ := box2 hx rfl
      obtain ⟨S0, S1, S2, S3, -⟩ := box4 hs rfl
      refine wp_region_after (by kernel_rfl) (by kernel_rfl) ?_
      repeat (first | go_big_quiet_step (first | (go_at_call 44; exact Calls.after_of (HOy _)) | (go_at_call 42; exact Calls.after_of (HWy _))))
      refine wpQuiet_nil ?_
      intro z
      have I2 := I.after z.2
      clear X0 X1 S0 S1 S2 S3 HWy I hx hs
      generalize z.1 = w2 at *
      clear z
      cases hd : inB S n (drM ym k) (drM yv k)
      · have hd' : Hid (dropsC S n (m, v) (k + 1) = (ym, yv)) := Lib.hid (by rw [hst.out]; unfold dropC; rw [if_neg (by rw [hd]; decide)])
        clear hst hd HOy
        go_wp2
        go_roundw
        case rel => exact ⟨k + 1, by omega, by go_num, by rw [hd'.out]; exact I2⟩
        case measure => simp [intOf]; omega
      · have hd' : Hid (dropsC S n (m, v) (k + 1) = (drM ym k, drM yv k)) := Lib.hid (by rw [hst.out]; unfold dropC; rw [if_pos hd])
        have hx2 := I2.x
        (try unfold cb at hx2)
        simp only at hx2
        obtain ⟨x0, x1, xf⟩ := now2 hx2 rfl
        clear hst hd
        go_wp2_with fail
        refine (HOy _).mono ?_
        rintro e w3 ⟨rfl, hb⟩
        have I3 := I2.after hb
        have hx3 := I3.x
        (try unfold cb at hx3)
        simp only at hx3
        clear HOy hb I2 hx2 x0 x1 xf
        obtain ⟨x0, x1, xf⟩ := now2 hx3 rfl
        have I4 := I3.put (drM ym k) (drM yv k)
        go_wp2
        go_roundw
        case rel => exact ⟨k + 1, by omega, by go_num, by rw [hd'.out]; exact I4⟩
        case measure => simp [intOf]; omega
    · have e : k = n := by omega
      subst e
      have hkd : decide ((k : Int) < (k : Int)) = false := decide_eq_false (by omega)
      generalize dropsC S k (m, v) k = y at *
      obtain ⟨ym, yv⟩ := y
      have hx := I.x
      have hr := I.r
      have hb := I.b
      (try unfold cb at hx)
      (try unfold cb0 at hr)
      simp only at hx
      obtain ⟨x0, x1, -⟩ := now2 hx rfl
      obtain ⟨r0, r1, rf⟩ := now2 hr rfl
      have hput := put2 (x0 := .int .u8 ym.toNat) (x1 := .int .u8 yv.toNat) hr
      obtain ⟨q0, q1, -⟩ := now2 hput rfl
      have hBz := below2 (b := w.heap.size + 2) (x0 := .int .u8 ym.toNat) (x1 := .int .u8 yv.toNat) (by omega) hb
      clear HO HW hst hsuc hinv hput I
      go_wp2
      exact bodyPost_ret (v := .agg #[.int .u8 ym.toNat, .int .u8 yv.toNat]) (by simp [results, Try.results21, go_sem, q0, q1]) rfl ⟨by rw [hge.out], hBz⟩
end Go.Proofs.Ytnddepijbbchiaa
