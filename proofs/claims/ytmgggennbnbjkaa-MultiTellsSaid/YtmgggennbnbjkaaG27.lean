/- The document's own Grow of layer 10. -/
import Derived.Test.YtmgggennbnbjkaaG26
import Derived.Test.YtmgggennbnbjkaaG23
import Derived.Deep.RegionHeld3
namespace Go.Proofs.Ytmgggennbnbjkaa
open Go.RowKit Go.Joins

def rwB3 (x : Rw) : Obj := .cells #[.int .u8 x.m.toNat, .int .u8 x.v.toNat, .int .u8 x.o.toNat] 28 (0, 0)
def rwZ : Obj := .cells #[.int .u8 0, .int .u8 0, .int .u8 0] 28 (0, 0)
theorem rowin_vm {s : Sp} {x : Rw} (h : rowIn s x = true) : x.v &&& x.m = x.v := ((rightB_iff _ _ _).1 (rwB_iff.1 (rowin_right h)).2.2).2.2.2
/-- Where Grow's boxes lie. -/
structure GrI (w : World) (sb : Obj) (y : Rw) (wr : World) : Prop where
  s : wr.heap[w.heap.size]? = some sb
  x : wr.heap[w.heap.size + 1]? = some (rwB3 y)
  r : wr.heap[w.heap.size + 2]? = some rwZ
  b : Below w.heap.size w wr
theorem GrI.after {w wr w2 : World} {sb : Obj} {y : Rw} (h : GrI w sb y wr) (hb : Below wr.heap.size wr w2) : GrI w sb y w2 :=
  ⟨keep_blk hb h.s, keep_blk hb h.x, keep_blk hb h.r, h.b.trans (hb.mono h.b.size)⟩
theorem GrI.set {w wr : World} {sb : Obj} {y : Rw} (h : GrI w sb y wr) {a : Addr} {u : Value} (ha : w.heap.size + 3 ≤ a.block) : GrI w sb y (wr.setCell a u) :=
  ⟨keep_set (by omega) h.s, keep_set (by omega) h.x, keep_set (by omega) h.r, h.b.setCell (by omega) _⟩
theorem put3 {w : World} {b : Nat} {T : TypeId} {x0 x1 x2 y0 y1 y2 : Value} (h : w.heap[b]? = some (.cells #[y0, y1, y2] T (0, 0))) :
    (((w.setCell ⟨b, 0, none⟩ x0).setCell ⟨b, 1, none⟩ x1).setCell ⟨b, 2, none⟩ x2).heap[b]? = some (.cells #[x0, x1, x2] T (0, 0)) := by
  rw [block_setCell (block_setCell (block_setCell h x0) x1) x2]
  rfl
theorem GrI.put {w wr : World} {sb : Obj} {y z : Rw} (h : GrI w sb y wr) :
    GrI w sb z (((wr.setCell ⟨w.heap.size + 1, 0, none⟩ (.int .u8 z.m.toNat)).setCell ⟨w.heap.size + 1, 1, none⟩ (.int .u8 z.v.toNat)).setCell ⟨w.heap.size + 1, 2, none⟩ (.int .u8 z.o.toNat)) :=
  ⟨keep_set (by simp) (keep_set (by simp) (keep_set (by simp) h.s)), put3 h.x, keep_set (by simp) (keep_set (by simp) (keep_set (by simp) h.r)), ((h.b.setCell (by simp) _).setCell (by simp) _).setCell (by simp) _⟩
theorem gr_start (w : World) (sb : Obj) (x : Rw) : GrI w sb x (((w.alloc sb).alloc (rwB3 x)).alloc rwZ) :=
  ⟨heap_alloc3_a _ _ _ _, heap_alloc3_b _ _ _ _, heap_alloc3_c _ _ _ _, below_alloc3 _ _ _ _⟩
theorem or_bit_add : ∀ {j a : Nat}, a.testBit j = false → a ||| 2 ^ j = a + 2 ^ j
  | 0, a, h => by
    have h0 : a % 2 = 0 := by rw [Nat.testBit_zero] at h; have := of_decide_eq_false h; omega
    have h1 : (a ||| 2 ^ 0) / 2 = a / 2 ||| 2 ^ 0 / 2 := Nat.or_div_two
    have h2 : (a ||| 2 ^ 0) % 2 = 1 := Nat.or_mod_two_eq_one.2 (.inr rfl)
    rw [show (2 : Nat) ^ 0 / 2 = 0 from rfl, Nat.or_zero] at h1
    rw [Nat.pow_zero] at *
    omega
  | j + 1, a, h => by
    rw [Nat.testBit_succ] at h
    have ih := or_bit_add h
    have h1 : (a ||| 2 ^ (j + 1)) / 2 = a / 2 ||| 2 ^ (j + 1) / 2 := Nat.or_div_two
    have e : 2 ^ (j + 1) / 2 = 2 ^ j := by rw [Nat.pow_succ]; omega
    have h2 : (a ||| 2 ^ (j + 1)) % 2 = 1 ↔ a % 2 = 1 ∨ 2 ^ (j + 1) % 2 = 1 := Nat.or_mod_two_eq_one
    rw [e, ih] at h1
    have e2 : 2 ^ (j + 1) = 2 * 2 ^ j := by rw [Nat.pow_succ]; omega
    generalize a ||| 2 ^ (j + 1) = k at *
    generalize 2 ^ (j + 1) = p at *
    generalize 2 ^ j = m at *
    omega
theorem add_out {o : BitVec 8} {j : Nat} (hj : j < 8) (h : o.getLsbD j = false) : (o ||| BitVec.twoPow 8 j).toNat = o.toNat + pw j := by
  rw [BitVec.toNat_or, BitVec.toNat_twoPow, pw_low j hj, Nat.mod_eq_of_lt (Nat.pow_lt_pow_right (n := 8) (by decide) hj)]
  exact or_bit_add h
theorem GrI.put2 {w wr : World} {sb : Obj} {y : Rw} (h : GrI w sb y wr) (o : BitVec 8) :
    GrI w sb ⟨y.m, y.v, o⟩ (wr.setCell ⟨w.heap.size + 1, 2, none⟩ (.int .u8 o.toNat)) :=
  ⟨keep_set (by simp) h.s, block_setCell (i := 2) h.x (.int .u8 o.toNat), keep_set (by simp) h.r, h.b.setCell (by simp) _⟩
set_option maxHeartbeats 8000000 in
set_option maxRecDepth 100000 in
theorem rgrow10_any (n : Nat) (A C : Value) (on may : List (BitVec 256)) (x : Rw) (w : World) (hA : SetsAt w w.heap.size A on) (hC : SetsAt w w.heap.size C may) (hn : n ≤ 8) (ho8 : on.length ≤ 8) (hm8 : may.length ≤ 8) (hx : rowIn ⟨n, on, may⟩ x = true) :
    Calls Try.prog 16 #[spv n A C, rwv x] w fun e w' => e = .returned (rwv (growR ⟨n, on, may⟩ x)) ∧ Below w.heap.size w w' := by
  have HI := fun x w1 (hb : Below w.heap.size w w1) => rin10_any n A C on may x w1 ((hA.below hb).more hb.size) ((hC.below hb).more hb.size) hm8
  have HL := fun m v w => lits_own m v w
  have HC := fun (m v : BitVec 8) (i : Nat) (hv : v &&& m = v) (w1 : World) (g cap : Nat) (h : GAt (drG m v i) 8 (some ⟨g, 0, none⟩) w1) => (by
    have := rcube_any (drG m v i) 8 (by omega) (fun j _ => drG_le m v i j) (some ⟨g, 0, none⟩) cap w1 h
    rw [drG_m, drG_v, hv] at this
    exact this : Calls Try.prog 35 #[.slice (some ⟨g, 0, none⟩) 8 cap] w1 fun e w' => e = .returned (cv (drM m i) (drM v i)) ∧ Below w1.heap.size w1 w')
  have hin := Lib.hid (fun k => (drops_inv hx k).1)
  have hsuc := Lib.hid (fun k => dropsR_succ ⟨n, on, may⟩ x k)
  obtain ⟨A, ac, rfl, la, -⟩ := hA
  obtain ⟨C, cc, rfl, lc, -⟩ := hC
  have hG := gr_start w (spb n (.slice A on.length ac) (.slice C may.length cc)) x
  unfold spv spb rwv cv at *
  unfold bvv at *
  unfold rwB3 rwZ at hG
  go_enter Try.func16, Try.ntmps16
  go_wp2
  generalize ((w.alloc _).alloc _).alloc _ = W at *
  go_loopw [5] (fun t wr => ∃ k : Nat, k ≤ n ∧ t = .int .i64 k ∧ GrI w (.cells #[.int .i64 n, .slice A on.length ac, .slice C may.length cc] 24 (0, 0)) (dropsR ⟨n, on, may⟩ x k) wr) (fun t _ => n - (intOf t).toNat)
  case atStart => exact ⟨0, by omega, rfl, hG⟩
  case round =>
    clear hG
    obtain ⟨k, hk, rfl, I⟩ := hrel
    have hyin := hin.out k
    have hst := Lib.hid (hsuc.out k)
    have hvm := rowin_vm hyin
    obtain ⟨s0, s1, s2, -⟩ := now3 I.s rfl
    obtain ⟨x0, x1, x2, xf⟩ := now3 I.x rfl
    by_cases hkn : k < n
    · have hkd : decide ((k : Int) < (n : Int)) = true := decide_eq_true (by omega)
      generalize dropsR ⟨n, on, may⟩ x k = y at *
      have HLy := fun w => HL y.m y.v w
      clear HL
      go_wp2_with fail
      refine (HLy _).mono ?_
      rintro e w1 ⟨r, rfl, hown, hb⟩
      obtain ⟨g, cap, rfl⟩ := ownsRow_form hown (by decide)
      have hg := hown.lt g rfl
      have df := hown.frozenAt
      have hI1 := I.after hb
      have hsz : w.heap.size + 3 ≤ wr.heap.size := size_of_block I.r
      have hG1 := drG_at hown (show k < 8 by omega)
      have hI2 := hI1.set (a := ⟨g, k, none⟩) (u := .int .i64 2) (by show _ ≤ g; have := hg.1; omega)
      obtain ⟨u, hu⟩ : ∃ u, w1.cell? ⟨g, k, none⟩ = some u := ⟨_, (hown.cellAt k (by omega)).trans (litV_get y.m y.v 8 k (by omega))⟩
      have k0 : ¬ (k : Int) < 0 := by omega
      have k8 : (k : Int) < 8 := by omega
      have HC1 := HC y.m y.v k hvm
      clear HC HLy hown hb hsz hI1 I s0 s1 s2 x0 x1 x2 xf
      go_upto_region 6 with (fail)
      generalize w1.setCell ⟨g, k, none⟩ (.int .i64 2) = w2 at *
      go_cut [7] from 22 to 26 (fun s7 wc => ∃ by' : Nat, s7 = .pointer (some ⟨by', 0, none⟩) ∧ wc.heap[by']? = some (.cells #[.int .u8 (drM y.m k).toNat, .int .u8 (drM y.v k).toNat, .int .u8 y.o.toNat] 28 (0, 0)) ∧ GrI w (.cells #[.int .i64 n, .slice A on.length ac, .slice C may.length cc] 24 (0, 0)) y wc)
      case first =>
        have hgl : g < w2.heap.size := by obtain ⟨b, e1, e2⟩ := hG1 0 (by omega); injection e1 with e1; injection e1 with e1; subst e1; exact block_lt_of_cell e2
        obtain ⟨X0_, X1_, X2_, -⟩ := box3 hI2.x rfl
        refine wp_region_held_drew (S := fun W_ => Below w2.heap.size w2 W_) rfl (Below.refl _ w2).drew (fun hHeld => ?_)
        obtain ⟨X0, hX0⟩ : ∃ X0, X0 = w2.drew := ⟨_, rfl⟩
        rw [← hX0] at hHeld ⊢
        clear hX0
        refine wpAnyH_take (i := 0) (oi := _) (v := ?_) rfl (by kernel_rfl) (by kernel_rfl) (by kernel_rfl) (fun _ _ _ h => h) (Or.inl ⟨by rfl, ?_⟩) (by assumption) ?_
        rotate_left 1
        · intro w_ hSw
          go_simp
          try with_reducible rfl
        try simp only [Act.put, List.setIfInBounds_toArray]
        refine wpAnyH_take (i := 2) (oi := _) (v := ?_) rfl (by kernel_rfl) (by kernel_rfl) (by kernel_rfl) (fun _ _ _ h => h) (Or.inl ⟨by rfl, ?_⟩) (by assumption) ?_
        rotate_left 1
        · intro w_ hSw
          go_simp
          try with_reducible rfl
        try simp only [Act.put]
        refine wpAnyH_take (i := 3) (oi := _) (v := ?_) rfl (by kernel_rfl) (by kernel_rfl) (by kernel_rfl) (fun _ _ _ h => h) (Or.inl ⟨by rfl, ?_⟩) (by assumption) ?_
        rotate_left 1
        · intro w_ hSw
          have q_2 := X2_ ⟨w_, hSw⟩
          dsimp only at q_2
          go_simp
          try with_reducible rfl
        try simp only [Act.put]
        refine wpAnyH_ready (rs := [1, 5]) (by kernel_rfl) (by simp) ?_
        refine AllReadyH.cons (o := _) rfl (fun _ hK => ?_) ?_
        · go_simp
          refine (HC1 X0 g cap (fun j hj => by obtain ⟨b, e1, e2⟩ := hG1 j hj; exact ⟨b, e1, (hHeld.cell (p := ⟨b, j, none⟩) (block_lt_of_cell e2)).trans e2⟩)).mono ?_
          rintro e X1 ⟨rfl, hb7⟩
          try go_simp
          refine hK.out _ _ (hHeld.trans (hb7.mono hHeld.size)) (fun hHeld => ?_)
          clear hK
          try simp only [Act.put, List.setIfInBounds_toArray, List.set_cons_zero, List.set_cons_succ]
          refine wpAnyH_take (i := 4) (oi := _) (v := ?_) rfl (by kernel_rfl) (by kernel_rfl) (by kernel_rfl) (fun _ _ _ h => h) (Or.inl ⟨by rfl, ?_⟩) (by assumption) ?_
          rotate_left 1
          · intro w_ hSw
            go_simp
            try with_reducible rfl
          try simp only [Act.put, List.setIfInBounds_toArray]
          refine wpAnyH_ready (rs := [5]) (by kernel_rfl) (by simp) ?_
          refine AllReadyH.cons (o := _) rfl (fun _ hK => ?_) AllReadyH.nil
          go_simp
          have n7 := heap_alloc_new X1 rwZ
          have hal := hHeld.alloc hHeld.size rwZ
          have l7 := hHeld.size
          unfold rwZ at n7 hal
          generalize X1.heap.size = b7 at *
          generalize X1.alloc (.cells #[.int .u8 0, .int .u8 0, .int .u8 0] 28 (0, 0)) = X2 at *
          refine hK.out _ _ hal (fun hHeld => ?_)
          clear hK
          try simp only [Act.put, List.setIfInBounds_toArray, List.set_cons_zero, List.set_cons_succ]
          refine wpAnyH_ready (rs := [6]) (by kernel_rfl) (by simp) ?_
          refine AllReadyH.cons (o := _) rfl (fun _ hK => ?_) AllReadyH.nil
          obtain ⟨y0, y1, y2, yf⟩ := now3 n7 rfl
          go_simp
          clear y0 y1 y2 yf
          refine hK.out _ _ (((hHeld.setCell (by show w2.heap.size ≤ b7; omega) _).setCell (by show w2.heap.size ≤ b7; omega) _).setCell (by show w2.heap.size ≤ b7; omega) _) (fun hHeld => ?_)
          clear hK
          try simp only [Act.put, List.setIfInBounds_toArray, List.set_cons_zero, List.set_cons_succ]
          have n9 := put3 (x0 := .int .u8 (drM y.m k).toNat) (x1 := .int .u8 (drM y.v k).toNat) (x2 := .int .u8 y.o.toNat) n7
          refine wpAnyH_done (by kernel_rfl) ?_ _
          go_wp2_with fail
          go_meet
          exact ⟨b7, rfl, n9, hI2.after hHeld⟩
        refine AllReadyH.cons (o := _) rfl (fun _ hK => ?_) AllReadyH.nil
        go_simp
        have n7 := heap_alloc_new X0 rwZ
        have hal := hHeld.alloc hHeld.size rwZ
        have l7 := hHeld.size
        unfold rwZ at n7 hal
        generalize X0.heap.size = b7 at *
        generalize X0.alloc (.cells #[.int .u8 0, .int .u8 0, .int .u8 0] 28 (0, 0)) = X1 at *
        refine hK.out _ _ hal (fun hHeld => ?_)
        clear hK
        try simp only [Act.put, List.setIfInBounds_toArray, List.set_cons_zero, List.set_cons_succ]
        refine wpAnyH_ready (rs := [1]) (by kernel_rfl) (by simp) ?_
        refine AllReadyH.cons (o := _) rfl (fun _ hK => ?_) AllReadyH.nil
        go_simp
        refine (HC1 X1 g cap (fun j hj => by obtain ⟨b, e1, e2⟩ := hG1 j hj; exact ⟨b, e1, (hHeld.cell (p := ⟨b, j, none⟩) (block_lt_of_cell e2)).trans e2⟩)).mono ?_
        rintro e X2 ⟨rfl, hb7⟩
        have n7 := keep_blk hb7 n7
        try go_simp
        refine hK.out _ _ (hHeld.trans (hb7.mono hHeld.size)) (fun hHeld => ?_)
        clear hK
        try simp only [Act.put, List.setIfInBounds_toArray, List.set_cons_zero, List.set_cons_succ]
        refine wpAnyH_take (i := 4) (oi := _) (v := ?_) rfl (by kernel_rfl) (by kernel_rfl) (by kernel_rfl) (fun _ _ _ h => h) (Or.inl ⟨by rfl, ?_⟩) (by assumption) ?_
        rotate_left 1
        · intro w_ hSw
          go_simp
          try with_reducible rfl
        try simp only [Act.put, List.setIfInBounds_toArray]
        refine wpAnyH_ready (rs := [6]) (by kernel_rfl) (by simp) ?_
        refine AllReadyH.cons (o := _) rfl (fun _ hK => ?_) AllReadyH.nil
        obtain ⟨y0, y1, y2, yf⟩ := now3 n7 rfl
        go_simp
        clear y0 y1 y2 yf
        refine hK.out _ _ (((hHeld.setCell (by show w2.heap.size ≤ b7; omega) _).setCell (by show w2.heap.size ≤ b7; omega) _).setCell (by show w2.heap.size ≤ b7; omega) _) (fun hHeld => ?_)
        clear hK
        try simp only [Act.put, List.setIfInBounds_toArray, List.set_cons_zero, List.set_cons_succ]
        have n9 := put3 (x0 := .int .u8 (drM y.m k).toNat) (x1 := .int .u8 (drM y.v k).toNat) (x2 := .int .u8 y.o.toNat) n7
        refine wpAnyH_done (by kernel_rfl) ?_ _
        go_wp2_with fail
        go_meet
        exact ⟨b7, rfl, n9, hI2.after hHeld⟩
      case rest =>
        obtain ⟨by', rfl, hy, hI4⟩ := hcut
        clear HC1 hG1 hI2 hu df
        obtain ⟨s0, s1, s2, -⟩ := now3 hI4.s rfl
        obtain ⟨y0, y1, y2, -⟩ := now3 hy rfl
        have HIy := HI ⟨drM y.m k, drM y.v k, y.o⟩ _ hI4.b
        simp only at HIy
        clear HI
        go_wp2_with fail
        refine HIy.mono ?_
        rintro e w4 ⟨rfl, hb⟩
        have hI5 := hI4.after hb
        have hy5 := keep_blk hb hy
        clear HIy hI4 hb hy s0 s1 s2 y0 y1 y2
        obtain ⟨y0, y1, y2, -⟩ := now3 hy5 rfl
        obtain ⟨-, -, -, xf⟩ := now3 hI5.x rfl
        obtain ⟨x0, x1, x2, -⟩ := now3 hI5.x rfl
        cases hd : rowIn ⟨n, on, may⟩ (dropR y k)
        · have hd' : Hid (dropsR ⟨n, on, may⟩ x (k + 1) = y) := Lib.hid (by rw [hst.out]; unfold dropStep; rw [if_neg (by rw [hd]; decide)])
          have hd2 : rowIn ⟨n, on, may⟩ ⟨drM y.m k, drM y.v k, y.o⟩ = false := hd
          rw [hd2] at *
          clear hst hd hd2
          go_wp2
          go_roundw
          case rel => exact ⟨k + 1, by omega, by go_num, by rw [hd'.out]; exact hI5⟩
          case measure => simp [intOf]; omega
        · have hd' : Hid (dropsR ⟨n, on, may⟩ x (k + 1) = ⟨drM y.m k, drM y.v k, y.o⟩) := Lib.hid (by rw [hst.out]; unfold dropStep; rw [if_pos hd]; rfl)
          have hd2 : rowIn ⟨n, on, may⟩ ⟨drM y.m k, drM y.v k, y.o⟩ = true := hd
          rw [hd2] at *
          have hI6 := hI5.put (z := ⟨drM y.m k, drM y.v k, y.o⟩)
          simp only at hI6
          clear hst hd hd2 hI5
          go_wp2
          go_roundw
          case rel => exact ⟨k + 1, by omega, by go_num, by rw [hd'.out]; exact hI6⟩
          case measure => simp [intOf]; omega
    · have e : k = n := by omega
      subst e
      have hkd : decide ((k : Int) < (k : Int)) = false := decide_eq_false (by omega)
      have hgr : Hid (growR ⟨k, on, may⟩ x = addsR ⟨k, on, may⟩ (dropsR ⟨k, on, may⟩ x k) on.length) := Lib.hid rfl
      have hasuc := Lib.hid (fun (z : Rw) (j : Nat) => addsR_succ ⟨k, on, may⟩ z j)
      generalize dropsR ⟨k, on, may⟩ x k = y at *
      clear hin hsuc hst HL HC
      go_wp2
      clear hkd s0 s1 s2 x0 x1 x2 xf
      go_loopw [8, 9] (fun p t wr => ∃ j : Nat, j ≤ on.length ∧ t = .int .i64 j ∧ p = .int .u8 (pw j : Nat) ∧ GrI w (.cells #[.int .i64 k, .slice A on.length ac, .slice C may.length cc] 24 (0, 0)) (addsR ⟨k, on, may⟩ y j) wr) (fun _ t _ => on.length - (intOf t).toNat)
      case atStart => exact ⟨0, by omega, rfl, rfl, I⟩
      case round =>
        clear I
        obtain ⟨j, hj, rfl, rfl, I⟩ := hrel
        obtain ⟨s0, s1, s2, -⟩ := now3 I.s rfl
        obtain ⟨x0, x1, x2, xf⟩ := now3 I.x rfl
        have hst := Lib.hid (hasuc.out y j)
        by_cases hjl : j < on.length
        · have hjd : decide ((j : Int) < (on.length : Int)) = true := decide_eq_true (by omega)
          generalize addsR ⟨k, on, may⟩ y j = z at *
          have HBz := fun w => bit8_any z.o j (by omega) w
          have hps := Lib.hid (pw_step j)
          unfold bvv at HBz
          cases hb : z.o.getLsbD j
          · rw [hb] at HBz
            have hao := add_out (show j < 8 by omega) hb
            have hlt := (z.o ||| BitVec.twoPow 8 j).isLt
            rw [hao] at hlt
            have HIy := HI ⟨z.m, z.v, z.o ||| BitVec.twoPow 8 j⟩ _ I.b
            simp only [hao, Int.natCast_add] at HIy
            have haH := Lib.hid hao
            cases hd : rowIn ⟨k, on, may⟩ ⟨z.m, z.v, z.o ||| BitVec.twoPow 8 j⟩
            · rw [hd] at HIy
              have hd' : Hid (addsR ⟨k, on, may⟩ y (j + 1) = z) := Lib.hid (by
                rw [hst.out]; unfold addStep
                rw [if_neg (by rw [hb, show rowIn ⟨k, on, may⟩ (addR z j) = false from hd]; decide)])
              clear hst hb hd hao HI
              generalize pw j = p at *
              go_wp2_with fail
              refine (HBz _).mono ?_
              rintro e w1 ⟨rfl, rfl⟩
              go_wp2_with fail
              refine HIy.mono ?_
              rintro e w4 ⟨rfl, hb4⟩
              have hI5 := I.after hb4
              clear HIy s0 s1 s2 x0 x1 x2 xf I hb4 HBz
              go_wp2
              go_roundw
              case rel =>
                refine ⟨j + 1, by omega, by go_num, ?_, by rw [hd'.out]; exact hI5⟩
                congr 1
                have := hps.out
                omega
              case measure => simp [intOf]; omega
            · rw [hd] at HIy
              have hd' : Hid (addsR ⟨k, on, may⟩ y (j + 1) = ⟨z.m, z.v, z.o ||| BitVec.twoPow 8 j⟩) := Lib.hid (by
                rw [hst.out]; unfold addStep
                rw [if_pos (by rw [hb, show rowIn ⟨k, on, may⟩ (addR z j) = true from hd]; rfl)]
                rfl)
              clear hst hb hd hao HI
              generalize pw j = p at *
              go_wp2_with fail
              refine (HBz _).mono ?_
              rintro e w1 ⟨rfl, rfl⟩
              go_wp2_with fail
              refine HIy.mono ?_
              rintro e w4 ⟨rfl, hb4⟩
              have hI5 := I.after hb4
              clear HIy s0 s1 s2 x0 x1 x2 xf I hb4 HBz
              obtain ⟨x0, x1, x2, xf⟩ := now3 hI5.x rfl
              have hI6 := hI5.put2 (z.o ||| BitVec.twoPow 8 j)
              simp only [haH.out, Int.natCast_add] at hI6
              go_wp2
              go_roundw
              case rel =>
                refine ⟨j + 1, by omega, by go_num, ?_, by rw [hd'.out]; exact hI6⟩
                congr 1
                have := hps.out
                omega
              case measure => simp [intOf]; omega
          · rw [hb] at HBz
            have hd' : Hid (addsR ⟨k, on, may⟩ y (j + 1) = z) := Lib.hid (by rw [hst.out]; unfold addStep; rw [hb]; rfl)
            clear hst hb HI
            generalize pw j = p at *
            go_wp2_with fail
            refine (HBz _).mono ?_
            rintro e w1 ⟨rfl, rfl⟩
            clear x0 x1 x2 xf s0 s1 s2 HBz
            go_wp2
            go_roundw
            case rel =>
              refine ⟨j + 1, by omega, by go_num, ?_, by rw [hd'.out]; exact I⟩
              congr 1
              have := hps.out
              omega
            case measure => simp [intOf]; omega
        · have e : j = on.length := by omega
          subst e
          have hjd : decide ((on.length : Int) < (on.length : Int)) = false := decide_eq_false (by omega)
          generalize addsR ⟨k, on, may⟩ y on.length = z at *
          obtain ⟨r0, r1, r2, rf⟩ := now3 I.r rfl
          have hput := put3 (x0 := .int .u8 z.m.toNat) (x1 := .int .u8 z.v.toNat) (x2 := .int .u8 z.o.toNat) I.r
          obtain ⟨q0, q1, q2, -⟩ := now3 hput rfl
          have hBz : Below w.heap.size w (((wr.setCell ⟨w.heap.size + 2, 0, none⟩ (.int .u8 z.m.toNat)).setCell ⟨w.heap.size + 2, 1, none⟩ (.int .u8 z.v.toNat)).setCell ⟨w.heap.size + 2, 2, none⟩ (.int .u8 z.o.toNat)) := ((I.b.setCell (by simp) _).setCell (by simp) _).setCell (by simp) _
          clear HI hst hasuc hput
          go_wp2
          exact bodyPost_ret (v := .agg #[.int .u8 z.m.toNat, .int .u8 z.v.toNat, .int .u8 z.o.toNat]) (by simp [results, Try.results16, go_sem, q0, q1, q2]) rfl ⟨by rw [hgr.out], hBz⟩
end Go.Proofs.Ytmgggennbnbjkaa
