/- Package prime: one level makes the next, walked. Package prime's All. -/
import Derived.Test.YtehpccanjlaokaaGreatGQ45
namespace Go.Proofs.YtehpccanjlaokaaGreat
open Go.RowKit Go.Joins
open Go.Maps (Keyed)

set_option maxHeartbeats 8000000 in
set_option maxRecDepth 100000 in
theorem merge_any (S : BitVec 256) (n k N : Nat) (hn : n ≤ 8) (hN : N ≤ 4294967296) (B bl pb : Nat) (D : DataW Unit) (V : Value) (ks : List Nat) (w : World) (hB : B ≤ w.heap.size) (hBp : B ≤ pb)
    (hm : MpAt w bl N N (Lv S n k) D) (hp : PrmAt w B pb V ks) (hk : Kept S n k (fun _ _ => False) ks) :
    Calls Tryz.prog 62 #[.map (some bl), .int .i64 n, .func (.func 57) #[] #[.pointer (some ⟨pb, 0, none⟩)]] w fun e w' =>
      ∃ (ba : Nat) (D' : DataW Unit) (V' : Value) (ks' : List Nat), e = .returned (.map (some ba)) ∧ MpAt w' ba (8 * N) (8 * N) (Lv S n (k + 1)) D' ∧ PrmAt w' B pb V' ks' ∧ Kept S n (k + 1) (fun _ _ => False) ks' ∧ Below B w w' := by
  obtain ⟨hown, hkeys, hcounts⟩ := id hm
  have hmm := @run_makeMap Tryz.prog
  have hbl := hown.lt
  have hM0 := MpAt.made w
  have hp0 := hp.below (below_alloc1 w (.map #[] 0))
  have hown1 := hown.alloc (.map #[] 0)
  have hb0 := below_alloc1 w (.map #[] 0)
  have hsz : (w.alloc (.map #[] 0)).heap.size = w.heap.size + 1 := by simp
  go_enter Tryz.func62, Tryz.ntmps62
  go_upto_region 2 with (fail)
  generalize w.alloc _ = W at *
  go_wp2_with (first | (at_range; refine wpList_range_own _ rfl _ 111 rfl 57 3 Tryz.cubeKeyed Tryz.underlying111 _ bl N D rfl hown1 ?_; intro w0 hrg0 hg0 hs0) | go_in)
  go_frame
  have hr0 : w.heap.size < W.heap.size := by omega
  have hI0 : MgI B w w0 bl W.heap.size w.heap.size pb N D (Maps.has D) (Maps.size D) (AbF S n k (fun a b => Maps.has D (klC a b) = false)) (8 * (N - Maps.size D)) (.map []) V ks := by
    refine ⟨hrg0, ?_, hp0.off (F := fun _ => False) (w' := w0) ⟨hg0.os, hg0.tape, hg0.output, hg0.size, fun j hj _ => hg0.block j hj (by simp)⟩ id (fun _ _ => id), ?_⟩
    · refine (hM0.keep (hg0.block _ hM0.lt (by simp))).same (fun a b => ?_) (Nat.zero_le _) (Nat.zero_le _)
      refine ⟨False.elim, ?_⟩
      rintro ⟨a1, b1, j, h1, h2, -⟩
      rw [(hkeys a1 b1).2 h1] at h2
      cases h2
    · exact (hb0.mono hB).grown hg0 (by omega) (fun j e => by cases e)
  have hk0 : Kept S n k (fun a b => Lv S n k a b ∧ Maps.has D (klC a b) = false) ks := hk.same fun a b _ => by
    refine ⟨False.elim, fun ⟨h1, h2⟩ => ?_⟩
    rw [(hkeys a b).2 h1] at h2
    cases h2
  have hc0 := hown.size_le
  clear hM0 hp0 hown1 hb0 hrg0 hg0 hs0 hp hk hm hmm hsz
  generalize hrr : W.heap.size = r at *
  generalize hbb : w.heap.size = ba at *
  clear hrr hbb
  go_loopw [9] (fun _ wr => ∃ (left : Lit → Bool) (cnt : Nat) (D2 : DataW Unit) (V' : Value) (ks' : List Nat), MgI B w wr bl r ba pb N D left cnt (AbF S n k (fun a b => left (klC a b) = false)) (8 * (N - cnt)) D2 V' ks' ∧ Hid (Kept S n k (fun a b => Lv S n k a b ∧ left (klC a b) = false) ks') ∧ cnt ≤ N) (fun _ wr => wr.rangeLeft bl r)
  case atStart => exact ⟨_, _, _, _, _, hI0, Lib.hid hk0, hc0⟩
  case round =>
    clear hI0 hk0 hc0
    obtain ⟨left, cnt, D2, V', ks', I, hK, hcN⟩ := hrel
    go_wp2_with (first | (at_next; refine wpList_next_ranges _ rfl _ rfl 57 Tryz.cubeKeyed (plainElem Tryz.prog 3) (fun x : BitVec 8 × BitVec 8 => cv x.1 x.2) (Value.int .i64) (fun key kl hkey => by obtain ⟨m, v, e, -⟩ := key_inv hkey; exact ⟨(m, v), e⟩) (fun v y hv => by obtain ⟨c, rfl, _⟩ := plainElem_int_inv Tryz.underlying3 hv; exact ⟨c, rfl⟩) bl r N _ _ _ rfl I.rg ?_ ?_) | go_in)
    · intro _ hl0
      go_wp2
      go_ret
      exact ⟨ba, D2, V', ks', rfl, I.mp.same (fun a b => abF_all (fun a b => hl0 (klC a b)) a b) (by omega) (by omega), I.pr, hK.out.next (fun a b hpr => ⟨fun h => h.1.2, fun h => ⟨⟨((primB_iff _ _ _ _).1 hpr).1, h⟩, hl0 _⟩⟩), I.be⟩
    · intro m v c kl yd yp w1 cnt1 hkey hlx hv hat hrg1 hlt hg1 hs1 hen
      rw [key_cb] at hkey
      injection hkey with hkey
      subst hkey
      have hL : Hid (Lv S n k m v) := Lib.hid ((hkeys m v).1 (Maps.has_true_of_atKey hat))
      have I1 := I.next (by omega) hg1 hrg1
      have hml := Lib.hid I.rg.left_eq
      have hBw : B ≤ w1.heap.size := by have := I1.mp.lt; omega
      clear hs1 hat hv hg1 hrg1 I
      unfold cv bvv at hen
      have hI2 := I1.below hBw (below_alloc1 w1 (.cells #[.int .u8 m.toNat, .int .u8 v.toNat] 57))
      have hc2 := heap_alloc_new w1 (.cells #[.int .u8 m.toNat, .int .u8 v.toNat] 57)
      go_upto_region 5 with (fail)
      generalize w1.alloc _ = w2 at *
      generalize w1.heap.size = cb at *
      have hleft := Lib.hid (fun a b => come_next (left := left) (m := m) (v := v) a b)
      generalize hL1 : (fun z => left z && !z.sameKey (klC m v)) = left1 at *
      have hleft1 : Hid (∀ a b, left1 (klC a b) = false ↔ left (klC a b) = false ∨ (a = m ∧ b = v)) := Lib.hid (fun a b => by rw [← hL1]; exact hleft.out a b)
      clear hL1 hleft I1 hen
      have hcB : B ≤ w2.heap.size := by have := hI2.mp.lt; omega
      have hI3 := hI2.same (f' := fun a b => AbF S n k (fun a b => left (klC a b) = false) a b ∨ OneF S n k m v 0 a b) (fun a b => ⟨Or.inl, fun h => h.elim id (fun h => absurd h oneF_zero)⟩) (Nat.le_refl _)
      clear hI2
      generalize hF0 : AbF S n k (fun a b => left (klC a b) = false) = F0 at *
      have hFh := Lib.hid hF0
      clear hF0
      obtain ⟨M0, hM0, hM0N⟩ : ∃ M0, M0 = 8 * (N - cnt) ∧ M0 ≤ 8 * N := ⟨_, rfl, by omega⟩
      rw [← hM0] at hI3
      have hM0h := Lib.hid hM0
      clear hM0
      go_wp2_with fail
      go_loopw [20, 9] (fun t u wr => ∃ (i : Nat) (b : Bool) (D3 : DataW Unit), t = .int .i64 i ∧ u = .bool b ∧ i ≤ n ∧ MgI B w wr bl r ba pb N D left1 cnt1 (fun a b => F0 a b ∨ OneF S n k m v i a b) (M0 + i) D3 V' ks' ∧ wr.heap[cb]? = some (.cells #[.int .u8 m.toNat, .int .u8 v.toNat] 57 (0, 0)) ∧ Hid (b = true ↔ ∀ j, j < i → ¬ Lv S n k m (flV v j))) (fun t _ _ => n - (intOf t).toNat)
      case atStart => exact ⟨0, true, D2, rfl, rfl, Nat.zero_le _, hI3, hc2, Lib.hid ⟨fun _ j hj => by omega, fun _ => rfl⟩⟩
      case round =>
        clear hI3 hc2 hcB
        obtain ⟨i, b, D3, rfl, rfl, hin, I, hc, hb⟩ := hrel
        have hcB : B ≤ wr.heap.size := by have := I.mp.lt; omega
        by_cases hlt2 : i < n
        · have d1 : decide ((i : Int) < (n : Int)) = true := decide_eq_true (by omega)
          have i0 : ¬ (i : Int) < 0 := by omega
          have HX : Hid (bits .xor .u8 (v.toNat : Int) (2 ^ i % 256) = ((flV v i).toNat : Int)) := Lib.hid (by
            have h := xor8 v (BitVec.twoPow 8 i)
            rw [BitVec.toNat_twoPow] at h
            exact h)
          have HX2 : Hid (bits .xor .u8 (v.toNat : Int) (IntKind.u8.wrap (2 ^ i)) = ((flV v i).toNat : Int)) := Lib.hid (by rw [IntKind.wrap_u8]; exact HX.out)
          obtain ⟨C0_, C1_, -⟩ := box2 hc rfl
          have hcl : cb < wr.heap.size := size_of_block hc
          go_upto_region 9 with (fail)
          refine wp_region_held_drew (S := fun W_ => Below wr.heap.size wr W_) rfl (Below.refl _ wr).drew (fun hHeld => ?_)
          obtain ⟨X0, hX0⟩ : ∃ X0, X0 = wr.drew := ⟨_, rfl⟩
          rw [← hX0] at hHeld ⊢
          clear hX0
          refine wpAnyH_take (i := 0) (oi := _) (v := ?_) rfl (by kernel_rfl) (by kernel_rfl) (by kernel_rfl) (fun _ _ _ h => h) (Or.inl ⟨by rfl, ?_⟩) (by assumption) ?_
          rotate_left 1
          · intro w_ hSw
            go_simp
            try with_reducible rfl
          try simp only [Act.put, List.setIfInBounds_toArray]
          refine wpAnyH_take (i := 1) (oi := _) (v := ?_) rfl (by kernel_rfl) (by kernel_rfl) (by kernel_rfl) (fun _ _ _ h => h) (Or.inl ⟨by rfl, ?_⟩) (by assumption) ?_
          rotate_left 1
          · intro w_ hSw
            have q_ := C0_ ⟨w_, hSw⟩
            dsimp only at q_
            go_simp
            try with_reducible rfl
          try simp only [Act.put]
          refine wpAnyH_take (i := 2) (oi := _) (v := ?_) rfl (by kernel_rfl) (by kernel_rfl) (by kernel_rfl) (fun _ _ _ h => h) (Or.inl ⟨by rfl, ?_⟩) (by assumption) ?_
          rotate_left 1
          · intro w_ hSw
            go_simp
            try with_reducible rfl
          try simp only [Act.put]
          refine wpAnyH_take (i := 3) (oi := _) (v := ?_) rfl (by kernel_rfl) (by kernel_rfl) (by kernel_rfl) (fun _ _ _ h => h) (Or.inl ⟨by rfl, ?_⟩) (by assumption) ?_
          rotate_left 1
          · intro w_ hSw
            have q_ := C1_ ⟨w_, hSw⟩
            dsimp only at q_
            go_simp
            try with_reducible rfl
          try simp only [Act.put]
          refine wpAnyH_take (i := 4) (oi := _) (v := ?_) rfl (by kernel_rfl) (by kernel_rfl) (by kernel_rfl) (fun _ _ _ h => h) (Or.inl ⟨by rfl, ?_⟩) (by assumption) ?_
          rotate_left 1
          · intro w_ hSw
            go_simp
            try with_reducible rfl
          try simp only [Act.put]
          refine wpAnyH_take (i := 5) (oi := _) (v := ?_) rfl (by kernel_rfl) (by kernel_rfl) (by kernel_rfl) (fun _ _ _ h => h) (Or.inl ⟨by rfl, ?_⟩) (by assumption) ?_
          rotate_left 1
          · intro w_ hSw
            go_simp
            try with_reducible rfl
          try simp only [Act.put]
          refine wpAnyH_take (i := 6) (oi := _) (v := ?_) rfl (by kernel_rfl) (by kernel_rfl) (by kernel_rfl) (fun _ _ _ h => h) (Or.inl ⟨by rfl, ?_⟩) (by assumption) ?_
          rotate_left 1
          · intro w_ hSw
            go_simp
            try with_reducible rfl
          try simp only [Act.put]
          refine wpAnyH_take (i := 7) (oi := _) (v := ?_) rfl (by kernel_rfl) (by kernel_rfl) (by kernel_rfl) (fun _ _ _ h => h) (Or.inl ⟨by rfl, ?_⟩) (by assumption) ?_
          rotate_left 1
          · intro w_ hSw
            go_simp
            try with_reducible rfl
          try simp only [Act.put]
          refine wpAnyH_ready (rs := [8]) (by kernel_rfl) (by simp) ?_
          refine AllReadyH.cons (o := _) rfl (fun _ hK => ?_) AllReadyH.nil
          go_simp
          have n7 := heap_alloc_new X0 (.cells #[.int .u8 0, .int .u8 0] 57)
          have hal := hHeld.alloc hHeld.size (.cells #[.int .u8 0, .int .u8 0] 57)
          have l7 := hHeld.size
          generalize X0.heap.size = b7 at *
          generalize X0.alloc (.cells #[.int .u8 0, .int .u8 0] 57 (0, 0)) = X1 at *
          refine hK.out _ _ hal (fun hHeld => ?_)
          clear hK
          try simp only [Act.put, List.setIfInBounds_toArray, List.set_cons_zero, List.set_cons_succ]
          refine wpAnyH_ready (rs := [9]) (by kernel_rfl) (by simp) ?_
          refine AllReadyH.cons (o := _) rfl (fun _ hK => ?_) AllReadyH.nil
          obtain ⟨y0, y1, yf⟩ := now2 n7 rfl
          simp only [HX2.out]
          go_simp
          clear y0 y1 yf
          refine hK.out _ _ ((hHeld.setCell (by show wr.heap.size ≤ b7; omega) _).setCell (by show wr.heap.size ≤ b7; omega) _) (fun hHeld => ?_)
          clear hK
          try simp only [Act.put, List.setIfInBounds_toArray, List.set_cons_zero, List.set_cons_succ]
          have n9 := put2 (x0 := .int .u8 m.toNat) (x1 := .int .u8 (flV v i).toNat) n7
          have I3 := I.below hcB hHeld
          have hc3 := keep_blk hHeld hc
          have hs3 := hHeld.size
          clear hHeld n7 hal l7 C0_ C1_ I hc HX HX2
          refine wpAnyH_done (by kernel_rfl) ?_ _
          generalize (X1.setCell ⟨b7, 0, none⟩ (.int .u8 m.toNat)).setCell ⟨b7, 1, none⟩ (.int .u8 (flV v i).toNat) = w3 at *
          have hcB3 : B ≤ w3.heap.size := by omega
          obtain ⟨z0, z1, -⟩ := now2 n9 rfl
          have hmb : MpAt w3 bl N N (Lv S n k) D := ⟨I3.rg.owns, hkeys, hcounts⟩
          obtain ⟨cn, hr1, hr2, -⟩ := hmb.look m (flV v i)
          unfold cv bvv at hr1
          by_cases hf : Lv S n k m (flV v i)
          · have d2 : decide ((0 : Int) < (cn : Int)) = true := decide_eq_true (by have := hr2.2 hf; omega)
            have d3 : decide (0 < cn) = true := decide_eq_true (hr2.2 hf)
            clear hmb hr2
            have hbit := lv_fl hL.out hlt2 hf
            have HO := fun w => cwithout_right (lv_right hL.out) i (by omega) w
            have hst := Lib.hid (oneF_yes hlt2 hf)
            have hb' : Hid ((false : Bool) = true ↔ ∀ j, j < i + 1 → ¬ Lv S n k m (flV v j)) := Lib.hid ⟨fun h => (Bool.false_ne_true h).elim, fun h => absurd hf (h i (by omega))⟩
            clear hb hf hbit
            go_upto_region 11 with (fail)
            clear hr1 z0 z1 n9
            refine wp_region_held_drew (S := fun _ => True) rfl trivial (fun _ => ?_)
            obtain ⟨X4, hX4⟩ : ∃ X4, X4 = w3.drew := ⟨_, rfl⟩
            have I4 := I3.below hcB3 ((Below.refl _ w3).drew)
            have hc4 := keep_blk ((Below.refl _ w3).drew) hc3
            have hcB4 : B ≤ w3.drew.heap.size := hcB3
            rw [← hX4] at I4 hc4 hcB4 ⊢
            clear hX4 I3 hc3 hcB3
            obtain ⟨c0, c1, -⟩ := now2 hc4 rfl
            unfold cv bvv at HO
            refine wpAnyH_take (i := 0) (oi := _) (v := ?_) rfl (by kernel_rfl) (by kernel_rfl) (by kernel_rfl) (fun _ _ _ h => h) (Or.inl ⟨by rfl, ?_⟩) trivial ?_
            rotate_left 1
            · intro w_ hSw
              go_simp
              try with_reducible rfl
            try simp only [Act.put, List.setIfInBounds_toArray]
            refine wpAnyH_take (i := 2) (oi := _) (v := ?_) rfl (by kernel_rfl) (by kernel_rfl) (by kernel_rfl) (fun _ _ _ h => h) (Or.inl ⟨by rfl, ?_⟩) trivial ?_
            rotate_left 1
            · intro w_ hSw
              go_simp
              try with_reducible rfl
            try simp only [Act.put]
            refine wpAnyH_ready (rs := [1]) (by kernel_rfl) (by simp) ?_
            refine AllReadyH.cons (o := _) rfl (fun _ hK => ?_) AllReadyH.nil
            go_simp
            refine hK.out _ _ trivial (fun _ => ?_)
            clear hK
            try simp only [Act.put, List.setIfInBounds_toArray, List.set_cons_zero, List.set_cons_succ]
            refine wpAnyH_ready (rs := [3]) (by kernel_rfl) (by simp) ?_
            refine AllReadyH.cons (o := _) rfl (fun _ hK => ?_) AllReadyH.nil
            go_simp
            refine (HO X4).mono ?_
            rintro e X5 ⟨rfl, hb5⟩
            have I5 := I4.below hcB4 hb5
            have hc5 := keep_blk hb5 hc4
            have hcB5 : B ≤ X5.heap.size := by have := hb5.size; omega
            clear HO c0 c1 I4 hc4 hcB4 hb5
            obtain ⟨cn2, v0, st, w5, hcT, r1, r2, r3, w6, D4, r4, hM5, ht5⟩ := I5.mp.count (by omega) (by omega) (drM m i) (drM v i)
            unfold cv bvv at r1 r2 r3
            unfold goInt at r2 r4
            have I6 := (I5.turned hB (by omega) ht5 hM5).same (f' := fun a b => F0 a b ∨ OneF S n k m v (i + 1) a b) (M' := M0 + (i + 1)) (fun a b => by rw [← hst.out a b, or_assoc]) (by omega)
            have hc6 := (ht5.grown.block cb (size_of_block hc5) (fun e => by injection e with e; exact hM5.ne ((ht5.grown.block cb (size_of_block hc5) (fun e' => I5.mp.ne hc5 (by injection e' with e'; exact e'.symm))).trans hc5) e.symm)).trans hc5
            have hcw : IntKind.i64.wrap ((cn2 : Int) + 1) = (cn2 : Int) + 1 := by rw [IntKind.wrap_i64]; omega
            clear hM5 ht5 I5 hc5 hst
            try go_simp
            refine hK.out _ _ trivial (fun _ => ?_)
            clear hK
            try simp only [Act.put, List.setIfInBounds_toArray, List.set_cons_zero, List.set_cons_succ]
            refine wpAnyH_ready (rs := [4, 6]) (by kernel_rfl) (by simp) ?_
            refine AllReadyH.cons (o := _) rfl (fun _ hK => ?_) ?_
            · go_simp
              refine hK.out _ _ trivial (fun _ => ?_)
              clear hK
              try simp only [Act.put, List.setIfInBounds_toArray, List.set_cons_zero, List.set_cons_succ]
              refine wpAnyH_take (i := 5) (oi := _) (v := ?_) rfl (by kernel_rfl) (by kernel_rfl) (by kernel_rfl) (fun _ _ _ h => h) (Or.inl ⟨by rfl, ?_⟩) trivial ?_
              rotate_left 1
              · intro w_ hSw
                go_simp
                try with_reducible rfl
              try simp only [Act.put, List.setIfInBounds_toArray]
              refine wpAnyH_ready (rs := [6]) (by kernel_rfl) (by simp) ?_
              refine AllReadyH.cons (o := _) rfl (fun _ hK => ?_) AllReadyH.nil
              go_simp
              refine hK.out _ _ trivial (fun _ => ?_)
              clear hK
              try simp only [Act.put, List.setIfInBounds_toArray, List.set_cons_zero, List.set_cons_succ]
              refine wpAnyH_take (i := 7) (oi := _) (v := ?_) rfl (by kernel_rfl) (by kernel_rfl) (by kernel_rfl) (fun _ _ _ h => h) (Or.inl ⟨by rfl, ?_⟩) trivial ?_
              rotate_left 1
              · intro w_ hSw
                go_simp
                try with_reducible rfl
              try simp only [Act.put, List.setIfInBounds_toArray]
              refine wpAnyH_ready (rs := [8]) (by kernel_rfl) (by simp) ?_
              refine AllReadyH.cons (o := _) rfl (fun _ hK => ?_) AllReadyH.nil
              go_simp
              refine hK.out _ _ trivial (fun _ => ?_)
              clear hK
              try simp only [Act.put, List.setIfInBounds_toArray, List.set_cons_zero, List.set_cons_succ]
              refine wpAnyH_done (by kernel_rfl) ?_ _
              go_wp2
              go_roundw
              case rel => exact ⟨i + 1, false, D4, by go_num, rfl, by omega, I6, hc6, hb'⟩
              case measure => simp [intOf]; omega
            · refine AllReadyH.cons (o := _) rfl (fun _ hK => ?_) AllReadyH.nil
              go_simp
              refine hK.out _ _ trivial (fun _ => ?_)
              clear hK
              try simp only [Act.put, List.setIfInBounds_toArray, List.set_cons_zero, List.set_cons_succ]
              refine wpAnyH_take (i := 7) (oi := _) (v := ?_) rfl (by kernel_rfl) (by kernel_rfl) (by kernel_rfl) (fun _ _ _ h => h) (Or.inl ⟨by rfl, ?_⟩) trivial ?_
              rotate_left 1
              · intro w_ hSw
                go_simp
                try with_reducible rfl
              try simp only [Act.put, List.setIfInBounds_toArray]
              refine wpAnyH_ready (rs := [4]) (by kernel_rfl) (by simp) ?_
              refine AllReadyH.cons (o := _) rfl (fun _ hK => ?_) AllReadyH.nil
              go_simp
              refine hK.out _ _ trivial (fun _ => ?_)
              clear hK
              try simp only [Act.put, List.setIfInBounds_toArray, List.set_cons_zero, List.set_cons_succ]
              refine wpAnyH_take (i := 5) (oi := _) (v := ?_) rfl (by kernel_rfl) (by kernel_rfl) (by kernel_rfl) (fun _ _ _ h => h) (Or.inl ⟨by rfl, ?_⟩) trivial ?_
              rotate_left 1
              · intro w_ hSw
                go_simp
                try with_reducible rfl
              try simp only [Act.put, List.setIfInBounds_toArray]
              refine wpAnyH_ready (rs := [8]) (by kernel_rfl) (by simp) ?_
              refine AllReadyH.cons (o := _) rfl (fun _ hK => ?_) AllReadyH.nil
              go_simp
              refine hK.out _ _ trivial (fun _ => ?_)
              clear hK
              try simp only [Act.put, List.setIfInBounds_toArray, List.set_cons_zero, List.set_cons_succ]
              refine wpAnyH_done (by kernel_rfl) ?_ _
              go_wp2
              go_roundw
              case rel => exact ⟨i + 1, false, D4, by go_num, rfl, by omega, I6, hc6, hb'⟩
              case measure => simp [intOf]; omega
          · have d2 : decide ((0 : Int) < (cn : Int)) = false := decide_eq_false (by intro h; exact hf (hr2.1 (by omega)))
            have d3 : decide (0 < cn) = false := decide_eq_false (fun h => hf (hr2.1 h))
            clear hmb hr2
            have hb' : Hid (b = true ↔ ∀ j, j < i + 1 → ¬ Lv S n k m (flV v j)) := Lib.hid ⟨fun h j hj => by
              by_cases e : j = i
              · subst e; exact hf
              · exact hb.out.1 h j (by omega), fun h => hb.out.2 fun j hj => h j (by omega)⟩
            have I6 := I3.same (f' := fun a b => F0 a b ∨ OneF S n k m v (i + 1) a b) (M' := M0 + (i + 1)) (fun a b => by rw [oneF_no hf a b]) (by omega)
            clear hb hf I3
            go_wp2
            go_roundw
            case rel => exact ⟨i + 1, b, D3, by go_num, rfl, by omega, I6, hc3, hb'⟩
            case measure => simp [intOf]; omega
        · obtain rfl : i = n := by omega
          have d1 : decide ((i : Int) < (i : Int)) = false := decide_eq_false (by omega)
          have hpr := Lib.hid (lv_prime hL.out)
          have hM9 : M0 + i ≤ 8 * (N - cnt1) := by have := hM0h.out; omega
          have I6 := I.same (f' := AbF S i k (fun a b => left1 (klC a b) = false)) (M' := 8 * (N - cnt1)) (fun a b => by rw [← hFh.out]; exact abF_one hL.out hleft1.out a b) hM9
          clear I hFh hM0h
          cases b
          · have hK6 : Hid (Kept S i k (fun a b => Lv S i k a b ∧ left1 (klC a b) = false) ks') := Lib.hid (hK.out.same fun a b hp => by
              rw [hleft1.out a b]
              refine ⟨fun h => ⟨h.1, Or.inl h.2⟩, fun h => ⟨h.1, ?_⟩⟩
              rcases h.2 with h2 | ⟨rfl, rfl⟩
              · exact h2
              · exact absurd (hb.out.2 (fun j hj => hpr.out.1 hp j hj)) (by decide))
            clear hK hb hpr hleft1 hlx hL
            go_wp2
            go_roundw
            case rel => exact ⟨left1, cnt1, D3, V', ks', I6, hK6, by omega⟩
            case measure => rw [I6.rg.left_eq, hml.out]; exact hlt
          · have hp := hpr.out.2 (fun j hj => hb.out.1 rfl j hj)
            have HKp := keep_any m v B pb V' ks' hK.out.rise (fun x hx => hK.out.lt hx) wr hcB I6.pr
            obtain ⟨c0, c1, -⟩ := now2 hc rfl
            unfold cv bvv at HKp
            go_wp2_with fail
            refine HKp.mono ?_
            rintro e w5 ⟨q, V5, rfl, hlo, hhi, hpr5, ho5⟩
            have I7 := I6.kept hBp hcB ho5 hpr5
            have hfr := hK.out.fresh hL.out.2 (fun h => by rw [hlx] at h; exact absurd h.2 (by decide))
            have hK7 : Hid (Kept S i k (fun a b => Lv S i k a b ∧ left1 (klC a b) = false) (insK ks' q (keyC m v))) := Lib.hid ((hK.out.put hp hlo (fun j y hj hy => by
              have h1 := hhi j y hj hy
              have h2 : y ≠ keyC m v := fun e => hfr (e ▸ List.mem_of_getElem? hy)
              omega)).same fun a b hpa => by
                rw [hleft1.out a b]
                constructor
                · rintro (h | ⟨rfl, rfl⟩)
                  · exact ⟨h.1, Or.inl h.2⟩
                  · exact ⟨hL.out, Or.inr ⟨rfl, rfl⟩⟩
                · rintro ⟨h1, h2 | h2⟩
                  · exact Or.inl ⟨h1, h2⟩
                  · exact Or.inr h2)
            clear hK hb hpr hleft1 hlx hL HKp hlo hhi hpr5 ho5 I6 c0 c1 hc hfr hp
            go_wp2
            go_roundw
            case rel => exact ⟨left1, cnt1, D3, V5, _, I7, hK7, by omega⟩
            case measure => rw [I7.rg.left_eq, hml.out]; exact hlt
end Go.Proofs.YtehpccanjlaokaaGreat
namespace Go.Proofs.YtehpccanjlaokaaGreat
open Go.RowKit Go.Joins
open Go.Maps (Keyed)

theorem pow8 (k : Nat) : 256 * 8 ^ (k + 1) = 8 * (256 * 8 ^ k) := by rw [Nat.pow_succ]; omega
theorem pow8_le {k : Nat} (h : k ≤ 8) : 256 * 8 ^ k ≤ 4294967296 :=
  Nat.le_trans (Nat.mul_le_mul_left 256 (Nat.pow_le_pow_right (by decide) h)) (by decide)
set_option maxHeartbeats 4000000 in
set_option maxRecDepth 100000 in
theorem pall_on (S : BitVec 256) (n : Nat) (hn : n ≤ 8) (h : decide (S &&& ~~~(allB n) = 0) = true) (w : World) :
    Calls Tryz.prog 25 #[sv S, .int .i64 n] w fun e w' => ∃ v, e = .returned (.tuple #[v, .int .i64 0]) ∧ w'.ownsRow w.heap.size 57 2 v (prims S n).length (cbsV (prims S n)) ∧ Below w.heap.size w w' := by
  have HA := fun w => all_any n hn w
  have HW := fun w => within_any S (allB n) w
  have HS := fun w => single_any S n hn w
  have hsg := Lib.hid (fun m v => sgF_all hn (of_decide_eq_true h) m v)
  rw [h] at HW
  clear h
  have HMg := Lib.hid (fun k N hN B bl pb D V ks w hB hBp hm hp hk => merge_any S n k N hn hN B bl pb D V ks w hB hBp hm hp hk)
  have hall := Lib.hid (fun k ks (h : Kept S n k (fun _ _ => False) ks) hz => h.all hz)
  generalize allB n = L at *
  have hx := heap_alloc_new w (.cells (sa S) 51)
  have hb := below_alloc1 w (.cells (sa S) 51)
  unfold sv sa wv at *
  go_enter Tryz.func25, Tryz.ntmps25
  go_upto_region 1 with (fail)
  generalize w.alloc _ = W at *
  go_wp2_with fail
  refine (HA _).mono ?_
  rintro e w1 ⟨rfl, hb1⟩
  have hx1 := keep_blk hb1 hx
  have hB := hb.trans (hb1.mono hb.size)
  clear HA hb hb1 hx
  go_upto_region 2 with (fail)
  have hz := heap_alloc_new w1 (.cells #[.int .u64 (wd L 0).toNat, .int .u64 (wd L 1).toNat, .int .u64 (wd L 2).toNat, .int .u64 (wd L 3).toNat] 51)
  have hx2 := keep_alloc (x := .cells #[.int .u64 (wd L 0).toNat, .int .u64 (wd L 1).toNat, .int .u64 (wd L 2).toNat, .int .u64 (wd L 3).toNat] 51) hx1
  have hB2 := hB.trans ((below_alloc1 w1 (.cells #[.int .u64 (wd L 0).toNat, .int .u64 (wd L 1).toNat, .int .u64 (wd L 2).toNat, .int .u64 (wd L 3).toNat] 51)).mono hB.size)
  clear hx1 hB
  generalize hW2 : w1.alloc _ = w2 at *
  clear hW2
  obtain ⟨z0, z1, z2, z3, -⟩ := now4 hz rfl
  obtain ⟨x0, x1, x2, x3, -⟩ := now4 hx2 rfl
  go_wp2_with fail
  refine (HW _).mono ?_
  rintro e w3 ⟨rfl, hb3⟩
  have hx3 := keep_blk hb3 hx2
  have hB3 := hB2.trans (hb3.mono hB2.size)
  clear HW z0 z1 z2 z3 x0 x1 x2 x3 hz hx2 hB2 hb3
  go_upto_region 5 with (fail)
  have hp4 : PrmAt (w3.alloc (.cells #[.slice none 0 0] 65)) w.heap.size w3.heap.size (.slice none 0 0) [] := ⟨heap_alloc_new w3 _, World.ownsRow_nil _ _ _ _⟩
  have hx4 := keep_alloc (x := .cells #[.slice none 0 0] 65) hx3
  have hB4 := hB3.trans ((below_alloc1 w3 (.cells #[.slice none 0 0] 65)).mono hB3.size)
  have hpbl : w.heap.size ≤ w3.heap.size := hB3.size
  clear hx3 hB3
  generalize w3.alloc _ = w4 at *
  generalize w3.heap.size = pb at *
  obtain ⟨x0, x1, x2, x3, -⟩ := now4 hx4 rfl
  go_wp2_with fail
  refine (HS _).mono ?_
  rintro e w5 ⟨b0, D0, rfl, -, hM5, hb5⟩
  have hp5 := hp4.below hb5
  have hB5 := hB4.trans (hb5.mono hB4.size)
  have hM6 := hM5.same hsg.out (Nat.le_refl _) (Nat.le_refl _)
  clear HS x0 x1 x2 x3 hx4 hp4 hB4 hb5 hM5 hsg
  go_wp2_with fail
  go_loopg [10] (n + 1) (fun g t wr => ∃ (k bl : Nat) (D : DataW Unit) (V : Value) (ks : List Nat) (N : Nat), t = .map (some bl) ∧ k + g = n + 1 ∧ Hid (N ≤ 256 * 8 ^ k) ∧ MpAt wr bl N N (Lv S n k) D ∧ PrmAt wr w.heap.size pb V ks ∧ Hid (Kept S n k (fun _ _ => False) ks) ∧ Below w.heap.size w wr)
  case atStart => exact ⟨0, b0, D0, _, [], 256, rfl, by omega, Lib.hid (by decide), hM6, hp5, Lib.hid Kept.nil, hB5⟩
  case round =>
    clear hM6 hp5 hB5
    obtain ⟨k, bl, D, V, ks, N, rfl, hk, hN, hM, hP, hK, hBw⟩ := hrel
    obtain ⟨c, hlen, hc0, hc1⟩ := hM.len 3
    by_cases hc : c = 0
    · subst hc
      have hz := hc0 rfl
      have hks := hall.out k ks hK.out hz
      obtain ⟨p0, -⟩ := nowP hP.box
      have hrow := hP.row
      have hfin : wr.ownsRow w.heap.size 57 2 V (prims S n).length (cbsV (prims S n)) := by
        unfold prims
        rw [← hks, List.length_map]
        exact hrow
      obtain ⟨A, cc, eV⟩ := own_form hrow
      clear HMg hall hrow hks hz hc0 hc1 hK
      subst eV
      go_wp2
      go_ret2
      exact ⟨_, rfl, hfin, hBw⟩
    · have hkn : k ≤ n := by
        rcases Nat.lt_or_ge n k with q | q
        · exact absurd (hc1 fun m v hl => by have := hl.2; omega) hc
        · exact q
      have d1 : decide ((0 : Int) < (c : Int)) = true := decide_eq_true (by omega)
      have d2 : decide (0 < c) = true := decide_eq_true (by omega)
      have HM1 := HMg.out k N (Nat.le_trans hN.out (pow8_le (by omega))) w.heap.size bl pb D V ks wr hBw.size hpbl hM hP hK.out
      clear hall hc0 hc1 hK HMg
      go_wp2_with fail
      refine HM1.mono ?_
      rintro e w6 ⟨ba, D', V', ks', rfl, hM', hP', hK', hB'⟩
      clear HM1 hM hP
      go_wp2
      go_roundg (n - k)
      case rel => exact ⟨k + 1, ba, D', V', ks', 8 * N, rfl, by omega, Lib.hid (by rw [pow8]; have := hN.out; omega), hM', hP', Lib.hid hK', hBw.trans hB'⟩
      case measure => omega
end Go.Proofs.YtehpccanjlaokaaGreat
