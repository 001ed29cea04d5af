/- The members that hold none of another family: bare. The members that hold no other one: least. What is done aside, in a draft: Join, Least. The law's own: great, list; what lasts. The law's own start. The document's examples of layer 8. -/
import Derived.Test.YtehpccanjlaokaaGreatGQ30
import Derived.Test.YtehpccanjlaokaaGreatGQ27
import Derived.Test.YtehpccanjlaokaaGreatGQ28
namespace Go.Proofs.YtehpccanjlaokaaGreat
open Go.RowKit Go.Joins

end Go.Proofs.YtehpccanjlaokaaGreat
namespace Go.Proofs.YtehpccanjlaokaaGreat
open Go.RowKit Go.Joins

end Go.Proofs.YtehpccanjlaokaaGreat
namespace Go.Proofs.YtehpccanjlaokaaGreat
open Go.RowKit Go.Joins

theorem zdraft_any (w : World) (N : Nat → Prop) (hN : ∀ k, N k → k < w.heap.size) :
    Calls Tryz.prog 117 #[] w fun e w' => ∃ zd ad bd wd md : Nat, e = .returned (.pointer (some ⟨wd, 0, none⟩)) ∧ ZdAt w' N zd ad bd (.slice none 0 0) 20000 0 [] ∧ WkAt w' wd zd md ∧ (∀ S0 S, RemZ w' md S0 S 0) ∧ md ≠ bd ∧ w.heap.size ≤ bd ∧ w.heap.size ≤ md ∧ Below w.heap.size w w' := by
  have HN := new_yes 20000 w (Nat.le_refl _)
  have HS := fun w zb => zstart_any (w := w) zb
  go_enter Tryz.func117, Tryz.ntmps117
  go_wp2_with fail
  refine HN.mono ?_
  rintro e w2 ⟨ad, bd, rfl, hA2, hb2⟩
  clear HN
  have hb3 := below_alloc1 w2 (.cells #[.pointer (some ⟨ad, 0, none⟩)] 47 (0, 0))
  have hz3 := heap_alloc_new w2 (.cells #[.pointer (some ⟨ad, 0, none⟩)] 47 (0, 0))
  go_wp2_with fail
  refine (HS _ _).mono ?_
  rintro e w4 ⟨wd, md, rfl, hw4, hr4, hmm, hb4⟩
  clear HS
  have hsz := hb3.size
  have hbd := hA2.lt.2.2
  go_wp2
  go_ret
  refine ⟨w2.heap.size, ad, bd, wd, md, rfl, ⟨keep_blk hb4 hz3, ((hA2.below hb3).below hb4).low, ⟨VSt.nil, Nat.zero_le _, Nat.le_refl _, Nat.le_refl _, fun j hj => by omega⟩, ZSt.nil, Gap.nil, fun k hk => ⟨Nat.lt_of_lt_of_le (hN k hk) (Nat.le_trans hb2.size (Nat.le_trans hb3.size hb4.size)), fun hf => ?_⟩⟩, hw4, hr4, by omega, hA2.base.2, by have := hb2.size; omega, hb2.trans ((hb3.trans (hb4.mono hb3.size)).mono hb2.size)⟩
  have h1 := hN k hk
  have h2 := hA2.fp k hf
  omega
theorem zaside_any (w : World) (zb wd : Nat) (fn : Fn) (pre caps : Array Value) :
    Calls Tryz.prog 118 #[.pointer (some ⟨zb, 0, none⟩), .pointer (some ⟨wd, 0, none⟩), .func fn pre caps] w fun e w' => e = .returned (.func (.func 146) #[] #[.pointer (some ⟨w.heap.size + 1, 0, none⟩), .pointer (some ⟨w.heap.size, 0, none⟩), .pointer (some ⟨w.heap.size + 1 + 1, 0, none⟩)]) ∧
      w'.heap[w.heap.size]? = some (.cells #[.pointer (some ⟨zb, 0, none⟩)] 25 (0, 0)) ∧ w'.heap[w.heap.size + 1]? = some (.cells #[.pointer (some ⟨wd, 0, none⟩)] 164 (0, 0)) ∧ w'.heap[w.heap.size + 1 + 1]? = some (.cells #[.func fn pre caps] 166 (0, 0)) ∧ Below w.heap.size w w' := by
  have ha := heap_alloc3_a w (.cells #[.pointer (some ⟨zb, 0, none⟩)] 25 (0, 0)) (.cells #[.pointer (some ⟨wd, 0, none⟩)] 164 (0, 0)) (.cells #[.func fn pre caps] 166 (0, 0))
  have hb := heap_alloc3_b w (.cells #[.pointer (some ⟨zb, 0, none⟩)] 25 (0, 0)) (.cells #[.pointer (some ⟨wd, 0, none⟩)] 164 (0, 0)) (.cells #[.func fn pre caps] 166 (0, 0))
  have hc := heap_alloc3_c w (.cells #[.pointer (some ⟨zb, 0, none⟩)] 25 (0, 0)) (.cells #[.pointer (some ⟨wd, 0, none⟩)] 164 (0, 0)) (.cells #[.func fn pre caps] 166 (0, 0))
  have hB := below_alloc3 w (.cells #[.pointer (some ⟨zb, 0, none⟩)] 25 (0, 0)) (.cells #[.pointer (some ⟨wd, 0, none⟩)] 164 (0, 0)) (.cells #[.func fn pre caps] 166 (0, 0))
  have hA := Lib.hid ha
  have hBB := Lib.hid hb
  have hC := Lib.hid hc
  clear ha hb hc
  go_enter Tryz.func118, Tryz.ntmps118
  go_wp2
  go_ret
  exact ⟨rfl, hA.out, hBB.out, hC.out, hB⟩
def MA (bm bd md : Nat) : Nat → Prop := fun k => k = bm ∨ k = bd ∨ k = md
def NP (N : Nat → Prop) (ab bm : Nat) (v : Value) : Nat → Prop := fun k => N k ∨ Fp ab bm v k
set_option maxHeartbeats 4000000 in
set_option maxRecDepth 100000 in
theorem zaside1_any {fr : Nat} (hcf : ∀ (args : Array Value) (w1 : World), (Sem.run Tryz.prog (callFunc fr args) w1) = .ok (.enter fr args) w1) {N : Nat → Prop} {w : World} {zb ab bm zd ad bd wd md x : Nat} {v : Value} {room full : Nat} {S : St} {pre caps : Array Value} {F : Nat → Bool} {Bd : Nat}
    (hd : ZdAt w N zb ab bm v room full S) (hdd : ZdAt w (NP N ab bm v) zd ad bd (.slice none 0 0) 20000 0 []) (hw : WkAt w wd zd md) (hr : RemZ w md S [] 0) (hmd : md ≠ bd) (hNm : ¬ NP N ab bm v md)
    (bx : w.heap[x]? = some (.cells #[.pointer (some ⟨zb, 0, none⟩)] 25 (0, 0))) (by_ : w.heap[x + 1]? = some (.cells #[.pointer (some ⟨wd, 0, none⟩)] 164 (0, 0))) (bz : w.heap[x + 1 + 1]? = some (.cells #[.func (.func fr) pre caps] 166 (0, 0)))
    (f g : Int) (f0 : 0 ≤ lvl S f) (g0 : 0 ≤ lvl S g) (hfg : 24 * zn S f + 24 * zn S g ≤ 100000) (hF : 24 * cF 24 F ≤ 1000000)
    (hdo : ∀ w2 v2 f2 T c p q, Kz no8 (MZ bd md) (NP N ab bm v) w w2 → ZdAt w2 (NP N ab bm v) zd ad bd v2 20000 f2 T → RemZ w2 md S T c → c ≤ 24 * zn S f + 24 * zn S g → 0 ≤ lvl T p → 0 ≤ lvl T q → zf T 24 p = zf S 24 f → zf T 24 q = zf S 24 g →
      Calls Tryz.prog fr (pre ++ (#[.int .i64 p, .int .i64 q] ++ caps)) w2 (MadeZ no8 (MZ bd md) (NP N ab bm v) w2 zd ad bd 20000 fun _ U id er => OutZ 24 20000 T F Bd U id er)) :
    Calls Tryz.prog 146 #[.int .i64 f, .int .i64 g, .pointer (some ⟨x + 1, 0, none⟩), .pointer (some ⟨x, 0, none⟩), .pointer (some ⟨x + 1 + 1, 0, none⟩)] w
      (MadeZ no8 (MA bm bd md) N w zb ab bm room (TriedZ (room ≤ cnt S + tB 24 F (24 * cF 24 F) ∨ 20000 ≤ 24 * zn S f + 24 * zn S g + Bd) S (GoodT S F (tB 24 F (24 * cF 24 F))))) := by
  have hNs : ∀ k, Fp ab bm v k → NP N ab bm v k := fun k h => .inr h
  have hMA : ∀ {C : Nat → Prop} {w1 w2 : World}, Kz C (MZ bd md) (NP N ab bm v) w1 w2 → Kz C (MA bm bd md) N w1 w2 := fun h => h.mono (fun _ h => h) (fun k hk => hk.elim (fun e => .inr (.inl e)) (fun e => .inr (.inr e))) (fun k hk => .inl hk)
  have hc0 : cnt ([] : St) = 0 := rfl
  -- the first
  have H1 := zcopy_any 24 hdd hd hNs hw hr hmd hNm f f0 (by omega) (Nat.le_refl _) (by omega)
  obtain ⟨x0, -⟩ := nowz1 bx rfl
  obtain ⟨y0, -⟩ := nowz1 by_ rfl
  go_enter Tryz.func146, Tryz.ntmps146
  go_wp2_with fail
  refine H1.mono ?_
  rintro e w1 ⟨v1, full1, T1, p, er1, rfl, hdd1, hk1, hO1, hr1⟩
  clear H1 x0 y0
  have hd1 := hd.same hk1 (fun h => h) hNs
  have hw1 := hw.kz hk1 (fun h => h)
  have bx1 := hk1.cells _ _ _ _ bx (by decide) (by decide) (fun h => h)
  have by1 := hk1.cells _ _ _ _ by_ (by decide) (by decide) (fun h => h)
  have bz1 := hk1.cells _ _ _ _ bz (by decide) (by decide) (fun h => h)
  have few1 := (hO1.more (tB_le _ _ _)).few
  clear hd hdd hw hr bx by_ bz
  rcases hO1.kind with rfl | ⟨rfl, rfl⟩
  · obtain ⟨p0, -, p2⟩ := hO1.ok
    -- the second
    have H2 := zcopy_any 24 hdd1 hd1 hNs hw1 hr1 hmd hNm g g0 (by omega) (Nat.le_refl _) (by omega)
    obtain ⟨x0, -⟩ := nowz1 bx1 rfl
    obtain ⟨y0, -⟩ := nowz1 by1 rfl
    go_wp2_with fail
    refine H2.mono ?_
    rintro e w2 ⟨v2, full2, T2, q, er2, rfl, hdd2, hk2, hO2, hr2⟩
    clear H2 x0 y0
    have hd2 := hd1.same hk2 (fun h => h) hNs
    have hw2 := hw1.kz hk2 (fun h => h)
    have bx2 := hk2.cells _ _ _ _ bx1 (by decide) (by decide) (fun h => h)
    have by2 := hk2.cells _ _ _ _ by1 (by decide) (by decide) (fun h => h)
    have bz2 := hk2.cells _ _ _ _ bz1 (by decide) (by decide) (fun h => h)
    have few2 := (hO2.more (tB_le _ _ _)).few
    have hk12 := hk1.trans hk2
    clear hd1 hdd1 hw1 hr1 bx1 by1 bz1 hk1 hk2
    rcases hO2.kind with rfl | ⟨rfl, rfl⟩
    · obtain ⟨q0, -, q2⟩ := hO2.ok
      have e1 := hO2.ext.lvl p0
      have e2 := hO2.ext.zf hO1.zst.vst 24 p (Nat.le_refl _) p0 (by omega)
      -- what is done
      have H3 := hdo w2 v2 full2 T2 _ p q hk12 hdd2 hr2 (by omega) (by omega) q0 (e2.trans p2) q2
      obtain ⟨z0, -⟩ := nowz1 bz2 rfl
      clear hdo hO1 hO2 p0 p2 q0 q2 e1 e2 hr2
      go_wp2_with fail
      refine H3.mono ?_
      rintro e w3 ⟨v3, full3, T3, id, er3, rfl, hdd3, hk3, hO3⟩
      clear H3 z0
      have hd3 := hd2.same hk3 (fun h => h) hNs
      have hw3 := hw2.kz hk3 (fun h => h)
      have bx3 := hk3.cells _ _ _ _ bx2 (by decide) (by decide) (fun h => h)
      have by3 := hk3.cells _ _ _ _ by2 (by decide) (by decide) (fun h => h)
      have few3 := hO3.few
      have hk13 := hk12.trans hk3
      clear hd2 hdd2 hw2 bx2 by2 bz2 hk12 hk3
      rcases hO3.kind with rfl | ⟨rfl, rfl⟩
      · obtain ⟨i0, -, i2⟩ := hO3.ok
        have hznF : zn T3 id = cF 24 F := by rw [← zn_cF (S := T3) (id := id) (Nat.le_refl _) (by omega), i2]
        have HS := zstart_any (w := w3.drew) zb
        obtain ⟨sx, -⟩ := nowz1 bx3 rfl
        obtain ⟨sy, -⟩ := nowz1 by3 rfl
        obtain ⟨sw, -, -⟩ := now2 hw3 rfl
        have hcell5 : ∀ W5, Below w3.drew.heap.size w3.drew W5 → W5.cell? ⟨x, 0, none⟩ = some (.pointer (some ⟨zb, 0, none⟩)) ∧ W5.cell? ⟨x + 1, 0, none⟩ = some (.pointer (some ⟨wd, 0, none⟩)) ∧ W5.cell? ⟨wd, 0, none⟩ = some (.pointer (some ⟨zd, 0, none⟩)) := fun W5 hb => by
          have hb' : Below w3.heap.size w3 W5 := (Below.refl w3.heap.size w3).drew.trans hb
          exact ⟨(nowz1 (keep_blk hb' bx3) rfl).1, (nowz1 (keep_blk hb' by3) rfl).1, (now2 (keep_blk hb' hw3) rfl).1⟩
        have hcell6 : ∀ W5 W6 mm, Below w3.drew.heap.size w3.drew W5 → Kz no8 (MZ bm mm) (NP N ad bd v3) W5 W6 → W6.cell? ⟨x, 0, none⟩ = some (.pointer (some ⟨zb, 0, none⟩)) ∧ W6.cell? ⟨x + 1, 0, none⟩ = some (.pointer (some ⟨wd, 0, none⟩)) ∧ W6.cell? ⟨wd, 0, none⟩ = some (.pointer (some ⟨zd, 0, none⟩)) := fun W5 W6 mm hb hk => by
          have hb' : Below w3.heap.size w3 W5 := (Below.refl w3.heap.size w3).drew.trans hb
          exact ⟨(nowz1 (hk.cells _ _ _ _ (keep_blk hb' bx3) (by decide) (by decide) (fun h => h)) rfl).1, (nowz1 (hk.cells _ _ _ _ (keep_blk hb' by3) (by decide) (by decide) (fun h => h)) rfl).1, (now2 (hk.cells _ _ _ _ (keep_blk hb' hw3) (by decide) (by decide) (fun h => h)) rfl).1⟩
        have HCopy : ∀ W5 wk mm, Below w3.drew.heap.size w3.drew W5 → WkAt W5 wk zb mm → (∀ S0 S, RemZ W5 mm S0 S 0) → w3.drew.heap.size ≤ mm →
            Calls Tryz.prog 147 #[.pointer (some ⟨wk, 0, none⟩), .pointer (some ⟨zd, 0, none⟩), .int .i64 id] W5 (MadeZ no8 (MZ bm mm) (NP N ad bd v3) W5 zb ab bm room fun _ U r er => OutZ 24 room S F (tB 24 F (24 * cF 24 F)) U r er) := fun W5 wk mm hb hw5 hr5 hmm => by
          have hb' : Below w3.heap.size w3 W5 := (Below.refl w3.heap.size w3).drew.trans hb
          have hd5 : ZdAt W5 (NP N ad bd v3) zb ab bm v room full S := by
            have h5 := hd3.below hb'
            refine ⟨h5.head, h5.ar, h5.ok, h5.zst, h5.gap, fun k hk => ?_⟩
            rcases hk with hk | hk
            · exact h5.off k hk
            · exact ⟨Nat.lt_of_lt_of_le (hdd3.ar.fp_lt k hk) hb'.size, fun h => (hdd3.off k (.inr h)).2 hk⟩
          have hmm' : w3.heap.size ≤ mm := hmm
          have hbm := hd3.ar.lt.2.2
          have hnN : ¬ NP N ad bd v3 mm := by
            rintro (h | h)
            · have := (hd3.off mm h).1; omega
            · have := hdd3.ar.fp_lt mm h; omega
          have HC := zcopy_any 24 hd5 (hdd3.below hb') (fun k hk => .inr hk) hw5 (hr5 T3 S) (by omega) hnN id i0 (by omega) (Nat.le_refl _) (by omega)
          rw [hznF, i2] at HC
          exact HC.mono fun e w' hm => hm.mono fun U r er ho => ho.1
        have hbase13 : Kz no8 (MA bm bd md) N w w3 := hMA hk13
        clear hdd3 hd3 hw3 bx3 by3 hO3 i0 i2 hk13
        go_upto_region 10 with (fail)
        refine wp_region_held_drew (S := fun W_ => W_.cell? ⟨x, 0, none⟩ = some (.pointer (some ⟨zb, 0, none⟩)) ∧ W_.cell? ⟨x + 1, 0, none⟩ = some (.pointer (some ⟨wd, 0, none⟩)) ∧ W_.cell? ⟨wd, 0, none⟩ = some (.pointer (some ⟨zd, 0, none⟩))) rfl ⟨sx, sy, sw⟩ (fun hHeld => ?_)
        refine wpAnyH_take (i := 0) (oi := _) (v := ?_) rfl (by kernel_rfl) (by kernel_rfl) (by kernel_rfl) (fun _ _ _ h => h) (Or.inl ⟨by rfl, ?_⟩) (by assumption) ?_
        rotate_left 1
        · intro w_ hSw
          obtain ⟨s0, s1, s2⟩ := hSw
          go_simp
          try with_reducible rfl
        try simp only [Act.put, List.setIfInBounds_toArray]
        refine wpAnyH_take (i := 2) (oi := _) (v := ?_) rfl (by kernel_rfl) (by kernel_rfl) (by kernel_rfl) (fun _ _ _ h => h) (Or.inl ⟨by rfl, ?_⟩) (by assumption) ?_
        rotate_left 1
        · intro w_ hSw
          obtain ⟨s0, s1, s2⟩ := hSw
          go_simp
          try with_reducible rfl
        try simp only [Act.put]
        refine wpAnyH_take (i := 3) (oi := _) (v := ?_) rfl (by kernel_rfl) (by kernel_rfl) (by kernel_rfl) (fun _ _ _ h => h) (Or.inl ⟨by rfl, ?_⟩) (by assumption) ?_
        rotate_left 1
        · intro w_ hSw
          obtain ⟨s0, s1, s2⟩ := hSw
          go_simp
          try with_reducible rfl
        try simp only [Act.put]
        refine wpAnyH_take (i := 4) (oi := _) (v := ?_) rfl (by kernel_rfl) (by kernel_rfl) (by kernel_rfl) (fun _ _ _ h => h) (Or.inl ⟨by rfl, ?_⟩) (by assumption) ?_
        rotate_left 1
        · intro w_ hSw
          obtain ⟨s0, s1, s2⟩ := hSw
          go_simp
          try with_reducible rfl
        try simp only [Act.put]
        refine wpAnyH_take (i := 5) (oi := _) (v := ?_) rfl (by kernel_rfl) (by kernel_rfl) (by kernel_rfl) (fun _ _ _ h => h) (Or.inl ⟨by rfl, ?_⟩) (by assumption) ?_
        rotate_left 1
        · intro w_ hSw
          obtain ⟨s0, s1, s2⟩ := hSw
          go_simp
          try with_reducible rfl
        try simp only [Act.put]
        refine wpAnyH_take (i := 6) (oi := _) (v := ?_) rfl (by kernel_rfl) (by kernel_rfl) (by kernel_rfl) (fun _ _ _ h => h) (Or.inl ⟨by rfl, ?_⟩) (by assumption) ?_
        rotate_left 1
        · intro w_ hSw
          obtain ⟨s0, s1, s2⟩ := hSw
          go_simp
          try with_reducible rfl
        try simp only [Act.put]
        refine wpAnyH_ready (rs := [1]) (by kernel_rfl) (by simp) ?_
        refine AllReadyH.cons (o := _) rfl (fun _ hK => ?_) AllReadyH.nil
        go_simp
        refine HS.mono ?_
        rintro e W5 ⟨wk, mm, rfl, hw5, hr5, hmm, hb5⟩
        have HC := HCopy W5 wk mm hb5 hw5 hr5 hmm
        have hH5 := hcell5 W5 hb5
        try go_simp
        refine hK.out _ _ hH5 (fun hHeld => ?_)
        clear hK
        try simp only [Act.put, List.setIfInBounds_toArray, List.set_cons_zero, List.set_cons_succ]
        refine wpAnyH_ready (rs := [7]) (by kernel_rfl) (by simp) ?_
        refine AllReadyH.cons (o := _) rfl (fun _ hK => ?_) AllReadyH.nil
        go_simp
        refine HC.mono ?_
        rintro e W6 ⟨v6, full6, U, r, er, rfl, hd6, hk6, hO6⟩
        have hH6 := hcell6 W5 W6 mm hb5 hk6
        try go_simp
        refine hK.out _ _ hH6 (fun hHeld => ?_)
        clear hK
        try simp only [Act.put, List.setIfInBounds_toArray, List.set_cons_zero, List.set_cons_succ]
        refine wpAnyH_take (i := 8) (oi := _) (v := ?_) rfl (by kernel_rfl) (by kernel_rfl) (by kernel_rfl) (fun _ _ _ h => h) (Or.inl ⟨by rfl, ?_⟩) (by assumption) ?_
        rotate_left 1
        · intro w_ hSw
          obtain ⟨s0, s1, s2⟩ := hSw
          go_simp
          try with_reducible rfl
        try simp only [Act.put, List.setIfInBounds_toArray]
        refine wpAnyH_take (i := 9) (oi := _) (v := ?_) rfl (by kernel_rfl) (by kernel_rfl) (by kernel_rfl) (fun _ _ _ h => h) (Or.inl ⟨by rfl, ?_⟩) (by assumption) ?_
        rotate_left 1
        · intro w_ hSw
          obtain ⟨s0, s1, s2⟩ := hSw
          go_simp
          try with_reducible rfl
        try simp only [Act.put]
        refine wpAnyH_ready (rs := [10]) (by kernel_rfl) (by simp) ?_
        refine AllReadyH.cons (o := _) rfl (fun _ hK => ?_) AllReadyH.nil
        go_simp
        refine hK.out _ _ hHeld (fun hHeld => ?_)
        clear hK
        try simp only [Act.put, List.setIfInBounds_toArray, List.set_cons_zero, List.set_cons_succ]
        refine wpAnyH_ready (rs := [11]) (by kernel_rfl) (by simp) ?_
        refine AllReadyH.cons (o := _) rfl (fun _ hK => ?_) AllReadyH.nil
        go_simp
        refine hK.out _ _ hHeld (fun hHeld => ?_)
        clear hK
        try simp only [Act.put, List.setIfInBounds_toArray, List.set_cons_zero, List.set_cons_succ]
        refine wpAnyH_done (by kernel_rfl) ?_ _
        have hO7 : Hid (TriedZ (room ≤ cnt S + tB 24 F (24 * cF 24 F) ∨ 20000 ≤ 24 * zn S f + 24 * zn S g + Bd) S (GoodT S F (tB 24 F (24 * cF 24 F))) W6 U r er) := Lib.hid (by
          obtain ⟨t1, t2⟩ := hO6.tried W6
          refine ⟨t1, ?_⟩
          rcases t2 with t2 | ⟨t3, t4, t5⟩
          · exact .inl t2
          · exact .inr ⟨t3, t4, .inl t5⟩)
        have hd7 := hd6.fewer (N' := N) (fun k hk => .inl hk)
        have hk7 : Kz no8 (MA bm bd md) N w W6 := by
          have hb' : Below w3.heap.size w3 W5 := (Below.refl w3.heap.size w3).drew.trans hb5
          have hk56 : Kz no8 (MZ bm mm) N w3 W6 := (Kz.of_below hb').trans (hk6.mono (fun _ h => h) (fun _ h => h) (fun k hk => .inl hk))
          exact hbase13.trans (hk56.fresh (fun k hk => .inl hk) (fun k hk => hk.elim (fun e => .inl (.inl e)) (fun e => .inr (by rw [e]; exact hmm))))
        clear hO6 hd6 hk6 hbase13 HC HCopy hcell5 hcell6 hH5 hH6 hHeld
        go_wp2
        go_ret2
        exact ⟨v6, full6, U, r, er, rfl, hd7, hk7, hO7.out⟩
      · have hr0 := hO3.bad (by decide)
        have hEE : Hid (20000 ≤ 24 * zn S f + 24 * zn S g + Bd) := Lib.hid (by omega)
        have hk7 := hMA hk13
        clear hO3 hr0 hdd3 few1 few2 few3
        go_wp2
        go_ret2
        exact ⟨v, full, S, 0, 5, rfl, hd3, hk7, Ext.refl S, .inr ⟨rfl, rfl, .inr hEE.out⟩⟩
    · have hr0 := hO2.bad (by decide)
      have hEE : Hid (20000 ≤ 24 * zn S f + 24 * zn S g + Bd) := Lib.hid (by omega)
      have hk7 := hMA hk12
      clear hO1 hO2 hr0 hdd2 few1 few2 hdo
      go_wp2
      go_ret2
      exact ⟨v, full, S, 0, 5, rfl, hd2, hk7, Ext.refl S, .inr ⟨rfl, rfl, .inr hEE.out⟩⟩
  · have hr0 := hO1.bad (by decide)
    have hEE : Hid (20000 ≤ 24 * zn S f + 24 * zn S g + Bd) := Lib.hid (by omega)
    have hk7 := hMA hk1
    clear hO1 hr0 hdd1 few1 hdo
    go_wp2
    go_ret2
    exact ⟨v, full, S, 0, 5, rfl, hd1, hk7, Ext.refl S, .inr ⟨rfl, rfl, .inr hEE.out⟩⟩
/-- What is the draft's own is new. -/
theorem MadeZ.draft {C N : Nat → Prop} {w w' : World} {zb ab bm bd md room : Nat} {P : World → St → Int → Int → Prop} {e : Ending} (h : MadeZ C (MA bm bd md) N w zb ab bm room P e w') (hb : w.heap.size ≤ bd) (hm : w.heap.size ≤ md) : MadeZ C (· = bm) N w zb ab bm room P e w' := by
  obtain ⟨v', f, T, id, er, h1, h2, h3, h4⟩ := h
  exact ⟨v', f, T, id, er, h1, h2, h3.fresh (fun k hk => .inl hk) (fun k hk => by rcases hk with e | e | e; exact .inl e; exact .inr (by omega); exact .inr (by omega)), h4⟩
/-- How much a draft may take. -/
def EJ (S : St) (room Bz Bd : Nat) (f g : Int) : Prop := room ≤ cnt S + Bz ∨ 20000 ≤ 24 * zn S f + 24 * zn S g + Bd
theorem zn_of {S T : St} {p f : Int} (hp : 0 ≤ lvl T p) (hf : 0 ≤ lvl S f) (h : zf T 24 p = zf S 24 f) : zn T p = zn S f := by
  rw [← zn_cF (S := T) (id := p) (Nat.le_refl _) (by omega), ← zn_cF (S := S) (id := f) (Nat.le_refl _) (by omega), h]
set_option maxHeartbeats 2000000 in
theorem zJoinT_any {N : Nat → Prop} {w : World} {zb ab bm : Nat} {v : Value} {room full : Nat} {S : St} (h : ZdAt w N zb ab bm v room full S) (f g : Int) (f0 : 0 ≤ lvl S f) (g0 : 0 ≤ lvl S g) (hfg : 24 * zn S f + 24 * zn S g ≤ 100000) (hF : 24 * cF 24 (joinF 24 (zf S 24 f) (zf S 24 g)) ≤ 1000000) (hB : 300 * (zn S f * zn S g) ≤ 100000) :
    Calls Tryz.prog 80 #[.pointer (some ⟨zb, 0, none⟩), .int .i64 f, .int .i64 g] w
      (MadeZ no8 (· = bm) N w zb ab bm room (DoneZ (EJ S room (tB 24 (joinF 24 (zf S 24 f) (zf S 24 g)) (24 * cF 24 (joinF 24 (zf S 24 f) (zf S 24 g)))) (300 * (zn S f * zn S g)) f g) S (GoodT S (joinF 24 (zf S 24 f) (zf S 24 g)) (tB 24 (joinF 24 (zf S 24 f) (zf S 24 g)) (24 * cF 24 (joinF 24 (zf S 24 f) (zf S 24 g))))))) := by
  have HD := zdraft_any w (NP N ab bm v) (fun k hk => hk.elim (fun a => (h.off k a).1) (fun a => h.ar.fp_lt k a))
  have hcf : ∀ (args : Array Value) (w1 : World), (Sem.run Tryz.prog (callFunc 119 args) w1) = .ok (.enter 119 args) w1 := fun _ _ => by kernel_rfl
  have hcf2 : ∀ (args : Array Value) (w1 : World), (Sem.run Tryz.prog (callFunc 146 args) w1) = .ok (.enter 146 args) w1 := fun _ _ => by kernel_rfl
  go_enter Tryz.func80, Tryz.ntmps80
  go_wp2_with fail
  refine HD.mono ?_
  rintro e w1 ⟨zd, ad, bd, wd, md, rfl, hdd, hw, hr, hmb, hbd, hmd, hb1⟩
  clear HD
  have HA := zaside_any w1 zb wd (.func 119) #[.pointer (some ⟨wd, 0, none⟩)] #[]
  go_wp2_with fail
  refine HA.mono ?_
  rintro e w2 ⟨rfl, bx, by_, bz, hb2⟩
  clear HA
  have hd2 := (h.below hb1).below hb2
  have hNm : ¬ NP N ab bm v md := fun hk => by
    have : md < w.heap.size := hk.elim (fun a => (h.off md a).1) (fun a => h.ar.fp_lt md a)
    omega
  have HT := zofTwo_any (M := MA bm bd md) hcf2 hd2 (.inl rfl) f g f0 g0 #[] #[.pointer (some ⟨w1.heap.size + 1, 0, none⟩), .pointer (some ⟨w1.heap.size, 0, none⟩), .pointer (some ⟨w1.heap.size + 1 + 1, 0, none⟩)] (E := EJ S room (tB 24 (joinF 24 (zf S 24 f) (zf S 24 g)) (24 * cF 24 (joinF 24 (zf S 24 f) (zf S 24 g)))) (300 * (zn S f * zn S g)) f g) (G := GoodT S (joinF 24 (zf S 24 f) (zf S 24 g)) (tB 24 (joinF 24 (zf S 24 f) (zf S 24 g)) (24 * cF 24 (joinF 24 (zf S 24 f) (zf S 24 g)))))
    (fun w3 hb3 => by
      have hk23 := hb2.trans (hb3.mono hb2.size)
      exact zaside1_any hcf (hd2.below hb3) (hdd.below hk23) (hw.below hk23) ((hr S []).below hk23) hmb hNm (keep_blk hb3 bx) (keep_blk hb3 by_) (keep_blk hb3 bz) f g f0 g0 hfg hF
        (fun w4 v4 f4 T c p q hk4 hd4 hr4 hc p0 q0 hp hq => by
          have e1 := zn_of p0 f0 hp
          have e2 := zn_of q0 g0 hq
          have HJ := zjoin_any 24 hd4 ((hw.below hk23).kz hk4 (fun h => h)) hr4 hmb hNm p q p0 q0 (by omega) (by omega) (Nat.le_refl _) (by rw [e1, e2, show cJ 24 = 300 from rfl]; omega)
          rw [e1, e2, hp, hq, show cJ 24 = 300 from rfl] at HJ
          exact HJ.mono fun e w' hm => hm.mono fun T id er ho => ho.1))
  have hK2 : Kz no8 (MA bm bd md) N w w2 := Kz.of_below (hb1.trans (hb2.mono hb1.size))
  clear hcf hcf2 hdd hw hr hd2 bx by_ bz hb1 hb2 h hNm
  go_wp2_with fail
  refine HT.mono ?_
  rintro e w4 ⟨v4, full4, T, id, er, rfl, hd4, hk4, hP4⟩
  clear HT
  go_wp2
  go_ret2
  exact MadeZ.draft ⟨v4, full4, T, id, er, rfl, hd4, hK2.trans hk4, hP4⟩ hbd hmd
end Go.Proofs.YtehpccanjlaokaaGreat
namespace Go.Proofs.YtehpccanjlaokaaGreat
open Go.RowKit Go.Joins

/-- A family by its id. -/
def Held (S : St) (a : Int) (F : Nat → Bool) : Prop := 0 ≤ lvl S a ∧ zf S 24 a = F
theorem Held.ext {S T : St} {a : Int} {F : Nat → Bool} (h : Held S a F) (hV : VSt S) (hx : Ext S T) : Held T a F :=
  ⟨by rw [hx.lvl h.1]; exact h.1, by rw [hx.zf hV 24 a (Nat.le_refl _) h.1 (by have := h.1; omega)]; exact h.2⟩
theorem Held.zn {S : St} {a : Int} {F : Nat → Bool} (h : Held S a F) : Go.Proofs.YtehpccanjlaokaaGreat.zn S a = cF 24 F := by
  rw [← zn_cF (S := S) (id := a) (Nat.le_refl _) (by have := h.1; omega), h.2]
theorem Held.row {S : St} {a : Int} {F : Nat → Bool} (h : Held S a F) : famR S a = famL 24 F := by unfold famR; rw [h.2]
theorem ZdAt.grow {w w' : World} {N : Nat → Prop} {zb ab bm : Nat} {v : Value} {room full : Nat} {S : St} (h : ZdAt w N zb ab bm v room full S) (hb : Below w.heap.size w w') :
    ZdAt w' (fun k => N k ∨ (w.heap.size ≤ k ∧ k < w'.heap.size)) zb ab bm v room full S :=
  ⟨keep_blk hb h.head, h.ar.below hb, h.ok, h.zst, h.gap, fun k hk => by
    rcases hk with hk | ⟨h1, h2⟩
    · exact ⟨Nat.lt_of_lt_of_le (h.off k hk).1 hb.size, (h.off k hk).2⟩
    · exact ⟨h2, fun hf => by have := h.ar.fp_lt k hf; omega⟩⟩
theorem IntsAt.kz {C M N : Nat → Prop} {B : Nat} {w w' : World} (h : Kz C M N w w') {v : Value} {zs : List Int} (hz : IntsAt w B v zs) (hB : B ≤ w.heap.size) (hN : ∀ g, v.ownBlock = some g → g < B → N g) : IntsAt w' B v zs := by
  obtain ⟨A, c, rfl, hl, hr⟩ := hz
  refine ⟨A, c, rfl, hl, fun h0 => ?_⟩
  obtain ⟨b, off, rfl, hb, hcell⟩ := hr h0
  have hk := h.prot b (hN b rfl hb) (Nat.lt_of_lt_of_le hb hB)
  refine ⟨b, off, rfl, hb, fun j x hx => ?_⟩
  rw [World.cell?_of_block (w := w) (a := ⟨b, off + j, none⟩) hk]
  exact hcell j x hx
/-- What was made, where there was room. -/
theorem made_ok {E : Prop} {F : Nat → Bool} {K : Nat} {N : Nat → Prop} {w w' : World} {zb ab bm room : Nat} {S : St} {e : Ending} (h : MadeZ no8 (· = bm) N w zb ab bm room (DoneZ E S (GoodT S F K)) e w') (hE : ¬ E) :
    ∃ (v : Value) (full : Nat) (T : St) (id : Int), e = .returned (.tuple #[.int .i64 id, .int .i64 0]) ∧ ZdAt w' N zb ab bm v room full T ∧ Kz no8 (· = bm) N w w' ∧ Ext S T ∧ Held T id F ∧ cnt T ≤ cnt S + K := by
  obtain ⟨v, full, T, id, er, rfl, h2, h3, h4, h5⟩ := h
  rcases h5 with ⟨rfl, g0, g1, g2⟩ | ⟨-, -, -, hE'⟩
  · exact ⟨v, full, T, id, rfl, h2, h3, h4, ⟨g0, g1⟩, g2⟩
  · exact absurd hE' hE
theorem lit_nats {w : World} {b n : Nat} {C : Array Value} {l : List Nat} (h : w.heap[b]? = some (.cells C 3 (0, 0))) (hC : C = (l.map fun i : Nat => Value.int .i64 i).toArray) (hn : l.length = n) (h8 : n ≤ 8) : IntsAt w w.heap.size (.slice (some ⟨b, 0, none⟩) n n) (nI l) := by
  refine ⟨some ⟨b, 0, none⟩, n, by rw [nI_len, hn], by rw [nI_len, hn]; omega, fun _ => ⟨b, 0, rfl, size_of_block h, fun j y hj => ?_⟩⟩
  obtain ⟨i, rfl, hi⟩ := nI_of hj
  rw [cell_of_block h, hC]
  simp [hi]
end Go.Proofs.YtehpccanjlaokaaGreat
