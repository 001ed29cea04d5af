/- Ite, whole: by induction on the levels to come. -/
import Derived.Test.YtbffcnnfkfjpgaaIte06
namespace Go.Proofs.Ytbffcnnfkfjpgaa
open Go.RowKit Go.Joins

/-- Another map turned: the arena is as it was. -/
theorem ArAt.turned {w w' : World} {B ab bm mm : Nat} {v : Value} {room full : Nat} {S : St} (h : ArAt w B ab bm v room full S) (ht : w.mapTurned w' mm) (hne : mm ≠ bm) : ArAt w' B ab bm v room full S := by
  have hg := ht.grown
  obtain ⟨es, clock, es', clock', hm, -⟩ := ht
  have hn := h.not_fp_map hm hne
  have hk : ∀ k, k < w.heap.size → Fp ab bm v k → w'.heap[k]? = w.heap[k]? := fun k hk hf => hg.block k hk (by intro e; injection e with e; subst e; exact hn hf)
  exact ⟨h.base, (hk ab h.lt.2.1 (.inl rfl)).trans h.head, own_keep h.rows (fun g hv _ hl => hk g hl (.inr (.inr hv))), h.ids.keep (hk bm h.lt.2.2 (.inr (.inl rfl)))⟩
set_option maxHeartbeats 2000000 in
set_option maxRecDepth 100000 in
theorem IteOk.step {k : Nat} (IH : ∀ j, j < k → IteOk j) : IteOk k := by
  intro w B bb ab bm ov v room full S o me mm C hd hme hr hne hBm hC l f g h hf hg hh hlk
  by_cases hs : f = 1 ∨ g = h ∨ f = 0
  · exact ite_short hd hr l f g h hg hh hs
  have b1 : (f == 1) = false := by simp; omega
  have b2 : (g == h) = false := by simp; omega
  have b3 : (f == 0) = false := by simp; omega
  have hlow : B ≤ w.heap.size := by have := hd.ar.lt; omega
  have hB := (below_alloc3 w (.cells #[.pointer (some ⟨me, 0, none⟩)] 69) (.cells #[.int .i64 f] 3) (.cells #[.int .i64 g] 3)).alloc (below_alloc3 w _ _ _).size (.cells #[.int .i64 h] 3)
  have hbx := IteBox.new w me f g h
  have hwf := wf_three hd.max (f := f) (g := g) (h := h) (by omega) (by omega) (by omega)
  clear hs
  go_enter Try.func40, Try.ntmps40
  go_upto_region 6 with (fail)
  have hB5 := hB.alloc hB.size (.cells #[.int .i64 f, .int .i64 g, .int .i64 h] 92)
  have hbx5 := hbx.kep (M := fun _ => False) (Kep.of_below (below_alloc1 _ (.cells #[.int .i64 f, .int .i64 g, .int .i64 h] 92)))
  have hk5 := heap_alloc_new ((((w.alloc (.cells #[.pointer (some ⟨me, 0, none⟩)] 69)).alloc (.cells #[.int .i64 f] 3)).alloc (.cells #[.int .i64 g] 3)).alloc (.cells #[.int .i64 h] 3)) (.cells #[.int .i64 f, .int .i64 g, .int .i64 h] 92)
  rw [show ((((w.alloc (.cells #[.pointer (some ⟨me, 0, none⟩)] 69)).alloc (.cells #[.int .i64 f] 3)).alloc (.cells #[.int .i64 g] 3)).alloc (.cells #[.int .i64 h] 3)).heap.size = w.heap.size + 1 + 1 + 1 + 1 by simp] at hk5
  clear hB hbx
  generalize (((((w.alloc (.cells #[.pointer (some ⟨me, 0, none⟩)] 69)).alloc (.cells #[.int .i64 f] 3)).alloc (.cells #[.int .i64 g] 3)).alloc (.cells #[.int .i64 h] 3)).alloc (.cells #[.int .i64 f, .int .i64 g, .int .i64 h] 92)) = W at *
  have hd5 := hd.below hB5
  have hme5 := hme.kep (M := fun _ => False) (Kep.of_below hB5)
  have hr5 := hr.below hB5
  obtain ⟨c, b, hlk, hgood⟩ := hr5.look hwf
  unfold ndV at hlk
  dsimp only at hlk hgood
  obtain ⟨m0, -⟩ := box1 hbx5.m rfl
  obtain ⟨e0, e1, -⟩ := box2 hme5 rfl
  obtain ⟨k0, k1, k2, -⟩ := box3 hk5 rfl
  refine wp_region_after (by kernel_rfl) (by kernel_rfl) ?_
  repeat (first | go_big_quiet_step (fail))
  refine wpQuiet_nil ?_
  intro y
  obtain ⟨W1, hy⟩ := y
  dsimp only at *
  have hB6 := hB5.trans (hy.mono hB5.size)
  have hbx6 := hbx5.kep (M := fun _ => False) (Kep.of_below hy)
  have hk6 := keep_blk hy hk5
  have hd6 := hd5.below hy
  have hme6 := hme5.kep (M := fun _ => False) (Kep.of_below hy)
  have hr6 := hr5.below hy
  clear m0 e0 e1 k0 k1 k2 hlk hB5 hbx5 hk5 hd5 hme5 hr5 hy hd hr hme
  cases b
  · clear hgood
    go_upto_region 9 with (fail)
    have hBs := Below.refl W1.heap.size W1
    have HL : ∀ (id : Int) (W : World), Below W1.heap.size W1 W → Calls Try.prog 61 #[.pointer (some ⟨bb, 0, none⟩), .int .i64 id] W fun e w' => e = .returned (.int .i64 (lvN o.length S id)) ∧ Below W1.heap.size W1 w' ∧ Below W.heap.size W w' ∧ W1.heap.size ≤ w'.heap.size ∧ w'.cell? ⟨w.heap.size, 0, none⟩ = some (.pointer (some ⟨me, 0, none⟩)) ∧ w'.cell? ⟨w.heap.size + 1, 0, none⟩ = some (.int .i64 f) ∧ w'.cell? ⟨w.heap.size + 1 + 1, 0, none⟩ = some (.int .i64 g) ∧ w'.cell? ⟨w.heap.size + 1 + 1 + 1, 0, none⟩ = some (.int .i64 h) ∧ w'.cell? ⟨me, 0, none⟩ = some (.pointer (some ⟨bb, 0, none⟩)) := fun id W hb =>
      (blevel_any (hd6.below hb) id).mono fun e w' ⟨he, hbw⟩ => by
        have hb' := hb.trans (hbw.mono hb.size)
        exact ⟨he, hb', hbw, hb'.size, (now1 (keep_blk hb' hbx6.m) rfl).1, (now1 (keep_blk hb' hbx6.f) rfl).1, (now1 (keep_blk hb' hbx6.g) rfl).1, (now1 (keep_blk hb' hbx6.h) rfl).1, (now2 (keep_blk hb' hme6) rfl).1⟩
    obtain ⟨q0, -⟩ := now1 hbx6.m rfl
    obtain ⟨q1, -⟩ := now1 hbx6.f rfl
    obtain ⟨q2, -⟩ := now1 hbx6.g rfl
    obtain ⟨q3, -⟩ := now1 hbx6.h rfl
    obtain ⟨q4, -, -⟩ := now2 hme6 rfl
    obtain ⟨tp, htp⟩ : ∃ tp : Nat, tp = min (min (lvN o.length S f) (lvN o.length S g)) (lvN o.length S h) := ⟨_, rfl⟩
    have hz3 := size_of_block hbx6.h
    have hz4 := size_of_block hme6
    go_cut [13] from 44 (fun s13 wc => ∃ br : Nat, s13 = .pointer (some ⟨br, 0, none⟩) ∧ wc.heap[br]? = some (.cells #[.int .i64 tp] 3 (0, 0)) ∧ Below W1.heap.size W1 wc)
    case first =>
      have hcut : ∀ (wc : World) (br : Nat), wc.heap[br]? = some (.cells #[.int .i64 tp] 3 (0, 0)) → Below W1.heap.size W1 wc → ∃ br' : Nat, Value.pointer (some ⟨br, 0, none⟩) = .pointer (some ⟨br', 0, none⟩) ∧ wc.heap[br']? = some (.cells #[.int .i64 tp] 3 (0, 0)) ∧ Below W1.heap.size W1 wc := fun wc br h1 h2 => ⟨br, rfl, h1, h2⟩
      clear hB6 hbx6 hk6 hd6 hme6 hr6 IH
      go_region_held3 (fun w' => w'.cell? ⟨w.heap.size, 0, none⟩ = some (.pointer (some ⟨me, 0, none⟩)) ∧ w'.cell? ⟨w.heap.size + 1, 0, none⟩ = some (.int .i64 f) ∧ w'.cell? ⟨w.heap.size + 1 + 1, 0, none⟩ = some (.int .i64 g) ∧ w'.cell? ⟨w.heap.size + 1 + 1 + 1, 0, none⟩ = some (.int .i64 h) ∧ w'.cell? ⟨me, 0, none⟩ = some (.pointer (some ⟨bb, 0, none⟩))) (first | go_keep | (refine ⟨?_, ?_, ?_, ?_, ?_⟩ <;> (repeat (first | (with_reducible assumption) | (with_reducible refine cellSet6 (by omega) ?_)))))
        (first | (go_at_call 61; refine (HL _ _ (by repeat (first | (with_reducible assumption) | (with_reducible refine b6drew ?_) | (with_reducible refine b6alloc ?_ _)))).mono ?_; rintro e wr ⟨rfl, hbr, hcr, hsr, a0, a1, a2, a3, a4⟩; first | (with_reducible refine haveT6 (keep_blk hcr (heap_alloc_new _ _)) (fun nb => ?_); obtain ⟨y0, yf⟩ := now1 nb rfl) | (with_reducible refine haveT6 (keep_blk hcr nb) (fun nb => ?_); obtain ⟨y0, yf⟩ := now1 nb rfl) | skip))
      all_goals
        rw [minE, ← htp]
        go_wp2_with fail
        go_meet
        refine hcut _ _ ?_ ?_
        · first | (with_reducible exact heap_alloc_new _ _) | (with_reducible exact put1 nb)
        · first | (with_reducible exact b6alloc hbr _) | (exact hbr.setCell (by first | omega | exact Nat.le_refl _) _)
    case rest =>
      obtain ⟨br, rfl, hbr, hbc⟩ := hcut
      have hB7 := hB6.trans (hbc.mono hB6.size)
      have hd7 := hd6.below hbc
      have hme7 := hme6.kep (M := fun _ => False) (Kep.of_below hbc)
      have hr7 := hr6.below hbc
      have hbx7 := hbx6.kep (M := fun _ => False) (Kep.of_below hbc)
      have hk7 := keep_blk hbc hk6
      clear HL hBs q0 q1 q2 q3 q4 hd6 hme6 hr6 hbx6 hk6 hbc hB6 hz3 hz4
      -- the least level
      have hV := hd7.rst.vst
      have h8 := hd7.eight
      obtain ⟨f1, f2, f3, f4⟩ := lvN_used hV hd7.lst (id := f) (by omega) (by omega)
      obtain ⟨g1, g2, g3, g4⟩ := lvN_used hV hd7.lst (id := g) (by omega) (by omega)
      obtain ⟨h1, h2, h3, h4⟩ := lvN_used hV hd7.lst (id := h) (by omega) (by omega)
      have hfn : lvN o.length S f < o.length := by
        rcases Nat.lt_or_ge (lvN o.length S f) o.length with hlt | hge
        · exact hlt
        · have := f4 (by omega)
          simp at b1 b3
          omega
      have htn : tp < o.length := by rw [htp]; have := Nat.min_le_left (min (lvN o.length S f) (lvN o.length S g)) (lvN o.length S h); have := Nat.min_le_left (lvN o.length S f) (lvN o.length S g); omega
      have htf : tp ≤ lvN o.length S f := by rw [htp]; have := Nat.min_le_left (min (lvN o.length S f) (lvN o.length S g)) (lvN o.length S h); have := Nat.min_le_left (lvN o.length S f) (lvN o.length S g); omega
      have htg : tp ≤ lvN o.length S g := by rw [htp]; have := Nat.min_le_left (min (lvN o.length S f) (lvN o.length S g)) (lvN o.length S h); have := Nat.min_le_right (lvN o.length S f) (lvN o.length S g); omega
      have hth : tp ≤ lvN o.length S h := by rw [htp]; exact Nat.min_le_right _ _
      have hone : tp = lvN o.length S f ∨ tp = lvN o.length S g ∨ tp = lvN o.length S h := by
        rw [htp, Nat.min_def, Nat.min_def]
        repeat' split
        all_goals omega
      have htl : l ≤ tp := by
        rcases hone with e | e | e
        · have := f3 (by omega); omega
        · have := g3 (by omega); omega
        · have := h3 (by omega); omega
      have hlow2 : ∀ q : Int, q ≤ lvl S f → q ≤ lvl S g → q ≤ lvl S h → q ≤ (tp : Int) := fun q a1 a2 a3 => by
        rcases hone with e | e | e
        · have := f3 (by omega); omega
        · have := g3 (by omega); omega
        · have := h3 (by omega); omega
      obtain ⟨j, rfl⟩ : ∃ j, k = j + 1 := ⟨k - 1, by omega⟩
      have IHj : IteOk j := IH j (by omega)
      have hpow : 2 ^ (j + 1) = 2 ^ j + 2 ^ j := by rw [Nat.pow_succ]; omega
      have hp1 := pow_one_le j
      have hcf : ∀ (args : Array Value) (w1 : World), (Sem.run Try.prog (callFunc 62 args) w1) = .ok (.enter 62 args) w1 := fun _ _ => by kernel_rfl
      have HJ : ∀ y : After wc, Calls Try.prog 54 #[.pointer (some ⟨bb, 0, none⟩), .int .i64 tp, .func (.func 62) #[] #[.pointer (some ⟨w.heap.size, 0, none⟩), .pointer (some ⟨w.heap.size + 1, 0, none⟩), .pointer (some ⟨br, 0, none⟩), .pointer (some ⟨w.heap.size + 1 + 1, 0, none⟩), .pointer (some ⟨w.heap.size + 1 + 1 + 1, 0, none⟩)]] y.1
          (Made (MM bm mm) y.1 B bb ab bm ov room o fun w' T id er => OutOf False o.length (j + 1) tp room S (fun _ => false) (iteF S f g h) T id er ∧ RemIs w' mm T (C + (2 ^ j - 1) + (2 ^ j - 1)) ∧ VSt T) := fun y => by
        have hky : Kep (fun _ => False) wc y.1 := Kep.of_below y.2
        refine bjoin_any (M := MM bm mm) (q := False) (G := fun _ => false) (F := iteF S f g h) (F0 := iteF S (halfI S f tp false) (halfI S g tp false) (halfI S h tp false)) (F1 := iteF S (halfI S f tp true) (halfI S g tp true) (halfI S h tp true))
          (fun w' T => RemIs w' mm T (C + (2 ^ j - 1)) ∧ VSt T) (fun w' T => RemIs w' mm T (C + (2 ^ j - 1) + (2 ^ j - 1)) ∧ VSt T) (fun w' T => RemIs w' mm T (C + (2 ^ j - 1) + (2 ^ j - 1)) ∧ VSt T) _ _ hcf (hd7.below y.2) (.inl rfl) tp j htn (fun c => iteF_half hV c) (fun hq => hq.elim) ?_ ?_ (fun w' T hh => ⟨hh.1.more (by omega), hh.2⟩) (fun _ _ hh => hh) (fun w1 w2 U V hh hk hx hrv => ?_)
        · refine (itec_any IHj (hd7.below y.2) (hme7.kep hky) (hr7.below y.2) hne hBm (by omega) (hbx7.kep hky) (keep_blk y.2 hbr) htn (by omega) (by omega) (by omega) (by omega) false).mono fun e w' hm => hm.mono fun T id er ho => ⟨⟨ho.1, fun hq => hq.elim⟩, ho.2, ho.1.rst.vst⟩
        · intro w1 v1 full1 T a hd1 _ hk1 hO1 hr1
          obtain ⟨a0, a1, a2⟩ := hO1.1.good
          have hx := hO1.1.ext
          have e1 := hx.lvl (id := f) (by omega)
          have e2 := hx.lvl (id := g) (by omega)
          have e3 := hx.lvl (id := h) (by omega)
          have k1 := half_ext hx (id := f) (by omega) tp true
          have k2 := half_ext hx (id := g) (by omega) tp true
          have k3 := half_ext hx (id := h) (by omega) tp true
          have l1 := half_lvl hV (id := f) (l := tp) (by omega) (by omega) true
          have l2 := half_lvl hV (id := g) (l := tp) (by omega) (by omega) true
          have l3 := half_lvl hV (id := h) (l := tp) (by omega) (by omega) true
          have hkk := (Kep.of_below (M := MM bm mm) y.2).trans hk1
          refine (itec_any IHj hd1 (hme7.kep hkk) hr1.1 hne hBm (by omega) (hbx7.kep hkk) (hkk.cells _ _ _ _ hbr (by decide) (by decide)) htn (by omega) (by omega) (by omega) (by omega) true).mono fun e w' hm => hm.mono fun U id er ho => ⟨⟨ho.1.wide (Nat.le_refl _) (Int.le_refl _) (fun c => ?_), fun hq => hq.elim⟩, ho.2, ho.1.rst.vst⟩
          rw [k1, k2, k3]
          exact iteF_ext hV hx (by omega) (by omega) (by omega) c
        · obtain ⟨hh1, hh2⟩ := hh
          exact ⟨(hh1.kep hk (fun e => hne e)).ext hh2 hx, hrv.vst⟩
      have hCb : C + (2 ^ j - 1) + (2 ^ j - 1) ≤ 1000000 := by omega

      clear htp hcf IHj IH f1 f2 f3 f4 g1 g2 g3 g4 h1 h2 h3 h4 hfn htf htg hth hone hlk hC
      obtain ⟨m0, -⟩ := box1 hbx7.m rfl
      obtain ⟨t0, -⟩ := box1 hbr rfl
      obtain ⟨e0, e1, -⟩ := box2 hme7 rfl
      have hmf : ∀ (fn : Fn) (first cap : Array Value) (w : World), (Instr.makeFunc fn first cap).run Try.prog w = .ok (.func fn first cap) w := fun _ _ _ _ => rfl
      go_wp2
      refine wp_region_mid_after 6 _ rfl rfl (by kernel_rfl) (by kernel_rfl) ?_
      simp only [List.take_succ_cons, List.take_zero, List.drop_succ_cons, List.drop_zero]
      repeat (first | go_big_quiet_step (fail))
      refine wpQuiet_nil ?_
      intro y K hK
      have HJy := HJ y
      have hky : Kep (MM bm mm) wc y.1 := Kep.of_below y.2
      have hy := y.2
      clear HJ m0 t0 e0 e1
      go_simp
      refine HJy.mono ?_
      rintro e w2 ⟨v2, full2, T, id, er, rfl, hd8, hb8, hk8, hO8, hr8, hV8⟩
      clear HJy
      refine hK.out _ _ ?_
      clear hK
      repeat (first | go_big_quiet_step (fail))
      refine wpQuiet_nil ?_
      have hlow3 : B ≤ wc.heap.size := Nat.le_trans hlow hB7.size
      have hB8 : Below B w w2 := (hB7.mono hlow).trans ((hy.mono hlow3).trans hb8)
      have hkw : Kep (MM bm mm) wc w2 := hky.trans hk8
      have hK8 : Kep (MM bm mm) w w2 := (Kep.of_below hB7).trans hkw
      have hO := Lib.hid (hO8.1.wide (Nat.le_refl _) (show ((l : Nat) : Int) ≤ (tp : Int) by omega) (fun _ => rfl))
      clear hB7 hky hy hb8 hk8
      rcases hO8.1.kind with rfl | ⟨rfl, rfl⟩
      · obtain ⟨a0, a1, a2⟩ := hO8.1.good
        have hx := hO8.1.ext
        have e1 := hx.lvl (id := f) (by omega)
        have e2 := hx.lvl (id := g) (by omega)
        have e3 := hx.lvl (id := h) (by omega)
        have hgd : GoodI T f g h id := ⟨by omega, by omega, by omega, a0, fun q u1 u2 u3 => by have := hlow2 q (by omega) (by omega) (by omega); omega, fun c => by rw [a2 c]; exact (iteF_ext hV hx (by omega) (by omega) (by omega) c).symm⟩
        have hwid := wf_id hd8.max a0
        have hme8 := hme7.kep hkw
        have hbx8 := hbx7.kep hkw
        have hk8 := hkw.cells _ _ _ _ hk7 (by decide) (by decide)
        clear e1 e2 e3 a0 a1 a2 hx hO8 hlow2 hbr hme7 hbx7 hk7 hkw hd7 hr7 b1 b2 b3 hf hg hh
        obtain ⟨m0, -⟩ := box1 hbx8.m rfl
        obtain ⟨e0, e1, -⟩ := box2 hme8 rfl
        obtain ⟨k0, k1, k2, -⟩ := box3 hk8 rfl
        clear hme8 hbx8 hk8
        go_wp2
        refine wp_region_after_tail 6 (by kernel_rfl) (by kernel_rfl) ?_
        simp only [List.take_succ_cons, List.take_zero, List.drop_succ_cons, List.drop_zero]
        repeat (first | go_big_quiet_step (fail))
        refine wpQuiet_nil ?_
        intro z
        have hr9 := hr8.below z.2
        have hd9 := hd8.below z.2
        have hlow4 : B ≤ w2.heap.size := by have := hd8.ar.lt; omega
        have hB9 := hB8.trans (z.2.mono hlow4)
        have hK9 := hK8.trans (Kep.of_below z.2)
        clear m0 e0 e1 k0 k1 k2 hr8 hd8 hB8 hK8
        go_wp2_with (at_mapUpdate; refine wpList_store_rem _ rfl _ _ _ rfl mm T _ (f, g, h) id rfl rfl rfl hr9 hCb hwf hwid hgd ?_)
        intro w9 hr10 ht10
        have hk10 : Kep (MM bm mm) z.1 w9 := Kep.turned ht10 (.inr rfl)
        have hd10 := hd9.kep hk10 (hd9.ar.turned ht10 hne) hd9.ok hd9.rst hd9.lst
        have hB10 := below_of_grown ht10.grown hB9 hBm (Nat.le_trans hlow4 z.2.size)
        clear hr9 hd9 hB9 ht10
        go_wp2
        go_ret2
        exact ⟨v2, full2, T, id, 0, rfl, hd10, hB10, hK9.trans hk10, hO.out, hr10.more (by omega)⟩
      · have hr9 := hr8.more (C' := C + (2 ^ (j + 1) - 1)) (by omega)
        clear hO8 hlow2 hbr hme7 hbx7 hk7 hkw hd7 hr7 b1 b2 b3 hf hg hh
        go_wp2
        go_ret2
        exact ⟨v2, full2, T, 0, 5, rfl, hd8, hB8, hK8, hO.out, hr9⟩
  · have hg' := hgood rfl
    have hO : Hid (Out o.length k l room S (iteF S f g h) S c 0) := Lib.hid (Out.stay hd6.rst hd6.lst hg'.r0 (hg'.low l hf hg hh) hg'.says)
    clear hgood hg' b1 b2 b3
    go_wp2
    go_ret2
    exact ⟨v, full, S, c, 0, rfl, hd6, hB6.mono hlow, Kep.of_below hB6, hO.out, hr6.more (by omega)⟩
theorem ite_any (k : Nat) : IteOk k := by
  induction k using Nat.strongRecOn with
  | _ k ih => exact IteOk.step ih
end Go.Proofs.Ytbffcnnfkfjpgaa
