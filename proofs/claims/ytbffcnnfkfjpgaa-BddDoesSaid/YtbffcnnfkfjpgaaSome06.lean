/- Some: with an input inverted or not. -/
import Derived.Test.YtbffcnnfkfjpgaaIte06b
namespace Go.Proofs.Ytbffcnnfkfjpgaa
open Go.RowKit Go.Joins

/-- What Some says: the bit of level L either way. -/
def someF (S : St) (L : Nat) (f : Int) (c : Nat → Bool) : Bool := says S (setB c L false) f || says S (setB c L true) f
theorem someF_ext {S T : St} (hV : VSt S) (hx : Ext S T) {L : Nat} {f : Int} (f0 : 0 ≤ lvl S f) (c : Nat → Bool) : someF T L f c = someF S L f c := by
  unfold someF
  rw [hx.says hV _ f0, hx.says hV _ f0]
theorem someF_off {S : St} (hV : VSt S) {L : Nat} {f : Int} (h : (L : Int) < lvl S f) (c : Nat → Bool) : says S c f = someF S L f c := by
  unfold someF
  rw [says_above hV c (by omega) h, says_above hV c (by omega) h, Bool.or_self]
theorem someF_at {S : St} (hV : VSt S) {L : Nat} {f : Int} (h : (L : Int) ≤ lvl S f) (hL : L < 24) (c : Nat → Bool) : iteF S (halfI S f L false) 1 (halfI S f L true) c = someF S L f c := by
  unfold iteF someF
  rw [half_off hV c h hL, half_off hV c h hL, says_one]
  cases says S c (halfI S f L false) <;> rfl
theorem someF_half {S : St} (hV : VSt S) {L l : Nat} {f : Int} (hne : l ≠ L) (c : Nat → Bool) : someF S L f c = if c l then someF S L (halfI S f l true) c else someF S L (halfI S f l false) c := by
  have h0 := half_says hV (setB c L false) (id := f) (l := l)
  have h1 := half_says hV (setB c L true) (id := f) (l := l)
  rw [setB_off hne] at h0 h1
  unfold someF
  cases hb : c l
  · rw [hb] at h0 h1
    rw [h0, h1]; rfl
  · rw [hb] at h0 h1
    rw [h0, h1]; rfl
structure SomeBox (w : World) (x me : Nat) (f : Int) (L : Nat) : Prop where
  m : w.heap[x]? = some (.cells #[.pointer (some ⟨me, 0, none⟩)] 69 (0, 0))
  f : w.heap[x + 1]? = some (.cells #[.int .i64 f] 3 (0, 0))
  l : w.heap[x + 1 + 1]? = some (.cells #[.int .i64 L] 3 (0, 0))
theorem SomeBox.kep {M : Nat → Prop} {w w' : World} {x me : Nat} {f : Int} {L : Nat} (k : SomeBox w x me f L) (kk : Kep M w w') : SomeBox w' x me f L :=
  ⟨kk.cells _ _ _ _ k.m (by decide) (by decide), kk.cells _ _ _ _ k.f (by decide) (by decide), kk.cells _ _ _ _ k.l (by decide) (by decide)⟩
theorem SomeBox.new (w : World) (me : Nat) (f : Int) (L : Nat) :
    SomeBox (((w.alloc (.cells #[.pointer (some ⟨me, 0, none⟩)] 69)).alloc (.cells #[.int .i64 f] 3)).alloc (.cells #[.int .i64 L] 3)) w.heap.size me f L :=
  ⟨heap_alloc3_a _ _ _ _, heap_alloc3_b _ _ _ _, heap_alloc3_c _ _ _ _⟩
def SomeOk (k : Nat) : Prop := ∀ {w : World} {B bb ab bm : Nat} {ov v : Value} {room full : Nat} {S : St} {o : List Nat} {me mm C : Nat}, BdAt w B bb ab bm ov v room full S o → MeAt w me bb mm → RemIs w mm S C → mm ≠ bm → B ≤ mm → C + 2 ^ k ≤ 1000000 →
  ∀ (l L : Nat) (f : Int), L < o.length → (l : Int) ≤ lvl S f → o.length ≤ l + k →
  Calls Try.prog 42 #[.pointer (some ⟨me, 0, none⟩), .int .i64 f, .int .i64 L] w
    (Made (MM bm mm) w B bb ab bm ov room o fun w' T id er => Out o.length k l room S (someF S L f) T id er ∧ RemIs w' mm T (C + (2 ^ k - 1)))
set_option maxHeartbeats 1000000 in
/-- The closure: the halves' Some. -/
theorem somec_any {k : Nat} (IH : SomeOk k) {w : World} {B bb ab bm : Nat} {ov v : Value} {room full : Nat} {S : St} {o : List Nat} {me mm C : Nat} (hd : BdAt w B bb ab bm ov v room full S o) (hme : MeAt w me bb mm) (hr : RemIs w mm S C) (hne : mm ≠ bm) (hBm : B ≤ mm) (hC : C + 2 ^ k ≤ 1000000)
    {x br tp L : Nat} {f : Int} (hbx : SomeBox w x me f L) (hbr : w.heap[br]? = some (.cells #[.int .i64 tp] 3 (0, 0))) (htn : tp < o.length) (hL : L < o.length) (hf : (tp : Int) ≤ lvl S f) (hk : o.length ≤ tp + 1 + k) (one : Bool) :
    Calls Try.prog 63 (#[.bool one] ++ #[.pointer (some ⟨x, 0, none⟩), .pointer (some ⟨x + 1, 0, none⟩), .pointer (some ⟨br, 0, none⟩), .pointer (some ⟨x + 1 + 1, 0, none⟩)]) w
      (Made (MM bm mm) w B bb ab bm ov room o fun w' T id er => Out o.length k ((tp : Int) + 1) room S (someF S L (halfI S f tp one)) T id er ∧ RemIs w' mm T (C + (2 ^ k - 1))) := by
  have hV := hd.rst.vst
  have h8 := hd.eight
  have IHc := fun y : After w => IH (hd.below y.2) (hme.kep (M := fun _ => False) (Kep.of_below y.2)) (hr.below y.2) hne hBm hC (tp + 1) L (halfI S f tp one) hL (by have := half_lvl hV hf (by omega) one; omega) hk
  have HF := fun y : After w => bhalf_any (hd.below y.2) f tp one
  obtain ⟨m0, -⟩ := box1 hbx.m rfl
  obtain ⟨f0, -⟩ := box1 hbx.f rfl
  obtain ⟨l0, -⟩ := box1 hbx.l rfl
  obtain ⟨t0, -⟩ := box1 hbr rfl
  obtain ⟨e0, e1, -⟩ := box2 hme rfl
  have hlow : B ≤ w.heap.size := by have := hd.ar.lt; omega
  have hcast : (((tp + 1 : Nat)) : Int) = (tp : Int) + 1 := by omega
  clear hbx hbr hf hd hme hr IH
  show Calls Try.prog _ #[.bool one, .pointer (some ⟨x, 0, none⟩), .pointer (some ⟨x + 1, 0, none⟩), .pointer (some ⟨br, 0, none⟩), .pointer (some ⟨x + 1 + 1, 0, none⟩)] w _
  generalize halfI S f tp one = hf' at *
  go_enter Try.func63, Try.ntmps63
  go_wp2
  refine wp_region_mid_after 10 _ rfl rfl (by kernel_rfl) (by kernel_rfl) ?_
  simp only [List.take_succ_cons, List.take_zero, List.drop_succ_cons, List.drop_zero]
  repeat (first | go_big_quiet_step ((go_at_call 58; exact Calls.after_of (HF _))))
  refine wpQuiet_nil ?_
  intro y K hK
  have IHy := IHc y
  have hy := y.2
  clear IHc m0 f0 l0 t0 e0 e1 HF
  go_simp
  refine IHy.mono ?_
  rintro e w2 ⟨v2, full2, T, id, er, rfl, hd2, hb2, hk2, hO2, hr2⟩
  rw [hcast] at hO2
  clear IHy
  refine hK.out _ _ ?_
  clear hK
  repeat (first | go_big_quiet_step (fail))
  refine wpQuiet_nil ?_
  go_wp2
  go_ret2
  exact ⟨v2, full2, T, id, er, rfl, hd2, (hy.mono hlow).trans hb2, (Kep.of_below hy).trans hk2, hO2, hr2⟩
set_option maxHeartbeats 2000000 in
set_option maxRecDepth 100000 in
theorem SomeOk.step {k : Nat} (IH : ∀ j, j < k → SomeOk j) : SomeOk k := by
  intro w B bb ab bm ov v room full S o me mm C hd hme hr hne hBm hC l L f hL hf hlk
  have hlow : B ≤ w.heap.size := by have := hd.ar.lt; omega
  have hB := below_alloc3 w (.cells #[.pointer (some ⟨me, 0, none⟩)] 69) (.cells #[.int .i64 f] 3) (.cells #[.int .i64 L] 3)
  have hbx := SomeBox.new w me f L
  go_enter Try.func42, Try.ntmps42
  go_upto_region 1 with (fail)
  generalize ((w.alloc (.cells #[.pointer (some ⟨me, 0, none⟩)] 69)).alloc (.cells #[.int .i64 f] 3)).alloc (.cells #[.int .i64 L] 3) = W1 at *
  have hd6 := hd.below hB
  have hme6 := hme.kep (M := fun _ => False) (Kep.of_below hB)
  have hr6 := hr.below hB
  clear hd hme hr
  have hBs := Below.refl W1.heap.size W1
  have HL : ∀ (W : World), Below W1.heap.size W1 W → Calls Try.prog 61 #[.pointer (some ⟨bb, 0, none⟩), .int .i64 f] W fun e w' => e = .returned (.int .i64 (lvN o.length S f)) ∧ Below W1.heap.size W1 w' ∧ Below W.heap.size W w' ∧ W1.heap.size ≤ w'.heap.size ∧ w'.cell? ⟨w.heap.size, 0, none⟩ = some (.pointer (some ⟨me, 0, none⟩)) ∧ w'.cell? ⟨w.heap.size + 1, 0, none⟩ = some (.int .i64 f) ∧ w'.cell? ⟨me, 0, none⟩ = some (.pointer (some ⟨bb, 0, none⟩)) := fun W hb =>
    (blevel_any (hd6.below hb) f).mono fun e w' ⟨he, hbw⟩ => by
      have hb' := hb.trans (hbw.mono hb.size)
      exact ⟨he, hb', hbw, hb'.size, (now1 (keep_blk hb' hbx.m) rfl).1, (now1 (keep_blk hb' hbx.f) rfl).1, (now2 (keep_blk hb' hme6) rfl).1⟩
  obtain ⟨q0, -⟩ := now1 hbx.m rfl
  obtain ⟨q1, -⟩ := now1 hbx.f rfl
  obtain ⟨q4, -, -⟩ := now2 hme6 rfl
  have hz3 := size_of_block hbx.l
  have hz4 := size_of_block hme6
  obtain ⟨tp, htp⟩ : ∃ tp : Nat, tp = lvN o.length S f := ⟨_, rfl⟩
  rw [← htp] at HL
  go_cut [8] from 9 (fun s8 wc => ∃ br : Nat, s8 = .pointer (some ⟨br, 0, none⟩) ∧ wc.heap[br]? = some (.cells #[.int .i64 tp] 3 (0, 0)) ∧ Below W1.heap.size W1 wc)
  case first =>
    have hcut : ∀ (wc : World) (br : Nat), wc.heap[br]? = some (.cells #[.int .i64 tp] 3 (0, 0)) → Below W1.heap.size W1 wc → ∃ br' : Nat, Value.pointer (some ⟨br, 0, none⟩) = .pointer (some ⟨br', 0, none⟩) ∧ wc.heap[br']? = some (.cells #[.int .i64 tp] 3 (0, 0)) ∧ Below W1.heap.size W1 wc := fun wc br h1 h2 => ⟨br, rfl, h1, h2⟩
    clear hB hbx hd6 hme6 hr6 IH htp
    go_region_held3 (fun w' => w'.cell? ⟨w.heap.size, 0, none⟩ = some (.pointer (some ⟨me, 0, none⟩)) ∧ w'.cell? ⟨w.heap.size + 1, 0, none⟩ = some (.int .i64 f) ∧ w'.cell? ⟨me, 0, none⟩ = some (.pointer (some ⟨bb, 0, none⟩))) (first | go_keep | (refine ⟨?_, ?_, ?_⟩ <;> (repeat (first | (with_reducible assumption) | (with_reducible refine cellSet6 (by omega) ?_)))))
      (first | (go_at_call 61; refine (HL _ (by repeat (first | (with_reducible assumption) | (with_reducible refine b6drew ?_) | (with_reducible refine b6alloc ?_ _)))).mono ?_; rintro e wr ⟨rfl, hbr, hcr, hsr, a0, a1, a4⟩; first | (with_reducible refine haveT6 (keep_blk hcr (heap_alloc_new _ _)) (fun nb => ?_); obtain ⟨y0, yf⟩ := now1 nb rfl) | (with_reducible refine haveT6 (keep_blk hcr nb) (fun nb => ?_); obtain ⟨y0, yf⟩ := now1 nb rfl) | skip))
    all_goals
      go_wp2_with fail
      go_meet
      refine hcut _ _ ?_ ?_
      · first | (with_reducible exact heap_alloc_new _ _) | (with_reducible exact put1 nb)
      · first | (with_reducible exact b6alloc hbr _) | (exact hbr.setCell (by first | omega | exact Nat.le_refl _) _)
  case rest =>
    obtain ⟨br, rfl, hbr, hbc⟩ := hcut
    have hB7 := hB.trans (hbc.mono hB.size)
    have hd7 := hd6.below hbc
    have hme7 := hme6.kep (M := fun _ => False) (Kep.of_below hbc)
    have hr7 := hr6.below hbc
    have hbx7 := hbx.kep (M := fun _ => False) (Kep.of_below hbc)
    clear HL hBs q0 q1 q4 hd6 hme6 hr6 hbx hbc hB hz3 hz4
    have hV := hd7.rst.vst
    have h8 := hd7.eight
    obtain ⟨f1, f2, f3, f4⟩ := lvN_used hV hd7.lst (id := f) (by omega) (by omega)
    rw [← htp] at f1 f2 f3 f4
    have htl : l ≤ tp ∨ tp = o.length := by
      rcases Nat.lt_or_ge tp o.length with hlt | hge
      · have := f3 hlt; omega
      · omega
    clear htp
    have hlow3 : B ≤ wc.heap.size := Nat.le_trans hlow hB7.size
    obtain ⟨m0, -⟩ := box1 hbx7.m rfl
    obtain ⟨u0, -⟩ := box1 hbx7.f rfl
    obtain ⟨l0, -⟩ := box1 hbx7.l rfl
    obtain ⟨t0, -⟩ := box1 hbr rfl
    obtain ⟨e0, e1, -⟩ := box2 hme7 rfl
    obtain ⟨n0, -⟩ := now1 hbr rfl
    obtain ⟨n1, -⟩ := now1 hbx7.l rfl
    obtain ⟨n2, -⟩ := now1 hbx7.f rfl
    by_cases hgt : L < tp
    · have hO : Hid (Out o.length k l room S (someF S L f) S f 0) := Lib.hid (Out.stay hd7.rst hd7.lst (by omega) hf (fun c => someF_off hV (by
        rcases Nat.lt_or_ge tp o.length with hlt | hge
        · have := f3 hlt; omega
        · have := lvl_end (S := S) (f4 (by omega)); omega) c))
      have hg1 : (L : Int) < (tp : Int) := by omega
      clear hgt f1 f2 f3 f4 htl m0 u0 l0 t0 e0 e1 IH
      go_wp2
      go_ret2
      exact ⟨v, full, S, f, 0, rfl, hd7, hB7.mono hlow, Kep.of_below hB7, hO.out, hr7.more (by omega)⟩
    · have hg1 : ¬ ((L : Int) < (tp : Int)) := by omega
      have hfl := f3 (by omega)
      obtain ⟨j, rfl⟩ : ∃ j, k = j + 1 := ⟨k - 1, by omega⟩
      have hpow : 2 ^ (j + 1) = 2 ^ j + 2 ^ j := by rw [Nat.pow_succ]; omega
      have hp1 := pow_one_le j
      by_cases heq : tp = L
      · subst heq
        have l1 := half_lvl hV (id := f) (l := tp) (by omega) (by omega) false
        have l2 := half_lvl hV (id := f) (l := tp) (by omega) (by omega) true
        have e24 := lvl_end (S := S) (id := 1) (.inr rfl)
        have HI := fun y : After wc => ite_any j (hd7.below y.2) (hme7.kep (M := fun _ => False) (Kep.of_below y.2)) (hr7.below y.2) hne hBm (by omega) (tp + 1) (halfI S f tp false) 1 (halfI S f tp true) (by omega) (by omega) (by omega) (by omega)
        have H0 := fun y : After wc => bhalf_any (hd7.below y.2) f tp false
        have H1 := fun y : After wc => bhalf_any (hd7.below y.2) f tp true
        have hOw : Hid (∀ T id er, Out o.length j ((tp + 1 : Nat) : Int) room S (iteF S (halfI S f tp false) 1 (halfI S f tp true)) T id er → Out o.length (j + 1) l room S (someF S tp f) T id er) := Lib.hid fun T id er hO => hO.wide (by omega) (by omega) (fun c => someF_at hV (by omega) (by omega) c)
        have hmore : C + (2 ^ j - 1) ≤ C + (2 ^ (j + 1) - 1) := by omega
        clear hgt f1 f2 f3 f4 htl hbx7 hbr hme7 hr7 l1 l2 e24 hpow hp1 hC IH
        generalize halfI S f tp false = hf0 at *
        generalize halfI S f tp true = hf1 at *
        go_wp2
        refine wp_region_mid_after 15 _ rfl rfl (by kernel_rfl) (by kernel_rfl) ?_
        simp only [List.take_succ_cons, List.take_zero, List.drop_succ_cons, List.drop_zero]
        repeat (first | go_big_quiet_step (first | (go_at_call_of 58 (Value.bool false); exact Calls.after_of (H0 _)) | (go_at_call_of 58 (Value.bool true); exact Calls.after_of (H1 _))))
        refine wpQuiet_nil ?_
        intro y K hK
        have HIy := HI y
        have hy := y.2
        clear HI H0 H1 m0 u0 l0 t0 e0 e1 n0 n1 n2
        go_simp
        refine HIy.mono ?_
        rintro e w2 ⟨v2, full2, T, id, er, rfl, hd2, hb2, hk2, hO2, hr2⟩
        have hO3 := hOw.out _ _ _ hO2
        clear HIy hOw hO2
        refine hK.out _ _ ?_
        clear hK
        repeat (first | go_big_quiet_step (fail))
        refine wpQuiet_nil ?_
        go_wp2
        go_ret2
        exact ⟨v2, full2, T, id, er, rfl, hd2, (hB7.mono hlow).trans ((hy.mono hlow3).trans hb2), (Kep.of_below hB7).trans ((Kep.of_below hy).trans hk2), hO3, hr2.more hmore⟩
      · have htn : tp < o.length := by omega
        have IHj : SomeOk j := IH j (by omega)
        have hb1 : ((tp : Int) == (L : Int)) = false := by simp; omega
        have hcf : ∀ (args : Array Value) (w1 : World), (Sem.run Try.prog (callFunc 63 args) w1) = .ok (.enter 63 args) w1 := fun _ _ => by kernel_rfl
        have HJ : ∀ y : After wc, Calls Try.prog 54 #[.pointer (some ⟨bb, 0, none⟩), .int .i64 tp, .func (.func 63) #[] #[.pointer (some ⟨w.heap.size, 0, none⟩), .pointer (some ⟨w.heap.size + 1, 0, none⟩), .pointer (some ⟨br, 0, none⟩), .pointer (some ⟨w.heap.size + 1 + 1, 0, none⟩)]] y.1
            (Made (MM bm mm) y.1 B bb ab bm ov room o fun w' T id er => OutOf False o.length (j + 1) tp room S (fun _ => false) (someF S L f) T id er ∧ RemIs w' mm T (C + (2 ^ j - 1) + (2 ^ j - 1)) ∧ VSt T) := fun y => by
          have hky : Kep (fun _ => False) wc y.1 := Kep.of_below y.2
          refine bjoin_any (M := MM bm mm) (q := False) (G := fun _ => false) (F := someF S L f) (F0 := someF S L (halfI S f tp false)) (F1 := someF S L (halfI S f tp true))
            (fun w' T => RemIs w' mm T (C + (2 ^ j - 1)) ∧ VSt T) (fun w' T => RemIs w' mm T (C + (2 ^ j - 1) + (2 ^ j - 1)) ∧ VSt T) (fun w' T => RemIs w' mm T (C + (2 ^ j - 1) + (2 ^ j - 1)) ∧ VSt T) _ _ hcf (hd7.below y.2) (.inl rfl) tp j htn (fun c => someF_half hV heq c) (fun hq => hq.elim) ?_ ?_ (fun w' T hh => ⟨hh.1.more (by omega), hh.2⟩) (fun _ _ hh => hh) (fun w1 w2 U V hh hk hx hrv => ?_)
          · exact (somec_any IHj (hd7.below y.2) (hme7.kep hky) (hr7.below y.2) hne hBm (by omega) (hbx7.kep hky) (keep_blk y.2 hbr) htn hL (by omega) (by omega) false).mono fun e w' hm => hm.mono fun T id er ho => ⟨⟨ho.1, fun hq => hq.elim⟩, ho.2, ho.1.rst.vst⟩
          · intro w1 v1 full1 T a hd1 _ hk1 hO1 hr1
            have hx := hO1.1.ext
            have e1 := hx.lvl (id := f) (by omega)
            have k1 := half_ext hx (id := f) (by omega) tp true
            have l1 := half_lvl hV (id := f) (l := tp) (by omega) (by omega) true
            have hkk := (Kep.of_below (M := MM bm mm) y.2).trans hk1
            refine (somec_any IHj hd1 (hme7.kep hkk) hr1.1 hne hBm (by omega) (hbx7.kep hkk) (hkk.cells _ _ _ _ hbr (by decide) (by decide)) htn hL (by omega) (by omega) true).mono fun e w' hm => hm.mono fun U id er ho => ⟨⟨ho.1.wide (Nat.le_refl _) (Int.le_refl _) (fun c => ?_), fun hq => hq.elim⟩, ho.2, ho.1.rst.vst⟩
            rw [k1]
            exact someF_ext hV hx (by omega) c
          · obtain ⟨hh1, hh2⟩ := hh
            exact ⟨(hh1.kep hk (fun e => hne e)).ext hh2 hx, hrv.vst⟩
        have hmf : ∀ (fn : Fn) (first cap : Array Value) (w : World), (Instr.makeFunc fn first cap).run Try.prog w = .ok (.func fn first cap) w := fun _ _ _ _ => rfl
        have hmore : C + (2 ^ j - 1) + (2 ^ j - 1) ≤ C + (2 ^ (j + 1) - 1) := by omega
        have htl' : ((l : Nat) : Int) ≤ (tp : Int) := by omega
        clear hgt f1 f2 f3 f4 htl hbx7 hbr hme7 hr7 hpow hp1 hC IH IHj hcf heq htn hfl
        go_wp2
        refine wp_region_mid_after 6 _ rfl rfl (by kernel_rfl) (by kernel_rfl) ?_
        simp only [List.take_succ_cons, List.take_zero, List.drop_succ_cons, List.drop_zero]
        repeat (first | go_big_quiet_step (fail))
        refine wpQuiet_nil ?_
        intro y K hK
        have HJy := HJ y
        have hy := y.2
        clear HJ m0 u0 l0 t0 e0 e1 n0 n1 n2
        go_simp
        refine HJy.mono ?_
        rintro e w2 ⟨v2, full2, T, id, er, rfl, hd8, hb8, hk8, hO8, hr8, hV8⟩
        have hO := Lib.hid (hO8.1.wide (Nat.le_refl _) htl' (fun _ => rfl))
        clear HJy hO8
        refine hK.out _ _ ?_
        clear hK
        repeat (first | go_big_quiet_step (fail))
        refine wpQuiet_nil ?_
        go_wp2
        go_ret2
        exact ⟨v2, full2, T, id, er, rfl, hd8, (hB7.mono hlow).trans ((hy.mono hlow3).trans hb8), (Kep.of_below hB7).trans ((Kep.of_below hy).trans hk8), hO.out, hr8.more hmore⟩
theorem some_any (k : Nat) : SomeOk k := by
  induction k using Nat.strongRecOn with
  | _ k ih => exact SomeOk.step ih
end Go.Proofs.Ytbffcnnfkfjpgaa
