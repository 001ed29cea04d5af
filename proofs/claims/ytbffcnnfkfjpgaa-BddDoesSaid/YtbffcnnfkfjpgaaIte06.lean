/- Ite: of ids that are used, by halves, what is known being remembered. -/
import Derived.Test.YtbffcnnfkfjpgaaRem06
import Derived.Test.YtbffcnnfkfjpgaaMid06
import Derived.Deep.RegionHeld3
namespace Go.Proofs.Ytbffcnnfkfjpgaa
open Go.RowKit Go.Joins

/-- What two calls may write. -/
def MM (bm mm : Nat) : Nat → Prop := fun k => k = bm ∨ k = mm
structure IteBox (w : World) (x me : Nat) (f g h : Int) : Prop where
  m : w.heap[x]? = some (.cells #[.pointer (some ⟨me, 0, none⟩)] 69 (0, 0))
  f : w.heap[x + 1]? = some (.cells #[.int .i64 f] 3 (0, 0))
  g : w.heap[x + 1 + 1]? = some (.cells #[.int .i64 g] 3 (0, 0))
  h : w.heap[x + 1 + 1 + 1]? = some (.cells #[.int .i64 h] 3 (0, 0))
theorem IteBox.kep {M : Nat → Prop} {w w' : World} {x me : Nat} {f g h : Int} (k : IteBox w x me f g h) (kk : Kep M w w') : IteBox w' x me f g h :=
  ⟨kk.cells _ _ _ _ k.m (by decide) (by decide), kk.cells _ _ _ _ k.f (by decide) (by decide), kk.cells _ _ _ _ k.g (by decide) (by decide), kk.cells _ _ _ _ k.h (by decide) (by decide)⟩
theorem IteBox.new (w : World) (me : Nat) (f g h : Int) :
    IteBox ((((w.alloc (.cells #[.pointer (some ⟨me, 0, none⟩)] 69)).alloc (.cells #[.int .i64 f] 3)).alloc (.cells #[.int .i64 g] 3)).alloc (.cells #[.int .i64 h] 3)) w.heap.size me f g h := by
  refine ⟨keep_alloc (heap_alloc3_a _ _ _ _), keep_alloc (heap_alloc3_b _ _ _ _), keep_alloc ?_, ?_⟩
  · exact heap_alloc3_c _ _ _ _
  · have e : w.heap.size + 1 + 1 + 1 = (((w.alloc (.cells #[.pointer (some ⟨me, 0, none⟩)] 69)).alloc (.cells #[.int .i64 f] 3)).alloc (.cells #[.int .i64 g] 3)).heap.size := by simp
    rw [e]; exact heap_alloc_new _ _
/-- The memory of a call. -/
def MeAt (w : World) (me bb mm : Nat) : Prop := w.heap[me]? = some (.cells #[.pointer (some ⟨bb, 0, none⟩), .map (some mm)] 91 (0, 0))
theorem MeAt.kep {M : Nat → Prop} {w w' : World} {me bb mm : Nat} (h : MeAt w me bb mm) (k : Kep M w w') : MeAt w' me bb mm := k.cells _ _ _ _ h (by decide) (by decide)
theorem iteF_one {S : St} {f g h : Int} (e : f = 1) (c : Nat → Bool) : says S c g = iteF S f g h c := by unfold iteF; rw [e, says_one]; rfl
theorem iteF_same {S : St} {f g h : Int} (e : g = h) (c : Nat → Bool) : says S c g = iteF S f g h c := by unfold iteF; rw [e]; split <;> rfl
theorem iteF_zero {S : St} {f g h : Int} (e : f = 0) (c : Nat → Bool) : says S c h = iteF S f g h c := by unfold iteF; rw [e, says_zero]; rfl
theorem b6alloc {a w : World} (h : Below a.heap.size a w) (o : Obj) : Below a.heap.size a (w.alloc o) := h.alloc h.size o
theorem b6drew {a w : World} (h : Below a.heap.size a w) : Below a.heap.size a w.drew := h.drew
theorem cellSet6 {w : World} {b c : Nat} {u v : Value} (hne : c ≠ b) (h : w.cell? ⟨c, 0, none⟩ = some v) : (w.setCell ⟨b, 0, none⟩ u).cell? ⟨c, 0, none⟩ = some v := by
  rw [World.cell?_of_block (w := w) (a := ⟨c, 0, none⟩) (Below.heap_setCell _ _ _ _ hne)]; exact h
theorem minE (a b c : Nat) : (if (c : Int) < (if b < a then (b : Int) else (a : Int)) then (c : Int) else if b < a then (b : Int) else (a : Int)) = ((min (min a b) c : Nat) : Int) := by
  rw [Nat.min_def, Nat.min_def]
  repeat' split
  all_goals omega
theorem put1 {w : World} {b : Nat} {T : TypeId} {x y : Value} (h : w.heap[b]? = some (.cells #[y] T (0, 0))) : (w.setCell ⟨b, 0, none⟩ x).heap[b]? = some (.cells #[x] T (0, 0)) := by
  rw [block_setCell h x]; rfl
theorem haveT6 {P Q : Prop} (h : P) (k : P → Q) : Q := k h
/-- What stays of five cells, and of whatever else there is. -/
structure Five (w' : World) (x me bb : Nat) (f g h : Int) : Prop where
  m : w'.cell? ⟨x, 0, none⟩ = some (.pointer (some ⟨me, 0, none⟩))
  f : w'.cell? ⟨x + 1, 0, none⟩ = some (.int .i64 f)
  g : w'.cell? ⟨x + 1 + 1, 0, none⟩ = some (.int .i64 g)
  h : w'.cell? ⟨x + 1 + 1 + 1, 0, none⟩ = some (.int .i64 h)
  b : w'.cell? ⟨me, 0, none⟩ = some (.pointer (some ⟨bb, 0, none⟩))
def IteOk (k : Nat) : Prop := ∀ {w : World} {B bb ab bm : Nat} {ov v : Value} {room full : Nat} {S : St} {o : List Nat} {me mm C : Nat}, BdAt w B bb ab bm ov v room full S o → MeAt w me bb mm → RemIs w mm S C → mm ≠ bm → B ≤ mm → C + 2 ^ k ≤ 1000000 →
  ∀ (l : Nat) (f g h : Int), (l : Int) ≤ lvl S f → (l : Int) ≤ lvl S g → (l : Int) ≤ lvl S h → o.length ≤ l + k →
  Calls Try.prog 40 #[.pointer (some ⟨me, 0, none⟩), .int .i64 f, .int .i64 g, .int .i64 h] w
    (Made (MM bm mm) w B bb ab bm ov room o fun w' T id er => Out o.length k l room S (iteF S f g h) T id er ∧ RemIs w' mm T (C + (2 ^ k - 1)))
theorem ite_short {k : Nat} {w : World} {B bb ab bm : Nat} {ov v : Value} {room full : Nat} {S : St} {o : List Nat} {me mm C : Nat} (hd : BdAt w B bb ab bm ov v room full S o) (hr : RemIs w mm S C)
    (l : Nat) (f g h : Int) (hg : (l : Int) ≤ lvl S g) (hh : (l : Int) ≤ lvl S h) (hs : f = 1 ∨ g = h ∨ f = 0) :
    Calls Try.prog 40 #[.pointer (some ⟨me, 0, none⟩), .int .i64 f, .int .i64 g, .int .i64 h] w
      (Made (MM bm mm) w B bb ab bm ov room o fun w' T id er => Out o.length k l room S (iteF S f g h) T id er ∧ RemIs w' mm T (C + (2 ^ k - 1))) := by
  have hB := (below_alloc3 w (.cells #[.pointer (some ⟨me, 0, none⟩)] 69) (.cells #[.int .i64 f] 3) (.cells #[.int .i64 g] 3)).alloc (below_alloc3 w _ _ _).size (.cells #[.int .i64 h] 3)
  have hbx := IteBox.new w me f g h
  have hd4 := Lib.hid (hd.below hB)
  have hr4 := Lib.hid ((hr.below hB).more (C' := C + (2 ^ k - 1)) (by omega))
  have hlow : B ≤ w.heap.size := by have := hd.ar.lt; omega
  have hOg : Hid (f = 1 ∨ g = h → Out o.length k l room S (iteF S f g h) S g 0) := Lib.hid fun e => Out.stay hd.rst hd.lst (by omega) hg (fun c => by rcases e with e | e; exact iteF_one e c; exact iteF_same e c)
  have hOh : Hid (f = 0 → Out o.length k l room S (iteF S f g h) S h 0) := Lib.hid fun e => Out.stay hd.rst hd.lst (by omega) hh (fun c => iteF_zero e c)
  clear hd hr hg hh
  by_cases h1 : f = 1
  · subst h1
    go_enter Try.func40, Try.ntmps40
    go_wp2_with fail
    go_ret2
    exact ⟨v, full, S, g, 0, rfl, hd4.out, hB.mono hlow, Kep.of_below hB, hOg.out (by simp), hr4.out⟩
  · have b1 : (f == 1) = false := by simpa using h1
    by_cases h2 : g = h
    · subst h2
      clear h1
      go_enter Try.func40, Try.ntmps40
      go_wp2_with fail
      go_ret2
      exact ⟨v, full, S, g, 0, rfl, hd4.out, hB.mono hlow, Kep.of_below hB, hOg.out (by simp), hr4.out⟩
    · have b2 : (g == h) = false := by simpa using h2
      obtain rfl : f = 0 := by rcases hs with e | e | e; exact absurd e h1; exact absurd e h2; exact e
      clear h1 h2 hs b1
      go_enter Try.func40, Try.ntmps40
      go_wp2_with fail
      go_ret2
      exact ⟨v, full, S, h, 0, rfl, hd4.out, hB.mono hlow, Kep.of_below hB, hOh.out (by simp), hr4.out⟩
theorem iteF_half {S : St} (hV : VSt S) {f g h : Int} {l : Nat} (c : Nat → Bool) : iteF S f g h c = if c l then iteF S (halfI S f l true) (halfI S g l true) (halfI S h l true) c else iteF S (halfI S f l false) (halfI S g l false) (halfI S h l false) c := by
  have hf := half_says hV c (id := f) (l := l)
  have hg := half_says hV c (id := g) (l := l)
  have hh := half_says hV c (id := h) (l := l)
  unfold iteF
  cases hb : c l
  · rw [hb] at hf hg hh
    rw [hf, hg, hh]; rfl
  · rw [hb] at hf hg hh
    rw [hf, hg, hh]; rfl
set_option maxHeartbeats 1000000 in
/-- The closure: the halves' Ite. -/
theorem itec_any {k : Nat} (IH : IteOk k) {w : World} {B bb ab bm : Nat} {ov v : Value} {room full : Nat} {S : St} {o : List Nat} {me mm C : Nat} (hd : BdAt w B bb ab bm ov v room full S o) (hme : MeAt w me bb mm) (hr : RemIs w mm S C) (hne : mm ≠ bm) (hBm : B ≤ mm) (hC : C + 2 ^ k ≤ 1000000)
    {x br tp : Nat} {f g h : Int} (hbx : IteBox w x me f g h) (hbr : w.heap[br]? = some (.cells #[.int .i64 tp] 3 (0, 0))) (htn : tp < o.length) (hf : (tp : Int) ≤ lvl S f) (hg : (tp : Int) ≤ lvl S g) (hh : (tp : Int) ≤ lvl S h) (hk : o.length ≤ tp + 1 + k) (one : Bool) :
    Calls Try.prog 62 (#[.bool one] ++ #[.pointer (some ⟨x, 0, none⟩), .pointer (some ⟨x + 1, 0, none⟩), .pointer (some ⟨br, 0, none⟩), .pointer (some ⟨x + 1 + 1, 0, none⟩), .pointer (some ⟨x + 1 + 1 + 1, 0, none⟩)]) w
      (Made (MM bm mm) w B bb ab bm ov room o fun w' T id er => Out o.length k ((tp : Int) + 1) room S (iteF S (halfI S f tp one) (halfI S g tp one) (halfI S h tp one)) T id er ∧ RemIs w' mm T (C + (2 ^ k - 1))) := by
  have hV := hd.rst.vst
  have h8 := hd.eight
  have IHc := fun y : After w => IH (hd.below y.2) (hme.kep (M := fun _ => False) (Kep.of_below y.2)) (hr.below y.2) hne hBm hC (tp + 1) (halfI S f tp one) (halfI S g tp one) (halfI S h tp one)
    (by have := half_lvl hV hf (by omega) one; omega) (by have := half_lvl hV hg (by omega) one; omega) (by have := half_lvl hV hh (by omega) one; omega) hk
  have HF := fun y : After w => bhalf_any (hd.below y.2) f tp one
  have HG := fun y : After w => bhalf_any (hd.below y.2) g tp one
  have HH := fun y : After w => bhalf_any (hd.below y.2) h tp one
  obtain ⟨m0, -⟩ := box1 hbx.m rfl
  obtain ⟨f0, -⟩ := box1 hbx.f rfl
  obtain ⟨g0, -⟩ := box1 hbx.g rfl
  obtain ⟨h0, -⟩ := box1 hbx.h rfl
  obtain ⟨t0, -⟩ := box1 hbr rfl
  obtain ⟨e0, e1, -⟩ := box2 hme rfl
  have hlow : B ≤ w.heap.size := by have := hd.ar.lt; omega
  have hcast : (((tp + 1 : Nat)) : Int) = (tp : Int) + 1 := by omega
  clear hbx hbr hf hg hh hd hme hr IH
  show Calls Try.prog _ #[.bool one, .pointer (some ⟨x, 0, none⟩), .pointer (some ⟨x + 1, 0, none⟩), .pointer (some ⟨br, 0, none⟩), .pointer (some ⟨x + 1 + 1, 0, none⟩), .pointer (some ⟨x + 1 + 1 + 1, 0, none⟩)] w _
  generalize halfI S f tp one = hf' at *
  generalize halfI S g tp one = hg' at *
  generalize halfI S h tp one = hh' at *
  go_enter Try.func62, Try.ntmps62
  go_wp2
  refine wp_region_mid_after 25 _ rfl rfl (by kernel_rfl) (by kernel_rfl) ?_
  simp only [List.take_succ_cons, List.take_zero, List.drop_succ_cons, List.drop_zero]
  repeat (first | go_big_quiet_step (first | (go_at_call_of 58 (Value.int IntKind.i64 f); exact Calls.after_of (HF _)) | (go_at_call_of 58 (Value.int IntKind.i64 g); exact Calls.after_of (HG _)) | (go_at_call_of 58 (Value.int IntKind.i64 h); exact Calls.after_of (HH _))))
  refine wpQuiet_nil ?_
  intro y K hK
  have IHy := IHc y
  have hy := y.2
  clear IHc m0 f0 g0 h0 t0 e0 e1 HF HG HH
  go_simp
  refine IHy.mono ?_
  rintro e w2 ⟨v2, full2, T, id, er, rfl, hd2, hb2, hk2, hO2, hr2⟩
  rw [hcast] at hO2
  clear IHy
  refine hK.out _ _ ?_
  clear hK
  repeat (first | go_big_quiet_step (fail))
  refine wpQuiet_nil ?_
  go_wp2
  go_ret2
  exact ⟨v2, full2, T, id, er, rfl, hd2, (hy.mono hlow).trans hb2, (Kep.of_below hy).trans hk2, hO2, hr2⟩
end Go.Proofs.Ytbffcnnfkfjpgaa
