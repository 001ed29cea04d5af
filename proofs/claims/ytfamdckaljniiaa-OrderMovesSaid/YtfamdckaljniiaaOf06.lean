/- Of: a set is told as an id, down to its points. -/
import Derived.Test.YtfamdckaljniiaaJoin06
import Derived.Test.YtfamdckaljniiaaMid06
namespace Go.Proofs.Ytfamdckaljniiaa
open Go.RowKit Go.Joins

/-- The boxes that the closure of of looks into. -/
structure OfBox (w : World) (x bb : Nat) (X : BitVec 256) (l p : Nat) : Prop where
  b : w.heap[x]? = some (.cells #[.pointer (some ⟨bb, 0, none⟩)] 43 (0, 0))
  s : w.heap[x + 1]? = some (.cells (sa X) 42 (0, 0))
  l : w.heap[x + 1 + 1]? = some (.cells #[.int .i64 l] 3 (0, 0))
  p : w.heap[x + 1 + 1 + 1]? = some (.cells #[.int .i64 p] 3 (0, 0))
theorem OfBox.kep {M : Nat → Prop} {w w' : World} {x bb : Nat} {X : BitVec 256} {l p : Nat} (h : OfBox w x bb X l p) (k : Kep M w w') : OfBox w' x bb X l p :=
  ⟨k.cells _ _ _ _ h.b (by decide) (by decide), k.cells _ _ _ _ h.s (by decide) (by decide), k.cells _ _ _ _ h.l (by decide) (by decide), k.cells _ _ _ _ h.p (by decide) (by decide)⟩
theorem now1 {w : World} {b : Nat} {T : TypeId} {C : Array Value} {x0 : Value} (h : w.heap[b]? = some (.cells C T (0, 0))) (hC : C = #[x0]) :
    w.cell? ⟨b, 0, none⟩ = some x0 ∧ (∀ j : Nat, w.frozen? ⟨b, j, none⟩ = false) := by
  subst hC
  exact ⟨by rw [cell_of_block h]; rfl, unfrozen_of_block h⟩
theorem box1 {w : World} {b : Nat} {T : TypeId} {C : Array Value} {x0 : Value} (h : w.heap[b]? = some (.cells C T (0, 0))) (hC : C = #[x0]) :
    (∀ x : After w, x.1.cell? ⟨b, 0, none⟩ = some x0) ∧ (∀ (x : After w) (j : Nat), x.1.frozen? ⟨b, j, none⟩ = false) := by
  subst hC
  exact ⟨fun x => (now1 (After.same x h) rfl).1, fun x => (now1 (After.same x h) rfl).2⟩
theorem OfBox.new (w : World) (bb : Nat) (X : BitVec 256) (l p : Nat) :
    OfBox ((((w.alloc (.cells #[.pointer (some ⟨bb, 0, none⟩)] 43)).alloc (.cells (sa X) 42)).alloc (.cells #[.int .i64 l] 3)).alloc (.cells #[.int .i64 p] 3)) w.heap.size bb X l p := by
  refine ⟨keep_alloc (heap_alloc3_a _ _ _ _), keep_alloc (heap_alloc3_b _ _ _ _), keep_alloc ?_, ?_⟩
  · exact heap_alloc3_c _ _ _ _
  · have e : w.heap.size + 1 + 1 + 1 = (((w.alloc (.cells #[.pointer (some ⟨bb, 0, none⟩)] 43)).alloc (.cells (sa X) 42)).alloc (.cells #[.int .i64 l] 3)).heap.size := by simp
    rw [e]; exact heap_alloc_new _ _
def OfOk (k : Nat) : Prop := ∀ {w : World} {B bb ab bm : Nat} {ov v : Value} {room full : Nat} {S : St} {o : List Nat} (X : BitVec 256), BdAt w B bb ab bm ov v room full S o → ∀ l, l + k = o.length → ∀ d,
  Calls Try.prog 32 #[.pointer (some ⟨bb, 0, none⟩), sv X, .int .i64 l, .int .i64 (ptK o l d)] w
    (Made (· = bm) w B bb ab bm ov room o fun _ T id er => OutOf True o.length k l room S (setF o X) (setFk o X l d) T id er)
theorem OfOk.zero : OfOk 0 := by
  intro w B bb ab bm ov v room full S o X h l hl d
  have HH := fun w => hasAny X (ptK o l d) w
  rw [decide_eq_true (show 0 ≤ ((ptK o l d : Nat) : Int) by omega), Bool.true_and, Int.toNat_natCast] at HH
  have hO : Hid (OutOf True o.length 0 l room S (setF o X) (setFk o X l d) S (if X.getLsbD (ptK o l d) then 1 else 0) 0) := Lib.hid ⟨by
    have hln : l = o.length := by omega
    subst hln
    cases hb : X.getLsbD (ptK o o.length d)
    · exact Out.stay h.rst h.lst (by rw [if_neg (by decide), lvl_end (.inl rfl)]; decide) (by rw [if_neg (by decide), lvl_end (.inl rfl)]; have := h.eight; omega) (fun c => by rw [if_neg (by decide), says_zero, setFk_all, hb])
    · exact Out.stay h.rst h.lst (by rw [if_pos rfl, lvl_end (.inr rfl)]; decide) (by rw [if_pos rfl, lvl_end (.inr rfl)]; have := h.eight; omega) (fun c => by rw [if_pos rfl, says_one, setFk_all, hb]), fun _ hN => ⟨hN, fun e => by cases e⟩⟩
  obtain ⟨A, c, rfl⟩ := own_form h.row
  have hB := (below_alloc3 w (.cells #[.pointer (some ⟨bb, 0, none⟩)] 43) (.cells (sa X) 42) (.cells #[.int .i64 l] 3)).alloc (below_alloc3 w _ _ _).size (.cells #[.int .i64 (ptK o l d)] 3)
  have hbx := OfBox.new w bb X l (ptK o l d)
  have hd4 := h.below hB
  have hlow : B ≤ w.heap.size := by have := h.ar.lt; omega
  have hnl : ¬ ((l : Int) < (o.length : Int)) := by omega
  unfold sv at *
  unfold sa wv at hB hbx hd4
  unfold wv at HH ⊢
  go_enter Try.func32, Try.ntmps32
  go_wp2_with fail
  generalize hW : (((w.alloc (.cells #[.pointer (some ⟨bb, 0, none⟩)] 43)).alloc (.cells #[.int .u64 (wd X 0).toNat, .int .u64 (wd X 1).toNat, .int .u64 (wd X 2).toNat, .int .u64 (wd X 3).toNat] 42)).alloc (.cells #[.int .i64 l] 3)).alloc (.cells #[.int .i64 (ptK o l d)] 3) = W at *
  clear hW
  obtain ⟨s0, s1, s2, s3, -⟩ := now4 hbx.s rfl
  obtain ⟨p0, -⟩ := now1 hbx.p rfl
  obtain ⟨l0, -⟩ := now1 hbx.l rfl
  obtain ⟨b0, -⟩ := now1 hbx.b rfl
  obtain ⟨c0, c1, -⟩ := now2 hd4.head rfl
  unfold wv at s0 s1 s2 s3
  generalize ptK o l d = p at *
  have hd := Lib.hid hd4
  have hBH := Lib.hid hB
  clear h hd4 hB hl hbx
  go_quiet (fail)
  go_wp2_with fail
  refine (HH _).mono ?_
  rintro e w2 ⟨rfl, hb2⟩
  have hB1 := below_drews (Below.refl W.heap.size W) nq
  have hB2 := hB1.trans (hb2.mono hB1.size)
  have hw := hd.out.ar.lt
  clear HH s0 s1 s2 s3 p0 l0 b0 c0 c1
  cases hb : X.getLsbD p
  · rw [hb] at hO
    go_wp2
    go_ret2
    exact ⟨v, full, S, 0, 0, rfl, hd.out.below hB2, (hBH.out.trans (hB2.mono hBH.out.size)).mono hlow, (Kep.of_below hBH.out).trans (Kep.of_below hB2), hO.out⟩
  · rw [hb] at hO
    go_wp2
    go_ret2
    exact ⟨v, full, S, 1, 0, rfl, hd.out.below hB2, (hBH.out.trans (hB2.mono hBH.out.size)).mono hlow, (Kep.of_below hBH.out).trans (Kep.of_below hB2), hO.out⟩
theorem or_of (p i : Nat) (hp : p < 256) (hi : i < 8) : bits BinOp.or IntKind.i64 (p : Int) (wrap64 ((2 : Int) ^ i)) = ((p ||| 2 ^ i : Nat) : Int) := by
  rw [w64_pow i (by omega)]
  have h2 := two_eight (n := i) (by omega)
  have := i64_nat true p (2 ^ i) (by omega) (by generalize 2 ^ i = m at h2; omega)
  simpa using this
theorem ofc_low {k : Nat} (IH : OfOk k) {w : World} {B bb ab bm : Nat} {ov v : Value} {room full : Nat} {S : St} {o : List Nat} (X : BitVec 256) (h : BdAt w B bb ab bm ov v room full S o) {x l : Nat} {d : Nat → Bool} (hx : OfBox w x bb X l (ptK o l d)) (hl : l + 1 + k = o.length) :
    Calls Try.prog 48 (#[.bool false] ++ #[.pointer (some ⟨x, 0, none⟩), .pointer (some ⟨x + 1, 0, none⟩), .pointer (some ⟨x + 1 + 1, 0, none⟩), .pointer (some ⟨x + 1 + 1 + 1, 0, none⟩)]) w
      (Made (· = bm) w B bb ab bm ov room o fun _ T id er => OutOf True o.length k ((l : Int) + 1) room S (setF o X) (setFk o X (l + 1) (setB d l false)) T id er) := by
  have IHl := IH X h (l + 1) hl (setB d l false)
  rw [ptK_low (by omega), show (((l + 1 : Nat)) : Int) = (l : Int) + 1 by omega] at IHl
  have h8 := h.eight
  obtain ⟨s0, s1, s2, s3, -⟩ := now4 hx.s rfl
  obtain ⟨p0, -⟩ := now1 hx.p rfl
  obtain ⟨l0, -⟩ := now1 hx.l rfl
  obtain ⟨b0, -⟩ := now1 hx.b rfl
  unfold sv at IHl
  unfold wv at s0 s1 s2 s3 IHl
  generalize ptK o l d = p at *
  show Calls Try.prog _ #[.bool false, .pointer (some ⟨x, 0, none⟩), .pointer (some ⟨x + 1, 0, none⟩), .pointer (some ⟨x + 1 + 1, 0, none⟩), .pointer (some ⟨x + 1 + 1 + 1, 0, none⟩)] w _
  go_enter Try.func48, Try.ntmps48
  go_wp2_with fail
  refine IHl.mono ?_
  rintro e w2 ⟨v2, full2, T, id, er, rfl, hd2, hb2, hk2, hO2⟩
  clear IHl
  go_wp2
  go_ret2
  exact ⟨v2, full2, T, id, er, rfl, hd2, hb2, hk2, hO2⟩
set_option maxHeartbeats 1000000 in
theorem ofc_high {k : Nat} (IH : OfOk k) {w : World} {B bb ab bm : Nat} {ov v : Value} {room full : Nat} {S : St} {o : List Nat} (X : BitVec 256) (h : BdAt w B bb ab bm ov v room full S o) {x l : Nat} {d : Nat → Bool} (hx : OfBox w x bb X l (ptK o l d)) (hl : l + 1 + k = o.length) :
    Calls Try.prog 48 (#[.bool true] ++ #[.pointer (some ⟨x, 0, none⟩), .pointer (some ⟨x + 1, 0, none⟩), .pointer (some ⟨x + 1 + 1, 0, none⟩), .pointer (some ⟨x + 1 + 1 + 1, 0, none⟩)]) w
      (Made (· = bm) w B bb ab bm ov room o fun _ T id er => OutOf True o.length k ((l : Int) + 1) room S (setF o X) (setFk o X (l + 1) (setB d l true)) T id er) := by
  have h8 := h.eight
  obtain ⟨i, hi⟩ : ∃ i, o[l]? = some i := ⟨_, List.getElem?_eq_getElem (by omega)⟩
  have hi8 : i < 8 := by have := h.ord.lt i (List.mem_of_getElem? hi); omega
  have hp : ptK o l d < 256 := Nat.lt_of_lt_of_le (ptK_lt h.ord l d) (two_eight h8)
  have IHl := fun y : After w => IH X (h.below y.2) (l + 1) hl (setB d l true)
  have hor := or_of (ptK o l d) i hp hi8
  rw [ptK_high h.ord hi, show (((l + 1 : Nat)) : Int) = (l : Int) + 1 by omega, ← hor] at IHl
  obtain ⟨s0, s1, s2, s3, -⟩ := box4 hx.s rfl
  obtain ⟨p0, -⟩ := box1 hx.p rfl
  obtain ⟨l0, -⟩ := box1 hx.l rfl
  obtain ⟨b0, -⟩ := box1 hx.b rfl
  obtain ⟨c0, c1, -⟩ := box2 h.head rfl
  obtain ⟨g, c', e, q⟩ := row_at h.row hi
  subst e
  have q0 := fun y : After w => After.cell y q
  have hBw : Below w.heap.size w w := Below.refl _ _
  have hll : (l : Int) < (o.length : Int) := by omega
  have hlow : B ≤ w.heap.size := by have := h.ar.lt; omega
  unfold sv at IHl
  unfold wv at s0 s1 s2 s3 IHl
  generalize ptK o l d = p at *
  clear hi h hx q hor
  show Calls Try.prog _ #[.bool true, .pointer (some ⟨x, 0, none⟩), .pointer (some ⟨x + 1, 0, none⟩), .pointer (some ⟨x + 1 + 1, 0, none⟩), .pointer (some ⟨x + 1 + 1 + 1, 0, none⟩)] w _
  go_enter Try.func48, Try.ntmps48
  go_wp2
  refine wp_region_mid_after 14 _ rfl rfl (by kernel_rfl) (by kernel_rfl) ?_
  simp only [List.take_succ_cons, List.take_zero, List.drop_succ_cons, List.drop_zero]
  repeat (first | go_big_quiet_step (fail))
  refine wpQuiet_nil ?_
  intro y K hK
  have IHy := IHl y
  have hy := y.2
  clear IHl s0 s1 s2 s3 p0 l0 b0 c0 c1 q0
  go_simp
  refine IHy.mono ?_
  rintro e w2 ⟨v2, full2, T, id, er, rfl, hd2, hb2, hk2, hO2⟩
  clear IHy
  refine hK.out _ _ ?_
  clear hK
  repeat (first | go_big_quiet_step (fail))
  refine wpQuiet_nil ?_
  go_wp2
  go_ret2
  exact ⟨v2, full2, T, id, er, rfl, hd2, (hy.mono hlow).trans hb2, (Kep.of_below hy).trans hk2, hO2⟩
theorem Made.after {M : Nat → Prop} {w w1 : World} {B bb ab bm : Nat} {ov : Value} {room : Nat} {o : List Nat} {P P' : World → St → Int → Int → Prop} {e : Ending} {w' : World} (hb : Below B w w1) (hk : Kep M w w1) (h : Made M w1 B bb ab bm ov room o P e w') (hP : ∀ T id er, P w' T id er → P' w' T id er) : Made M w B bb ab bm ov room o P' e w' := by
  obtain ⟨v', f, T, id, er, h1, h2, h3, h4, h5⟩ := h
  exact ⟨v', f, T, id, er, h1, h2, hb.trans h3, hk.trans h4, hP _ _ _ h5⟩
set_option maxHeartbeats 1000000 in
theorem OfOk.succ {k : Nat} (IH : OfOk k) : OfOk (k + 1) := by
  intro w B bb ab bm ov v room full S o X h l hl d
  obtain ⟨A, c, rfl⟩ := own_form h.row
  have hB := (below_alloc3 w (.cells #[.pointer (some ⟨bb, 0, none⟩)] 43) (.cells (sa X) 42) (.cells #[.int .i64 l] 3)).alloc (below_alloc3 w _ _ _).size (.cells #[.int .i64 (ptK o l d)] 3)
  have hbx := OfBox.new w bb X l (ptK o l d)
  have hd4 := h.below hB
  have hlow : B ≤ w.heap.size := by have := h.ar.lt; omega
  have hnl : (l : Int) < (o.length : Int) := by omega
  have hcf : ∀ (args : Array Value) (w1 : World), (Sem.run Try.prog (callFunc 48 args) w1) = .ok (.enter 48 args) w1 := fun _ _ => by kernel_rfl
  have HJ : ∀ W : World, BdAt W B bb ab bm (.slice A o.length c) v room full S o → OfBox W w.heap.size bb X l (ptK o l d) →
      Calls Try.prog 47 #[.pointer (some ⟨bb, 0, none⟩), .int .i64 l, .func (.func 48) #[] #[.pointer (some ⟨w.heap.size, 0, none⟩), .pointer (some ⟨w.heap.size + 1, 0, none⟩), .pointer (some ⟨w.heap.size + 1 + 1, 0, none⟩), .pointer (some ⟨w.heap.size + 1 + 1 + 1, 0, none⟩)]] W
        (Made (· = bm) W B bb ab bm (.slice A o.length c) room o fun _ T id er => OutOf True o.length (k + 1) l room S (setF o X) (setFk o X l d) T id er ∧ True) := fun W hdW hxW =>
    bjoin_any (M := (· = bm)) (q := True) (G := setF o X) (F := setFk o X l d) (F0 := setFk o X (l + 1) (setB d l false)) (F1 := setFk o X (l + 1) (setB d l true)) (fun _ _ => True) (fun _ _ => True) (fun _ _ => True) _ _ hcf hdW rfl l k (by omega) (setFk_split o X l d) (fun _ => setFk_row o X l d)
      ((ofc_low IH X hdW hxW (by omega)).mono fun e w' hm => hm.mono fun T id er ho => ⟨ho, trivial⟩)
      (fun w1 v1 full1 T a hd1 _ hk1 _ _ => (ofc_high IH X hd1 (hxW.kep hk1) (by omega)).mono fun e w' hm => hm.mono fun T id er ho => ⟨ho, trivial⟩)
      (fun _ _ _ => trivial) (fun _ _ _ => trivial) (fun _ _ _ _ _ _ _ _ => trivial)
  unfold sv at *
  unfold sa wv at hB hbx hd4
  unfold wv
  go_enter Try.func32, Try.ntmps32
  go_wp2_with fail
  generalize hW : (((w.alloc (.cells #[.pointer (some ⟨bb, 0, none⟩)] 43)).alloc (.cells #[.int .u64 (wd X 0).toNat, .int .u64 (wd X 1).toNat, .int .u64 (wd X 2).toNat, .int .u64 (wd X 3).toNat] 42)).alloc (.cells #[.int .i64 l] 3)).alloc (.cells #[.int .i64 (ptK o l d)] 3) = W at *
  clear hW
  have hbx' : OfBox W w.heap.size bb X l (ptK o l d) := hbx
  have HJ' := fun n => HJ (W.drewN n) (hd4.below (below_drews (Below.refl _ _) n)) (hbx'.kep (M := fun _ => False) (Kep.of_below (below_drews (Below.refl _ _) n)))
  obtain ⟨l0, -⟩ := now1 hbx.l rfl
  obtain ⟨b0, -⟩ := now1 hbx.b rfl
  obtain ⟨c0, c1, -⟩ := now2 hd4.head rfl
  have hBH := Lib.hid hB
  clear h hd4 hB hl hbx hbx' HJ hcf
  go_quiet (fail)
  go_wp2_with fail
  refine (HJ' nq).mono ?_
  rintro e w2 ⟨v2, full2, T, id, er, rfl, hd2, hb2, hk2, hO2⟩
  clear HJ' l0 b0 c0 c1
  have hBn := below_drews (Below.refl W.heap.size W) nq
  go_wp2
  go_ret2
  exact ⟨v2, full2, T, id, er, rfl, hd2, (hBH.out.mono hlow).trans ((hBn.mono (Nat.le_trans hlow hBH.out.size)).trans hb2), (Kep.of_below hBH.out).trans ((Kep.of_below hBn).trans hk2), hO2.1⟩
theorem ofAll_any (k : Nat) : OfOk k := by
  induction k with
  | zero => exact OfOk.zero
  | succ k ih => exact OfOk.succ ih
end Go.Proofs.Ytfamdckaljniiaa
