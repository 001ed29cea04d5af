/- A family copied out of another diagram. Several joins put together. -/
import Derived.Test.YtehpccanjlaokaaGreatGQ25
namespace Go.Proofs.YtehpccanjlaokaaGreat
open Go.RowKit Go.Joins

/-- What a family of another diagram comes to. -/
def CopyOk (k : Nat) : Prop := ∀ {N N2 : Nat → Prop} {w : World} {zb ab bm wk mm zs ya yb : Nat} {v vs : Value} {room full rs fs : Nat} {S0 S : St} {c : Nat}, ZdAt w N zb ab bm v room full S → ZdAt w N2 zs ya yb vs rs fs S0 → (∀ k, Fp ya yb vs k → N k) → WkAt w wk zb mm → RemZ w mm S0 S c → mm ≠ bm → ¬ N mm →
  ∀ f : Int, 0 ≤ lvl S0 f → 24 ≤ lvl S0 f + k → k ≤ 24 → c + k * zn S0 f ≤ 1000000 →
  Calls Tryz.prog 147 #[.pointer (some ⟨wk, 0, none⟩), .pointer (some ⟨zs, 0, none⟩), .int .i64 f] w
    (MadeZ no8 (MZ bm mm) N w zb ab bm room fun w' T id er => OutZ k room S (zf S0 k f) (tB k (zf S0 k f) (k * zn S0 f)) T id er ∧ RemZ w' mm S0 T (c + k * zn S0 f))
structure CBox (w : World) (pw pf pl plo phi wk zs : Nat) (l lo hi : Int) : Prop where
  a : w.heap[pw]? = some (.cells #[.pointer (some ⟨wk, 0, none⟩)] 164 (0, 0))
  b : w.heap[pf]? = some (.cells #[.pointer (some ⟨zs, 0, none⟩)] 25 (0, 0))
  l : w.heap[pl]? = some (.cells #[.int .i64 l] 3 (0, 0))
  lo : w.heap[plo]? = some (.cells #[.int .i64 lo] 3 (0, 0))
  hi : w.heap[phi]? = some (.cells #[.int .i64 hi] 3 (0, 0))
theorem CBox.below {w w' : World} {pw pf pl plo phi wk zs : Nat} {l lo hi : Int} (k : CBox w pw pf pl plo phi wk zs l lo hi) (h : Below w.heap.size w w') : CBox w' pw pf pl plo phi wk zs l lo hi := ⟨keep_blk h k.a, keep_blk h k.b, keep_blk h k.l, keep_blk h k.lo, keep_blk h k.hi⟩
theorem CBox.kz {M N : Nat → Prop} {w w' : World} {pw pf pl plo phi wk zs : Nat} {l lo hi : Int} (k : CBox w pw pf pl plo phi wk zs l lo hi) (h : Kz no8 M N w w') : CBox w' pw pf pl plo phi wk zs l lo hi :=
  ⟨h.cells _ _ _ _ k.a (by decide) (by decide) (fun h => h), h.cells _ _ _ _ k.b (by decide) (by decide) (fun h => h), h.cells _ _ _ _ k.l (by decide) (by decide) (fun h => h), h.cells _ _ _ _ k.lo (by decide) (by decide) (fun h => h), h.cells _ _ _ _ k.hi (by decide) (by decide) (fun h => h)⟩
theorem zcopy11_any {C M N : Nat → Prop} {w : World} {zb ab bm room wk zs pw pf pl plo phi : Nat} {l lo hi : Int} {P : World → St → Int → Int → Prop} (hb : CBox w pw pf pl plo phi wk zs l lo hi) (has : Bool)
    (H : Calls Tryz.prog 147 #[.pointer (some ⟨wk, 0, none⟩), .pointer (some ⟨zs, 0, none⟩), .int .i64 (if has then hi else lo)] w (MadeZ C M N w zb ab bm room P)) :
    Calls Tryz.prog 168 (#[.bool has] ++ #[.pointer (some ⟨pw, 0, none⟩), .pointer (some ⟨pf, 0, none⟩), .pointer (some ⟨phi, 0, none⟩), .pointer (some ⟨plo, 0, none⟩)]) w (MadeZ C M N w zb ab bm room P) := by
  obtain ⟨r0, -⟩ := nowz1 hb.a rfl
  obtain ⟨a8, -⟩ := nowz1 hb.b rfl
  obtain ⟨ax, -⟩ := nowz1 hb.lo rfl
  obtain ⟨a7, -⟩ := nowz1 hb.hi rfl
  clear hb
  show Calls Tryz.prog _ #[.bool has, .pointer (some ⟨pw, 0, none⟩), .pointer (some ⟨pf, 0, none⟩), .pointer (some ⟨phi, 0, none⟩), .pointer (some ⟨plo, 0, none⟩)] w _
  cases has
  · simp only [Bool.false_eq_true, if_false] at H
    go_enter Tryz.func168, Tryz.ntmps168
    go_wp2_with fail
    refine H.mono ?_
    rintro e w2 ⟨v2, full2, T, id, er, rfl, hd8, hk8, hP8⟩
    clear H
    go_wp2
    go_ret2
    exact ⟨v2, full2, T, id, er, rfl, hd8, hk8, hP8⟩
  · simp only [if_true] at H
    go_enter Tryz.func168, Tryz.ntmps168
    go_wp2_with fail
    refine H.mono ?_
    rintro e w2 ⟨v2, full2, T, id, er, rfl, hd8, hk8, hP8⟩
    clear H
    go_wp2
    go_ret2
    exact ⟨v2, full2, T, id, er, rfl, hd8, hk8, hP8⟩
set_option maxHeartbeats 4000000 in
set_option maxRecDepth 100000 in
theorem zcopy1_any {k : Nat} (IH : CopyOk k) {N N2 : Nat → Prop} {w : World} {zb ab bm wk mm zs ya yb pw pf pl plo phi : Nat} {v vs : Value} {room full rs fs : Nat} {S0 S : St} {c : Nat} (hd : ZdAt w N zb ab bm v room full S) (hs : ZdAt w N2 zs ya yb vs rs fs S0) (hNs : ∀ k, Fp ya yb vs k → N k) (hw : WkAt w wk zb mm) (hr : RemZ w mm S0 S c) (hne : mm ≠ bm) (hN : ¬ N mm)
    {f : Int} {nd : Nd} (hnd : ndAt S0 f = some nd) (hbx : CBox w pw pf pl plo phi wk zs nd.1 nd.2.1 nd.2.2) (hi : nd.1 + (k + 1 : Nat) = 24) (hc : c + (k + 1) * zn S0 f ≤ 1000000) :
    Calls Tryz.prog 167 #[.pointer (some ⟨pw, 0, none⟩), .pointer (some ⟨pl, 0, none⟩), .pointer (some ⟨pf, 0, none⟩), .pointer (some ⟨phi, 0, none⟩), .pointer (some ⟨plo, 0, none⟩)] w
      (MadeZ no8 (MZ bm mm) N w zb ab bm room fun w' T id er => OutZ (k + 1) room S (zf S0 (k + 1) f) (tB (k + 1) (zf S0 (k + 1) f) ((k + 1) * zn S0 f)) T id er ∧ RemZ w' mm S0 T (c + ((k + 1) * zn S0 f - 1))) := by
  have hV0 := hs.zst.vst
  obtain ⟨⟨k0, k1⟩, k2, k3⟩ := kids_lvl hV0 hnd
  have hl := lvl_node hnd
  have p6 := zn_node hV0 hnd
  have hf1 : 1 ≤ zn S0 f := zn_pos hs.zst (by omega) (by rintro rfl; rw [lvl_end (.inl rfl)] at hl; omega)
  have hst := one_step (k := k) p6 hf1
  have h0 := zf_node0 hnd (D := k) (by omega)
  have h1 := zf_node1 hnd (D := k) (by omega)
  have hcf2 : ∀ (args : Array Value) (w1 : World), (Sem.run Tryz.prog (callFunc 168 args) w1) = .ok (.enter 168 args) w1 := fun _ _ => by kernel_rfl
  have HBd := fun y : After w => zbuildT_any (C := no8) (M := MZ bm mm) (N := N) (w := y.1) (zb := zb) (ab := ab) (bm := bm) (room := room) (S := S) (F := zf S0 (k + 1) f) (F0 := zf S0 k nd.2.1) (F1 := zf S0 k nd.2.2)
    (fun w' T => RemZ w' mm S0 T (c + k * zn S0 nd.2.1) ∧ VSt T) (fun w' T => RemZ w' mm S0 T (c + ((k + 1) * zn S0 f - 1)) ∧ VSt T) (fun w' T => RemZ w' mm S0 T (c + ((k + 1) * zn S0 f - 1)) ∧ VSt T) 168 #[.pointer (some ⟨pw, 0, none⟩), .pointer (some ⟨pf, 0, none⟩), .pointer (some ⟨phi, 0, none⟩), .pointer (some ⟨plo, 0, none⟩)] hcf2
    (.inl rfl) nd.1 k (tB k (zf S0 k nd.2.1) (k * zn S0 nd.2.1)) (tB k (zf S0 k nd.2.2) (k * zn S0 nd.2.2)) (tB (k + 1) (zf S0 (k + 1) f) ((k + 1) * zn S0 f)) hi k0 h0 h1 (tB_both h0 h1 hst) (fun hc1 => tB_node h0 h1 hst hc1)
    ((zcopy11_any (hbx.below y.2) false (IH (hd.below y.2) (hs.below y.2) hNs (hw.below y.2) (hr.below y.2) hne hN nd.2.1 (by omega) (by omega) (by omega) (by omega))).mono fun e w' hm => hm.mono fun T id er ho => ⟨ho.1, ho.2, ho.1.zst.vst⟩)
    (fun w1 v1 full1 T a hd4 hk4 hO4 hr4 =>
      (zcopy11_any ((hbx.below y.2).kz hk4) true (IH hd4 ((hs.below y.2).same hk4 (fun h => h) hNs) hNs ((hw.below y.2).kz hk4 (fun h => h)) hr4.1 hne hN nd.2.2 (by omega) (by omega) (by omega) (by omega))).mono fun e w' hm => hm.mono fun U id er ho => ⟨ho.1, ho.2.more (by omega), ho.1.zst.vst⟩)
    (fun w' T hh => ⟨hh.1.more (by omega), hh.2⟩) (fun _ _ hh => hh)
    (fun w1 w2 U V hh hk hV hV' hx => ⟨(hh.1.kz hk (fun e => hne e)).ext hV hx, hV'⟩)
  obtain ⟨w0, -⟩ := boxz1 hbx.a rfl
  obtain ⟨l0, -⟩ := boxz1 hbx.l rfl
  obtain ⟨e0, e1, -⟩ := box2 hw rfl
  have hmf : ∀ (fn : Fn) (first cap : Array Value) (w : World), (Instr.makeFunc fn first cap).run Tryz.prog w = .ok (.func fn first cap) w := fun _ _ _ _ => rfl
  clear IH hcf2 hd hs hw hr hbx h0 h1 hV0 k2 k3 hl p6
  go_enter Tryz.func167, Tryz.ntmps167
  go_wp2
  refine wp_region_mid_after 6 _ rfl rfl (by kernel_rfl) (by kernel_rfl) ?_
  simp only [List.take_succ_cons, List.take_zero, List.drop_succ_cons, List.drop_zero]
  repeat (first | go_big_quiet_step (fail))
  refine wpQuiet_nil ?_
  intro y K hK
  have HBy := HBd y
  have hKy : Kz no8 (MZ bm mm) N w y.1 := Kz.of_below y.2
  clear HBd w0 l0 e0 e1
  go_simp
  refine HBy.mono ?_
  rintro e w2 ⟨v2, full2, T, id, er, rfl, hd8, hk8, hO8, hr8⟩
  clear HBy
  refine hK.out _ _ ?_
  clear hK
  repeat (first | go_big_quiet_step (fail))
  refine wpQuiet_nil ?_
  go_wp2
  go_ret2
  exact ⟨v2, full2, T, id, er, rfl, hd8, hKy.trans hk8, hO8, hr8.1⟩
set_option maxHeartbeats 4000000 in
set_option maxRecDepth 100000 in
theorem zcopy_any (k : Nat) : CopyOk k := by
  induction k using Nat.strongRecOn with
  | _ k IH =>
    intro N N2 w zb ab bm wk mm zs ya yb v vs room full rs fs S0 S c hd hs hNs hw hr hne hN f f0 fk hk hc
    have hB2 := below_alloc2 w (.cells #[.pointer (some ⟨wk, 0, none⟩)] 164 (0, 0)) (.cells #[.pointer (some ⟨zs, 0, none⟩)] 25 (0, 0))
    have ha := heap_alloc2_old w (.cells #[.pointer (some ⟨wk, 0, none⟩)] 164 (0, 0)) (.cells #[.pointer (some ⟨zs, 0, none⟩)] 25 (0, 0))
    have hb := heap_alloc2_new w (.cells #[.pointer (some ⟨wk, 0, none⟩)] 164 (0, 0)) (.cells #[.pointer (some ⟨zs, 0, none⟩)] 25 (0, 0))
    have hs2 := hs.below hB2
    have HN := node_any hs2.ar hs2.max f
    obtain ⟨z0, -⟩ := nowz1 hs2.head rfl
    obtain ⟨b0, -⟩ := nowz1 hb rfl
    cases hn : ndAt S0 f with
    | none =>
      rw [hn] at HN
      unfold ndT at HN
      go_enter Tryz.func147, Tryz.ntmps147
      go_wp2_with fail
      refine HN.mono ?_
      rintro e w3 ⟨rfl, hb3⟩
      have he : f = 0 ∨ f = 1 := by
        by_cases h : f = 0 ∨ f = 1
        · exact h
        · rw [lvl_not h hn] at f0; omega
      have hB3 := hB2.trans (hb3.mono hB2.size)
      have hB6 := hB3.trans ((below_alloc3 w3 (.cells #[.int .i64 0] 3 (0, 0)) (.cells #[.int .i64 0] 3 (0, 0)) (.cells #[.int .i64 0] 3 (0, 0))).mono hB3.size)
      have hd6 := hd.below hB6
      have hr6 := (hr.below hB6).more (C' := c + k * zn S0 f) (Nat.le_add_right _ _)
      have hO : Hid (OutZ k room S (zf S0 k f) (tB k (zf S0 k f) (k * zn S0 f)) S f 0) := Lib.hid (by
        have h24 : lvl S f = 24 := lvl_end he
        refine OutZ.stay hd.zst (by omega) (by omega) (funext fun n => ?_) _
        rcases he with rfl | rfl
        · rw [zf_zero _ _ _ hk, zf_zero _ _ _ hk]
        · rw [zf_one _ _ _ hk, zf_one _ _ _ hk])
      clear hd hs hr hw hs2 IH he hn HN hB3 hc ha hb z0 b0 hB2
      go_wp2
      go_ret2
      exact ⟨v, full, S, f, 0, rfl, hd6, Kz.of_below hB6, hO.out, hr6⟩
    | some nd =>
      rw [hn] at HN
      unfold ndT at HN
      have hV0 := hs.zst.vst
      obtain ⟨⟨k0, k1⟩, k2, k3⟩ := kids_lvl hV0 hn
      have hl := lvl_node hn
      obtain ⟨j, hj⟩ : ∃ j : Nat, nd.1 + (j + 1 : Nat) = 24 := ⟨(23 - nd.1).toNat, by omega⟩
      have hjk : j + 1 ≤ k := by omega
      have z1 : 1 ≤ zn S0 f := zn_pos hs.zst f0 (by rintro rfl; rw [lvl_end (.inl rfl)] at hl; omega)
      have hjm : (j + 1) * zn S0 f ≤ k * zn S0 f := Nat.mul_le_mul_right _ hjk
      have hpos : 1 ≤ (j + 1) * zn S0 f := by
        have h2 := Nat.mul_le_mul (Nat.succ_le_succ (Nat.zero_le j)) z1
        omega
      have hA : ArgE S0 S 8 f 0 := ⟨fun h => by omega, fun h => by omega, fun h => by omega⟩
      have hbase : baseE S0 S 8 f 0 = nd.1 := by unfold baseE; rw [if_neg (by omega), if_neg (by omega), hl]
      have hcf2 : ∀ (args : Array Value) (w1 : World), (Sem.run Tryz.prog (callFunc 167 args) w1) = .ok (.enter 167 args) w1 := fun _ _ => by kernel_rfl
      go_enter Tryz.func147, Tryz.ntmps147
      go_wp2_with fail
      refine HN.mono ?_
      rintro e w3 ⟨rfl, hb3⟩
      go_upto_region 4 with (fail)
      have hB3 := hB2.trans (hb3.mono hB2.size)
      have hB6 := hB3.trans ((below_alloc3 w3 (.cells #[.int .i64 nd.1] 3 (0, 0)) (.cells #[.int .i64 nd.2.1] 3 (0, 0)) (.cells #[.int .i64 nd.2.2] 3 (0, 0))).mono hB3.size)
      have hB7 := hb3.trans ((below_alloc3 w3 (.cells #[.int .i64 nd.1] 3 (0, 0)) (.cells #[.int .i64 nd.2.1] 3 (0, 0)) (.cells #[.int .i64 nd.2.2] 3 (0, 0))).mono hb3.size)
      have hbx : CBox (((w3.alloc (.cells #[.int .i64 nd.1] 3 (0, 0))).alloc (.cells #[.int .i64 nd.2.1] 3 (0, 0))).alloc (.cells #[.int .i64 nd.2.2] 3 (0, 0))) w.heap.size (w.heap.size + 1) w3.heap.size (w3.heap.size + 1) (w3.heap.size + 1 + 1) wk zs nd.1 nd.2.1 nd.2.2 :=
        ⟨keep_blk hB7 ha, keep_blk hB7 hb, heap_alloc3_a _ _ _ _, heap_alloc3_b _ _ _ _, heap_alloc3_c _ _ _ _⟩
      clear hs2 z0 b0 ha hb HN hb3 hB7 hB3 hB2
      generalize ((w3.alloc (.cells #[.int .i64 nd.1] 3 (0, 0))).alloc (.cells #[.int .i64 nd.2.1] 3 (0, 0))).alloc (.cells #[.int .i64 nd.2.2] 3 (0, 0)) = W at *
      have hd6 := hd.below hB6
      have hs6 := hs.below hB6
      have hw6 := hw.below hB6
      have hr6 := hr.below hB6
      have HR := zrecall_any (F := zf S0 (j + 1) f) hd6 hw6 hr6 hne (.inr rfl) hN 8 8 f 0 rfl ⟨wf_name 8 (by omega), wf_idz hs.max f0, WalkArith.wf_i64 (n := 0) (by omega)⟩ 167 #[.pointer (some ⟨w.heap.size, 0, none⟩), .pointer (some ⟨w3.heap.size, 0, none⟩), .pointer (some ⟨w.heap.size + 1, 0, none⟩), .pointer (some ⟨w3.heap.size + 1 + 1, 0, none⟩), .pointer (some ⟨w3.heap.size + 1, 0, none⟩)] hcf2
        (j + 1) (tB (j + 1) (zf S0 (j + 1) f) ((j + 1) * zn S0 f)) ((j + 1) * zn S0 f - 1)
        (fun r he => by rw [← famE8 S0 S f 0]; exact he.out hd.zst (by omega) (by rw [hbase]; omega) room _)
        (fun y => zcopy1_any (IH j (by omega)) (hd6.below y.2) (hs6.below y.2) hNs (hw6.below y.2) (hr6.below y.2) hne hN hn (hbx.below y.2) hj (by omega))
        (fun T id ho => OutZ.remember hd.zst.vst hA (by rw [hbase]; omega) (by rw [famE8]; exact ho)) (by omega)
      obtain ⟨w0, -⟩ := nowz1 hbx.a rfl
      have hK4 : Kz no8 (MZ bm mm) N w W := Kz.of_below hB6
      have hraise : ∀ T id er, OutZ (j + 1) room S (zf S0 (j + 1) f) (tB (j + 1) (zf S0 (j + 1) f) ((j + 1) * zn S0 f)) T id er → Hid (OutZ k room S (zf S0 k f) (tB k (zf S0 k f) (k * zn S0 f)) T id er) := fun T id er ho => Lib.hid (by
        obtain ⟨d, rfl⟩ : ∃ d, k = (j + 1) + d := ⟨k - (j + 1), by omega⟩
        have hts := tS_raise hA (D := j + 1) (by rw [hbase]; omega) d
        rw [← famE8 S0 S f 0] at ho ⊢
        exact (OutZ.raise hA (by rw [hbase]; omega) d ho).more (tB_more (by rw [hts]; exact Nat.le_refl _) hjm))
      clear hA hbase hbx hd6 hs6 hw6 hr6 hcf2 IH hd hs hw hr hj z1 hB6 hn hl k0 k1 k2 k3 hV0
      go_wp2_with fail
      refine HR.mono ?_
      rintro e w2 ⟨v2, full2, T, id, er, rfl, hd8, hk8, hO8, hr8⟩
      have hO := hraise _ _ _ hO8
      clear HR hraise hO8
      go_wp2
      go_ret2
      exact ⟨v2, full2, T, id, er, rfl, hd8, hK4.trans hk8, hO.out, hr8.more (by omega)⟩
end Go.Proofs.YtehpccanjlaokaaGreat
namespace Go.Proofs.YtehpccanjlaokaaGreat
open Go.RowKit Go.Joins

def cJ : Nat → Nat
  | 0 => 0
  | k + 1 => cJ k + (k + 1)
def uJ (k : Nat) (S : St) (L : List (Int × Int)) : Nat → Bool := fun n => L.any fun p => joinF k (zf S k p.1) (zf S k p.2) n
noncomputable def bJ (k : Nat) (S : St) (L : List (Int × Int)) : Nat := (L.map fun p => (cJ k + k) * (zn S p.1 * zn S p.2)).sum
theorem bJ_split (k : Nat) (S : St) (L : List (Int × Int)) (K : Nat) : bJ k S (L.take K) + bJ k S (L.drop K) = bJ k S L := by
  unfold bJ
  rw [← List.sum_append, ← List.map_append, List.take_append_drop]
theorem bJ_succ {k : Nat} {S : St} {L : List (Int × Int)} {K : Nat} {p : Int × Int} (h : L[K]? = some p) : bJ k S (L.take (K + 1)) = bJ k S (L.take K) + (cJ k + k) * (zn S p.1 * zn S p.2) := by
  unfold bJ
  rw [List.take_add_one, h, List.map_append, List.sum_append]
  simp
theorem uJ_succ {k : Nat} {S : St} {L : List (Int × Int)} {K : Nat} {p : Int × Int} (h : L[K]? = some p) : uJ k S (L.take (K + 1)) = fun n => uJ k S (L.take K) n || joinF k (zf S k p.1) (zf S k p.2) n := by
  funext n
  unfold uJ
  rw [List.take_add_one, h, List.any_append]
  simp
def JoinOk (k : Nat) : Prop := ∀ {N : Nat → Prop} {w : World} {zb ab bm wk mm : Nat} {v : Value} {room full : Nat} {S0 S : St} {c : Nat}, ZdAt w N zb ab bm v room full S → WkAt w wk zb mm → RemZ w mm S0 S c → mm ≠ bm → ¬ N mm →
  ∀ (f g : Int), 0 ≤ lvl S f → 0 ≤ lvl S g → 24 ≤ lvl S f + k → 24 ≤ lvl S g + k → k ≤ 24 → c + cJ k * (zn S f * zn S g) ≤ 1000000 →
  Calls Tryz.prog 119 #[.pointer (some ⟨wk, 0, none⟩), .int .i64 f, .int .i64 g] w
    (MadeZ no8 (MZ bm mm) N w zb ab bm room fun w' T id er => OutZ k room S (joinF k (zf S k f) (zf S k g)) (cJ k * (zn S f * zn S g)) T id er ∧ RemZ w' mm S0 T (c + cJ k * (zn S f * zn S g)))
theorem OutZ.plus {k room B B1 B2 : Nat} {S T U V : St} {F0 F1 : Nat → Bool} {all id1 id e : Int} (hk : k ≤ 24) (h0 : OutZ k room S F0 B T all 0) (h1 : OutZ k room T F1 B1 U id1 0) (h2 : OutZ k room U (op2F 0 (zf U k all) (zf U k id1)) B2 V id e) :
    OutZ k room S (fun n => F0 n || F1 n) (B + B1 + B2) V id e := by
  obtain ⟨a0, a1, a2⟩ := h0.ok
  obtain ⟨b0, b1, b2⟩ := h1.ok
  have e1 := h1.ext.zf h0.zst.vst k all hk a0 a1
  rw [e1, a2, b2] at h2
  exact (h0.then h1).then h2
theorem zn_join {k : Nat} {S U : St} {f g id : Int} (hk : k ≤ 24) (fk : 24 ≤ lvl S f + k) (gk : 24 ≤ lvl S g + k) (ik : 24 ≤ lvl U id + k) (h : zf U k id = joinF k (zf S k f) (zf S k g)) : zn U id ≤ zn S f * zn S g := by
  rw [← zn_cF hk ik, ← zn_cF hk fk, ← zn_cF hk gk, h]
  exact cF_join k _ _
set_option maxHeartbeats 4000000 in
set_option maxRecDepth 100000 in
theorem zjoinAll_any {k : Nat} (IH : JoinOk k) {N : Nat → Prop} {w : World} {zb ab bm wk mm pb cap : Nat} {v : Value} {room full : Nat} {S0 S : St} {c : Nat} (hd : ZdAt w N zb ab bm v room full S) (hw : WkAt w wk zb mm) (hr : RemZ w mm S0 S c) (hne : mm ≠ bm) (hN : ¬ N mm)
    (L : List (Int × Int)) (hL3 : L.length ≤ 3) (hL : ∀ p ∈ L, 0 ≤ lvl S p.1 ∧ 0 ≤ lvl S p.2 ∧ 24 ≤ lvl S p.1 + k ∧ 24 ≤ lvl S p.2 + k) (hk : k ≤ 24) {PC : Array Value} (hpb : w.heap[pb]? = some (.cells PC 197 (0, 0))) (hPC : ∀ (j : Nat) (p : Int × Int), L[j]? = some p → PC[j * 2]? = some (.int .i64 p.1) ∧ PC[j * 2 + 1]? = some (.int .i64 p.2)) (hc : c + bJ k S L ≤ 1000000) :
    Calls Tryz.prog 153 #[.pointer (some ⟨wk, 0, none⟩), .slice (some ⟨pb, 0, none⟩) L.length cap] w
      (MadeZ no8 (MZ bm mm) N w zb ab bm room fun w' T id er => OutZ k room S (uJ k S L) (bJ k S L) T id er ∧ RemZ w' mm S0 T (c + bJ k S L)) := by
  have hT : Hid (∀ K, K = L.length → L.take K = L) := Lib.hid (fun K h => by rw [h, List.take_length])
  have hsp := fun K => Lib.hid (bJ_split k S L K)
  have h24 : lvl S 0 = 24 := lvl_end (.inl rfl)
  have hstart : Hid (OutZ k room S (uJ k S (L.take 0)) (bJ k S (L.take 0)) S 0 0) := Lib.hid (OutZ.stay hd.zst (by omega) (by omega) (funext fun n => by rw [zf_zero _ _ _ hk]; rfl) _)
  have hV := hd.zst.vst
  go_enter Tryz.func153, Tryz.ntmps153
  go_wp2
  go_loopw [6, 13] (fun s t wr => ∃ (K : Nat) (all : Int) (v' : Value) (full' : Nat) (T : St), K ≤ L.length ∧ s = .int .i64 all ∧ t = .int .i64 K ∧ ZdAt wr N zb ab bm v' room full' T ∧ Kz no8 (MZ bm mm) N w wr ∧ Hid (OutZ k room S (uJ k S (L.take K)) (bJ k S (L.take K)) T all 0) ∧ RemZ wr mm S0 T (c + bJ k S (L.take K))) (fun _ t _ => L.length - (intOf t).toNat)
  case atStart => exact ⟨0, 0, v, full, S, by omega, rfl, rfl, hd, Kz.refl _ _ _ _, hstart, hr.more (Nat.le_add_right _ _)⟩
  case round =>
    obtain ⟨K, all, v1, full1, T, hK, rfl, rfl, hd1, hk1, hO, hr1⟩ := hrel
    by_cases hlt : K < L.length
    · obtain ⟨p, hp⟩ : ∃ p, L[K]? = some p := ⟨_, List.getElem?_eq_getElem hlt⟩
      obtain ⟨p0, p1, p2, p3⟩ := hL p (List.mem_of_getElem? hp)
      obtain ⟨c0, c1⟩ := hPC K p hp
      have hpb1 := hk1.cells _ _ _ _ hpb (by decide) (by decide) (fun h => h)
      have q0 : wr.cell? ⟨pb, K * 2, none⟩ = some (.int .i64 p.1) := by rw [cell_of_block hpb1]; exact c0
      have q1 : wr.cell? ⟨pb, K * 2 + 1, none⟩ = some (.int .i64 p.2) := by rw [cell_of_block hpb1]; exact c1
      go_upto_region 5 with (fail)
      have hsK := hsp (K + 1)
      have hsu := Lib.hid (bJ_succ (k := k) (S := S) hp)
      have huu := Lib.hid (uJ_succ (k := k) (S := S) hp)
      have hB1 := below_alloc1 wr (.cells #[.int .i64 p.1, .int .i64 p.2] 197 (0, 0))
      have hbx := heap_alloc_new wr (.cells #[.int .i64 p.1, .int .i64 p.2] 197 (0, 0))
      have hd2 := hd1.below hB1
      have hw2 := (hw.kz hk1 (fun h => h)).below hB1
      have hr2 := hr1.below hB1
      have hx := hO.out.ext
      have e1 := hx.lvl p0
      have e2 := hx.lvl p1
      have e3 := hx.zn hV p0
      have e4 := hx.zn hV p1
      have e5 := hx.zf hV k _ hk p0 p2
      have e6 := hx.zf hV k _ hk p1 p3
      have hmul : cJ k * (zn S p.1 * zn S p.2) + k * (zn S p.1 * zn S p.2) = (cJ k + k) * (zn S p.1 * zn S p.2) := (Nat.add_mul _ _ _).symm
      have hbnd : c + bJ k S (L.take K) + (cJ k * (zn S p.1 * zn S p.2) + k * (zn S p.1 * zn S p.2)) ≤ 1000000 := by
        have h1 := hsK.out
        have h2 := hsu.out
        omega
      have HJ := IH hd2 hw2 hr2 hne hN p.1 p.2 (by omega) (by omega) (by omega) (by omega) hk (by rw [e3, e4]; omega)
      rw [e3, e4, e5, e6] at HJ
      have hk2 := hk1.more hB1
      generalize wr.alloc (.cells #[.int .i64 p.1, .int .i64 p.2] 197 (0, 0)) = W at *
      obtain ⟨x0, x1, -⟩ := now2 hbx rfl
      clear hd1 hr1 q0 q1 hpb1 hp hB1 hk1
      go_wp2_with fail
      refine HJ.mono ?_
      rintro e w3 ⟨v3, full3, U, id1, er1, rfl, hd3, hk3, hO3, hr3⟩
      clear HJ x0 x1 hbx hd2 hr2 hw2
      have hk4 := hk2.trans hk3
      rcases hO3.kind with rfl | ⟨rfl, rfl⟩
      · obtain ⟨a0, a1, a2⟩ := hO.out.ok
        obtain ⟨b0, b1, b2⟩ := hO3.ok
        have f1 := hO3.ext.lvl a0
        have hle := zn_join (S := S) hk p2 p3 b1 b2
        have hmin : k * min (zn U all) (zn U id1) ≤ k * (zn S p.1 * zn S p.2) := Nat.mul_le_mul_left _ (by omega)
        have HU := zunion_any k hd3 (hw.kz hk4 (fun h => h)) hr3 hne hN all id1 (by omega) b0 (by omega) b1 hk (by omega)
        have hOP := fun V id er (h2 : OutZ k room U (op2F 0 (zf U k all) (zf U k id1)) (tB k (op2F 0 (zf U k all) (zf U k id1)) (k * min (zn U all) (zn U id1))) V id er) => Lib.hid (((hO.out.plus hk hO3 h2).same huu.out.symm).more (B' := bJ k S (L.take (K + 1))) (by have := hsu.out; have := tB_le k (op2F 0 (zf U k all) (zf U k id1)) (k * min (zn U all) (zn U id1)); omega))
        have hrm : c + bJ k S (L.take K) + cJ k * (zn S p.1 * zn S p.2) + k * min (zn U all) (zn U id1) ≤ c + bJ k S (L.take (K + 1)) := by have := hsu.out; omega
        clear hO3 hO hmin hle f1 a0 a1 a2 b0 b1 b2 hr3 e1 e2 e3 e4 e5 e6 hx hk2 hk3 hd3 hbnd hmul
        go_wp2_with fail
        refine HU.mono ?_
        rintro e w5 ⟨v5, full5, V, id2, er2, rfl, hd5, hk5, hO5, hr5⟩
        clear HU
        have hO6 := hOP _ _ _ hO5
        have hk6 := hk4.trans hk5
        have hr6 := hr5.more hrm
        clear hOP hr5 hrm
        rcases hO5.kind with rfl | ⟨rfl, rfl⟩
        · clear hO5
          go_wp2
          go_roundw
          case rel => exact ⟨K + 1, id2, v5, full5, V, by omega, rfl, by go_num, hd5, hk6, hO6, hr6⟩
          case measure => simp [intOf]; omega
        · clear hO5
          have hO7 := Lib.hid (hO6.out.fail0 (D' := k) (G := uJ k S L) (B' := bJ k S L) (by decide) (by have := hsK.out; omega))
          have hr7 := hr6.more (C' := c + bJ k S L) (by have := hsK.out; omega)
          go_wp2
          go_ret2
          exact ⟨v5, full5, V, 0, 5, rfl, hd5, hk6, hO7.out, hr7⟩
      · have hO7 := Lib.hid (hO.out.fail1 (D' := k) (G := uJ k S L) (B' := bJ k S L) hO3 (by decide) (by have := hsK.out; have := hsu.out; omega))
        have hr7 := hr3.more (C' := c + bJ k S L) (by have := hsK.out; have := hsu.out; omega)
        clear hO3 hO e1 e2 e3 e4 e5 e6 hx
        go_wp2
        go_ret2
        exact ⟨v3, full3, U, 0, 5, rfl, hd3, hk4, hO7.out, hr7⟩
    · have hh := Lib.hid (hT.out K (by omega))
      go_wp2
      go_ret2
      refine ⟨v1, full1, T, all, 0, rfl, hd1, hk1, ?_, ?_⟩
      · have := hO.out; rw [hh.out] at this; exact this
      · rw [hh.out] at hr1; exact hr1
end Go.Proofs.YtehpccanjlaokaaGreat
