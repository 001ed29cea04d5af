/- The primes of all parts: what was done before is not done again. The document's own Members of layer 11. -/
import Derived.Test.YtehpccanjlaokaaGreatGQ33
import Derived.Test.YtehpccanjlaokaaGreatGQ07
import Derived.Test.YtehpccanjlaokaaGreatGQ16
namespace Go.Proofs.YtehpccanjlaokaaGreat
open Go.RowKit Go.Joins

def CombOk (n k : Nat) : Prop := ∀ {N : Nat → Prop} {w : World} {zb ab bm drb mm : Nat} {v : Value} {full : Nat} {S : St} {C : Nat}, ZdAt w N zb ab bm v 20000 full S → DrAt w drb zb n mm → RemP w mm n S C → mm ≠ bm → ¬ N mm →
  ∀ (X : BitVec 256) (i : Nat), i + (k + 1) = n → LowI n i X → cnt S + cN (k + 1) < 20000 → C + 3 * eN k ≤ 1000000 →
  Calls Tryz.prog 77 #[.pointer (some ⟨drb, 0, none⟩), sv X, .int .i64 i] w (DfPost N w zb ab bm n mm S C (cN (k + 1)) (3 * eN k) (FI n i X))
theorem held_none {S : St} {n i : Nat} : Held S 0 (FI n i 0) := by
  refine ⟨by rw [lvl_end (.inl rfl)]; decide, ?_⟩
  rw [FI_none]
  funext x
  exact zf_zero S 24 x (by omega)
theorem held_unit {S : St} {n : Nat} {X : BitVec 256} (hX : LowI n n X) (h0 : X ≠ 0) : Held S 1 (FI n n X) := by
  refine ⟨by rw [lvl_end (.inr rfl)]; decide, ?_⟩
  have hb : X.getLsbD 0 = true := by
    refine Classical.byContradiction fun hn => h0 ?_
    apply BitVec.eq_of_getLsbD_eq
    intro p hp
    cases hq : X.getLsbD p
    · simp
    · obtain ⟨h1, h2⟩ := hX p hq
      rw [Nat.mod_eq_of_lt h1] at h2
      subst h2
      exact absurd hq hn
  funext x
  rw [FI_end, hb, Bool.and_true]
  exact zf_one S 24 x (by omega)
theorem now5p {w : World} {b : Nat} {T : TypeId} {C : Array Value} {x0 x1 x2 x3 x4 : Value} (h : w.heap[b]? = some (.cells C T (0, 0))) (hC : C = #[x0, x1, x2, x3, x4]) :
    w.cell? ⟨b, 0, none⟩ = some x0 ∧ w.cell? ⟨b, 1, none⟩ = some x1 ∧ w.cell? ⟨b, 2, none⟩ = some x2 ∧ w.cell? ⟨b, 3, none⟩ = some x3 ∧ w.cell? ⟨b, 4, none⟩ = some x4 := by
  subst hC
  refine ⟨?_, ?_, ?_, ?_, ?_⟩ <;> (rw [cell_of_block h]; rfl)
theorem box5p {w : World} {b : Nat} {T : TypeId} {C : Array Value} {x0 x1 x2 x3 x4 : Value} (h : w.heap[b]? = some (.cells C T (0, 0))) (hC : C = #[x0, x1, x2, x3, x4]) :
    (∀ x : After w, x.1.cell? ⟨b, 0, none⟩ = some x0) ∧ (∀ x : After w, x.1.cell? ⟨b, 1, none⟩ = some x1) ∧ (∀ x : After w, x.1.cell? ⟨b, 2, none⟩ = some x2) ∧ (∀ x : After w, x.1.cell? ⟨b, 3, none⟩ = some x3) ∧ (∀ x : After w, x.1.cell? ⟨b, 4, none⟩ = some x4) :=
  ⟨fun x => (now5p (After.same x h) hC).1, fun x => (now5p (After.same x h) hC).2.1, fun x => (now5p (After.same x h) hC).2.2.1, fun x => (now5p (After.same x h) hC).2.2.2.1, fun x => (now5p (After.same x h) hC).2.2.2.2⟩
set_option maxHeartbeats 4000000 in
set_option maxRecDepth 100000 in
theorem tprimes_step {n k : Nat} (hn : n ≤ 6) (HC : ∀ j, k = j + 1 → CombOk n j) : PrimesOk n k := by
  intro N w zb ab bm drb mm v full S C hd hdr hr hne hN X i hik hX hroom hC
  have hx := heap_alloc_new w (.cells (sa X) 51)
  have hb1 := below_alloc1 w (.cells (sa X) 51)
  have hd1 := hd.below hb1
  have hdr1 := hdr.below hb1
  have hr1 := hr.below hb1
  have hk1 : Kz no8 (MZ bm mm) N w (w.alloc (.cells (sa X) 51)) := Kz.of_below hb1
  have E0 := eq4_zero X
  by_cases h0 : X = 0
  · rw [decide_eq_true h0] at E0
    have hF := Lib.hid (show Held S 0 (FI n i X) by rw [h0]; exact held_none)
    unfold sv sa wv at *
    clear HC hX hroom hC hik hd hdr hr hb1 hdr1 h0
    go_enter Tryz.func48, Tryz.ntmps48
    go_upto_region 1 with (fail)
    generalize w.alloc _ = W at *
    obtain ⟨x0, x1, x2, x3, -⟩ := now4 hx rfl
    clear hx
    go_wp2
    go_ret2
    exact ⟨v, full, S, 0, rfl, hd1, hk1, Ext.refl S, hF.out, by omega, hr1.more (by omega)⟩
  · rw [decide_eq_false h0] at E0
    cases k with
    | zero =>
      obtain rfl : i = n := by omega
      have hF := Lib.hid (held_unit (S := S) hX h0)
      have hii : ((i : Int) == (i : Int)) = true := by simp
      unfold sv sa wv at *
      clear HC hX hroom hC hik hd hdr hr hb1 h0
      go_enter Tryz.func48, Tryz.ntmps48
      go_upto_region 1 with (fail)
      generalize w.alloc _ = W at *
      obtain ⟨x0, x1, x2, x3, -⟩ := now4 hx rfl
      obtain ⟨d0, d1, d2, -⟩ := now3 hdr1 rfl
      clear hx hdr1
      go_wp2
      go_ret2
      exact ⟨v, full, S, 1, rfl, hd1, hk1, Ext.refl S, hF.out, by omega, hr1.more (by omega)⟩
    | succ j =>
      have HCj : CombOk n j := HC j rfl
      have hii : ((i : Int) == (n : Int)) = false := by rw [beq_eq_false_iff_ne]; omega
      unfold sv sa wv at *
      go_enter Tryz.func48, Tryz.ntmps48
      go_upto_region 1 with (fail)
      generalize w.alloc _ = W at *
      obtain ⟨x0, x1, x2, x3, -⟩ := now4 hx rfl
      obtain ⟨d0, d1, d2, -⟩ := now3 hdr1 rfl
      have hi8 : i ≤ 8 := by omega
      clear hd hdr hr hb1 HC h0
      have hB2 := below_alloc1 W (.cells #[.int .u64 (wd X 0).toNat, .int .u64 (wd X 1).toNat, .int .u64 (wd X 2).toNat, .int .u64 (wd X 3).toNat, .int .i64 i] 128 (0, 0))
      have hp2 := heap_alloc_new W (.cells #[.int .u64 (wd X 0).toNat, .int .u64 (wd X 1).toNat, .int .u64 (wd X 2).toNat, .int .u64 (wd X 3).toNat, .int .i64 i] 128 (0, 0))
      have hd2 := hd1.below hB2
      have hdr2 := hdr1.below hB2
      have hr2 := hr1.below hB2
      have hx2 := keep_blk hB2 hx
      have hk2 := hk1.more hB2
      go_upto_region 6 with (fail)
      generalize W.alloc _ = W2 at *
      generalize W.heap.size = pb at *
      clear x0 x1 x2 x3 d0 d1 d2 hx hd1 hdr1 hr1 hk1 hB2
      obtain ⟨c', b, hlk, hgood⟩ := hr2.look X hi8
      unfold ptV at hlk
      obtain ⟨d0, d1, d2, -⟩ := box3 hdr2 rfl
      obtain ⟨k0, k1, k2, k3, k4⟩ := box5p hp2 rfl
      refine wp_region_after (by kernel_rfl) (by kernel_rfl) ?_
      repeat (first | go_big_quiet_step (fail))
      refine wpQuiet_nil ?_
      intro y
      obtain ⟨W3, hy⟩ := y
      dsimp only at *
      have hd3 := hd2.below hy
      have hdr3 := hdr2.below hy
      have hr3 := hr2.below hy
      have hx3 := keep_blk hy hx2
      have hp3 := keep_blk hy hp2
      have hk3 := hk2.more hy
      clear d0 d1 d2 k0 k1 k2 k3 k4 hlk hd2 hdr2 hr2 hx2 hp2 hk2 hy
      cases b
      · clear hgood
        have HCo := HCj hd3 hdr3 hr3 hne hN X i hik hX hroom (by rw [eN] at hC; omega)
        have hC3 : C + 3 * eN j ≤ 1000000 := by rw [eN] at hC; omega
        unfold sv wv at HCo
        obtain ⟨x0, x1, x2, x3, -⟩ := now4 hx3 rfl
        clear HCj hd3 hr3 hX hik hroom hC
        go_wp2_with fail
        refine HCo.mono ?_
        rintro e w2 ⟨v2, full2, T, id, rfl, hd8, hk8, hx8, hf8, hc8, hr8⟩
        have hdr8 := hdr3.kz hk8 (fun h => h)
        have hp8 := hk8.cells _ _ _ _ hp3 (by decide) (by decide) (fun h => h)
        have hk08 := hk3.trans hk8
        have hwid := wf_idz hd8.max hf8.1
        have hO := Lib.hid (And.intro hx8 (And.intro hf8 hc8))
        clear HCo x0 x1 x2 x3 hx3 hdr3 hp3 hk3 hk8 hx8 hc8
        obtain ⟨d0, d1, d2, -⟩ := box3 hdr8 rfl
        obtain ⟨k0, k1, k2, k3, k4⟩ := box5p hp8 rfl
        go_upto_region 11 with (fail)
        refine wp_region_after_tail 6 (by kernel_rfl) (by kernel_rfl) ?_
        simp only [List.take_succ_cons, List.take_zero, List.drop_succ_cons, List.drop_zero]
        repeat (first | go_big_quiet_step (fail))
        refine wpQuiet_nil ?_
        intro z
        have hr9 := hr8.below z.2
        have hd9 := hd8.below z.2
        have hk9 := hk08.more z.2
        clear d0 d1 d2 k0 k1 k2 k3 k4 hdr8 hp8 hr8 hd8 hk08
        go_wp2_with (at_mapUpdate; refine wpList_store_remp _ rfl _ _ _ rfl mm n T _ X i id rfl rfl rfl hr9 hC3 hi8 hwid hf8 ?_)
        intro w9 hr10 ht10
        have hk10 : Kz no8 (MZ bm mm) N z.1 w9 := Kz.turned ht10 (.inr rfl) hN
        have hd10 := hd9.turned ht10 hne
        have hk11 := hk9.trans hk10
        have he1 : C + 3 * eN j + 1 = C + eN (j + 1) := rfl
        rw [he1] at hr10
        clear hr9 hd9 ht10 hk9 hk10 he1 hC3
        go_wp2
        go_ret2
        exact ⟨v2, full2, T, id, rfl, hd10, hk11, hO.out.1, hO.out.2.1, hO.out.2.2, hr10⟩
      · have hG := Lib.hid (hgood rfl)
        clear hgood HCj hik hX hroom hC hdr3 hx3 hp3
        go_wp2
        go_ret2
        exact ⟨v, full, S, c', rfl, hd3, hk3, Ext.refl S, hG.out, by omega, hr3.more (by omega)⟩
end Go.Proofs.YtehpccanjlaokaaGreat
namespace Go.Proofs.YtehpccanjlaokaaGreat
open Go.RowKit Go.Joins

/-- The members of rows. -/
def memsR (l : List Rw) : List Nat := l.map fun x => memB x.m x.v x.o
theorem memsR_at {l : List Rw} {k : Nat} {x : Rw} (h : l[k]? = some x) : (memsR l)[k]? = some (memB x.m x.v x.o) := by
  unfold memsR
  rw [List.getElem?_map, h]; rfl
theorem memsR_len (l : List Rw) : (memsR l).length = l.length := by unfold memsR; simp
set_option maxHeartbeats 2000000 in
set_option maxRecDepth 100000 in
theorem rmembers11_any (v : Value) (l : List Rw) (hfl : l.length ≤ 900) (w : World) (hz : RwsAt w w.heap.size v l) :
    Calls Tryz.prog 13 #[v] w fun e w' => ∃ A c r, e = .returned (.slice A r.length c) ∧ IntsAt w' w'.heap.size (.slice A r.length c) (nI r) ∧ srtN r ∧ (∀ x, x ∈ r ↔ x ∈ memsR l) ∧ r.length ≤ l.length ∧ Below w.heap.size w w' := by
  obtain ⟨A, c, rfl, hl, hc⟩ := hz
  have HM := fun x w => rmember11_any x w
  have hat := Lib.hid (fun k x (h : l[k]? = some x) => memsR_at h)
  have hml := Lib.hid (memsR_len l)
  unfold rwv at HM
  go_enter Tryz.func13, Tryz.ntmps13
  go_wp2
  go_loopw [3, 4] (fun s t wr => ∃ (k : Nat) (A' : Option Addr) (c' : Nat) (r : List Nat), k ≤ l.length ∧ t = .int .i64 k ∧ s = .slice A' r.length c' ∧ r.length ≤ c' ∧ (r = [] → A' = none ∧ c' = 0) ∧ IntsAt wr wr.heap.size (.slice A' r.length c') (nI r) ∧ srtN r ∧ Hid (∀ x, x ∈ r ↔ x ∈ (memsR l).take k) ∧ r.length ≤ k ∧ FromB w.heap.size A' ∧ Below w.heap.size w wr) (fun _ t _ => l.length - (intOf t).toNat)
  case atStart => exact ⟨0, none, 0, [], by omega, rfl, rfl, by decide, fun _ => ⟨rfl, rfl⟩, ⟨none, 0, rfl, by decide, fun h => absurd h (by decide)⟩, List.Pairwise.nil, Lib.hid (by simp), by decide, (fun g off e => by cases e), Below.refl _ _⟩
  case round =>
    obtain ⟨k, A', c', r, hk, rfl, rfl, hrc, hrn, hI, hsr, hm, hrl, hfo, hb⟩ := hrel
    by_cases hlt : k < l.length
    · obtain ⟨bl, off, rfl, hB, hcell⟩ := hc (by omega)
      obtain ⟨x, hx⟩ : ∃ x, l[k]? = some x := ⟨_, List.getElem?_eq_getElem hlt⟩
      obtain ⟨c0, c1, c2⟩ := hcell k x hx
      have q0 := (hb.cell (p := ⟨bl, off + k * 3, none⟩) hB).trans c0
      have q1 := (hb.cell (p := ⟨bl, off + k * 3 + 1, none⟩) hB).trans c1
      have q2 := (hb.cell (p := ⟨bl, off + k * 3 + 2, none⟩) hB).trans c2
      have hxH := Lib.hid (hat.out k x hx)
      have HMx := fun w => HM x w
      have d1 : decide ((k : Int) < (l.length : Int)) = true := decide_eq_true (by omega)
      unfold bvv at q0 q1 q2 HMx
      generalize memB x.m x.v x.o = M at *
      have HW := fun w1 (hb1 : Below wr.heap.size wr w1) => rwith8_any A' c' r M (by omega) hsr hrc hrn w1 (Nat.le_trans hb.size hb1.size) hfo ((hI.below hb1).more hb1.size)
      clear hcell hc hx HM hat c0 c1 c2
      go_wp2_with fail
      refine (HMx _).mono ?_
      rintro e w1 ⟨rfl, hb1⟩
      have HW1 := HW w1 hb1
      clear HW HMx q0 q1 q2 hI
      go_wp2_with fail
      refine HW1.mono ?_
      rintro e w2 ⟨A2, c2, r2, rfl, hrc2, hI2, hs2, hm2, hl2, hfo2, hb2⟩
      have hst : Hid (∀ y, y ∈ r2 ↔ y ∈ (memsR l).take (k + 1)) := Lib.hid (fun y => by
        rw [hm2 y, hm.out y, List.take_add_one, hxH.out]
        simp)
      have hne : r2 ≠ [] := fun e => by
        have := (hm2 M).2 (.inr rfl)
        rw [e] at this
        cases this
      have hB2 := (hb.trans (hb1.mono hb.size)).trans (hb2.mono (hb.trans (hb1.mono hb.size)).size)
      clear HW1 hm hm2 hb hb1 hb2
      go_wp2
      go_roundw
      case rel => exact ⟨k + 1, A2, c2, r2, by omega, by go_num, rfl, hrc2, fun e => absurd e hne, hI2, hs2, hst, by omega, hfo2, hB2⟩
      case measure => simp [intOf]; omega
    · have hR : Hid (∀ x, x ∈ r ↔ x ∈ memsR l) := Lib.hid (by have := hm.out; rwa [List.take_of_length_le (by rw [hml.out]; omega)] at this)
      have d1 : decide ((k : Int) < (l.length : Int)) = false := decide_eq_false (by omega)
      clear hm HM hat
      go_wp2
      go_ret
      exact ⟨A', c', r, rfl, hI, hsr, hR.out, by omega, hb⟩
end Go.Proofs.YtehpccanjlaokaaGreat
