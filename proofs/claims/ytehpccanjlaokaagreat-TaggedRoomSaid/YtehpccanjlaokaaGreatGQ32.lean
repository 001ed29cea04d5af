/- What a draft adds: members without those of others, with items, and all that were there. What a draft remembers: the families of the parts that were done before. -/
import Derived.Test.YtehpccanjlaokaaGreatGQ22
import Derived.Test.YtehpccanjlaokaaGreatGQ31
namespace Go.Proofs.YtehpccanjlaokaaGreat
open Go.RowKit Go.Joins

theorem Kz.put1 {C M N : Nat → Prop} {w : World} {b : Nat} {T : TypeId} {A : Array Value} {z : Nat × Nat} (h : w.heap[b]? = some (.cells A T z)) (hC : C b) (hN : ¬ N b) (x : Value) : Kz C M N w (w.setCell ⟨b, 0, none⟩ x) := by
  have ho := (Off.refl (· = b) w).setCell (b := b) (o := 0) (.inl rfl) x
  exact ⟨ho.os, ho.tape, ho.output, ho.size, fun k A T z hk _ _ hn => (ho.block k (size_of_block hk) (fun e => hn (e ▸ hC))).trans hk, fun k es cl hk _ => (ho.block k (size_of_block hk) (fun e => by rw [e, h] at hk; injection hk with hk; cases hk)).trans hk, fun k hk hl => ho.block k hl (fun e => hN (e ▸ hk))⟩
theorem ZdAt.put1 {N : Nat → Prop} {w : World} {zb ab bm b : Nat} {v : Value} {room full : Nat} {S : St} {T : TypeId} {A : Array Value} {z : Nat × Nat} (hd : ZdAt w N zb ab bm v room full S) (h : w.heap[b]? = some (.cells A T z)) (h1 : T ≠ 83) (h2 : T ≠ 170) (h3 : T ≠ 47) (x : Value) : ZdAt (w.setCell ⟨b, 0, none⟩ x) N zb ab bm v room full S := by
  have ho := (Off.refl (· = b) w).setCell (b := b) (o := 0) (.inl rfl) x
  have hnf := hd.ar.not_fp h h1 h2
  exact ⟨(ho.block zb (size_of_block hd.head) (fun e => by have := hd.head; rw [e, h] at this; injection this with this; injection this with _ this _; exact absurd this h3)).trans hd.head, hd.ar.same (fun q hq hl => ho.block q hl (fun e => hnf (e ▸ hq))), hd.ok, hd.zst, hd.gap, fun q hq => ⟨Nat.lt_of_lt_of_le (hd.off q hq).1 ho.size, (hd.off q hq).2⟩⟩
set_option maxHeartbeats 1000000 in
/-- 'f, e = do(f, g)', where there is no error. -/
theorem tthen_any {fk eb fb zb : Nat} {w : World} {f g : Int} {R : World → Int → Prop} (hcf : ∀ (args : Array Value) (w1 : World), (Sem.run Tryz.prog (callFunc fk args) w1) = .ok (.enter fk args) w1)
    (he : w.heap[eb]? = some (.cells #[.int .i64 0] 26 (0, 0))) (hf : w.heap[fb]? = some (.cells #[.int .i64 f] 3 (0, 0)))
    (H : Calls Tryz.prog fk #[.pointer (some ⟨zb, 0, none⟩), .int .i64 f, .int .i64 g] w fun e w' => ∃ id : Int, e = .returned (.tuple #[.int .i64 id, .int .i64 0]) ∧ w'.heap[eb]? = some (.cells #[.int .i64 0] 26 (0, 0)) ∧ w'.heap[fb]? = some (.cells #[.int .i64 f] 3 (0, 0)) ∧ R w' id) :
    Calls Tryz.prog 78 #[.func (.func fk) #[.pointer (some ⟨zb, 0, none⟩)] #[], .int .i64 g, .pointer (some ⟨eb, 0, none⟩), .pointer (some ⟨fb, 0, none⟩)] w
      fun e w' => e = .returned (.tuple #[]) ∧ ∃ (id : Int) (w2 : World), w' = (w2.setCell ⟨fb, 0, none⟩ (.int .i64 id)).setCell ⟨eb, 0, none⟩ (.int .i64 0) ∧ w2.heap[eb]? = some (.cells #[.int .i64 0] 26 (0, 0)) ∧ w2.heap[fb]? = some (.cells #[.int .i64 f] 3 (0, 0)) ∧ R w2 id := by
  obtain ⟨e0, -⟩ := nowz1 he rfl
  obtain ⟨f0, -⟩ := nowz1 hf rfl
  have hne : fb ≠ eb := fun e => by rw [e, he] at hf; injection hf with hf; injection hf with _ hf _; exact absurd hf (by decide)
  clear he hf
  go_enter Tryz.func78, Tryz.ntmps78
  go_wp2_with fail
  refine H.mono ?_
  rintro e w2 ⟨id, rfl, he2, hf2, hR⟩
  clear H e0 f0
  have hRH := Lib.hid (And.intro he2 (And.intro hf2 hR))
  obtain ⟨f0, ff⟩ := nowz1 hf2 rfl
  have he3 := putFar (x := .int .i64 id) (Ne.symm hne) he2
  obtain ⟨e0, ef⟩ := nowz1 he3 rfl
  clear he2 hf2 hR he3
  go_wp2
  go_end0
  exact ⟨rfl, id, w2, rfl, hRH.out.1, hRH.out.2.1, hRH.out.2.2⟩
theorem then_put {C N : Nat → Prop} {w w2 : World} {zb ab bm eb fb : Nat} {v : Value} {room full : Nat} {S : St} {f : Int} (hd : ZdAt w2 N zb ab bm v room full S) (he : w2.heap[eb]? = some (.cells #[.int .i64 0] 26 (0, 0))) (hf : w2.heap[fb]? = some (.cells #[.int .i64 f] 3 (0, 0))) (hk : Kz C (· = bm) N w w2) (hCf : C fb) (hCe : C eb) (hNf : ¬ N fb) (hNe : ¬ N eb) (id : Int) :
    ZdAt ((w2.setCell ⟨fb, 0, none⟩ (.int .i64 id)).setCell ⟨eb, 0, none⟩ (.int .i64 0)) N zb ab bm v room full S ∧ ((w2.setCell ⟨fb, 0, none⟩ (.int .i64 id)).setCell ⟨eb, 0, none⟩ (.int .i64 0)).heap[fb]? = some (.cells #[.int .i64 id] 3 (0, 0)) ∧
    ((w2.setCell ⟨fb, 0, none⟩ (.int .i64 id)).setCell ⟨eb, 0, none⟩ (.int .i64 0)).heap[eb]? = some (.cells #[.int .i64 0] 26 (0, 0)) ∧ Kz C (· = bm) N w ((w2.setCell ⟨fb, 0, none⟩ (.int .i64 id)).setCell ⟨eb, 0, none⟩ (.int .i64 0)) := by
  have hne : fb ≠ eb := fun e => by rw [e, he] at hf; injection hf with hf; injection hf with _ hf _; exact absurd hf (by decide)
  have he3 := putFar (x := .int .i64 id) (Ne.symm hne) he
  have hf3 := put1z (x := .int .i64 id) hf
  have hd3 := hd.put1 hf (by decide) (by decide) (by decide) (.int .i64 id)
  exact ⟨hd3.put1 he3 (by decide) (by decide) (by decide) (.int .i64 0), putFar hne hf3, put1z he3, hk.trans ((Kz.put1 hf hCf hNf _).trans (Kz.put1 he3 hCe hNe _))⟩
/-- A draft in memory. -/
def DrAt (w : World) (drb zb n mm : Nat) : Prop := w.heap[drb]? = some (.cells #[.pointer (some ⟨zb, 0, none⟩), .int .i64 n, .map (some mm)] 98 (0, 0))
theorem DrAt.kz {C M N : Nat → Prop} {w w' : World} {drb zb n mm : Nat} (h : DrAt w drb zb n mm) (k : Kz C M N w w') (hC : ¬ C drb) : DrAt w' drb zb n mm := k.cells _ _ _ _ h (by decide) (by decide) hC
theorem DrAt.below {w w' : World} {drb zb n mm : Nat} (h : DrAt w drb zb n mm) (k : Below w.heap.size w w') : DrAt w' drb zb n mm := keep_blk k h
/-- The members that none of others has. -/
def lessF (S : St) (F : Nat → Bool) (os : List Int) : Nat → Bool := fun x => F x && !os.any fun o => zf S 24 o x
theorem lessF_le {S : St} {F : Nat → Bool} {os : List Int} {x : Nat} (h : lessF S F os x = true) : F x = true := by
  unfold lessF at h
  rw [Bool.and_eq_true] at h
  exact h.1
theorem lessF_next {S : St} {F : Nat → Bool} {os : List Int} {k : Nat} {o : Int} (h : os[k]? = some o) : op2F 2 (lessF S F (os.take k)) (zf S 24 o) = lessF S F (os.take (k + 1)) := by
  funext x
  rw [op2_less]
  unfold lessF
  rw [List.take_add_one, h, List.any_append]
  simp only [Option.toList_some, List.any_cons, List.any_nil, Bool.or_false]
  cases F x <;> cases (os.take k).any (fun o => zf S 24 o x) <;> cases zf S 24 o x <;> rfl
theorem cF_lessF (S : St) (F : Nat → Bool) (os : List Int) : cF 24 (lessF S F os) ≤ cF 24 F := cF_le 24 fun _ h => lessF_le h
theorem tS_lessF (S : St) (F : Nat → Bool) (os : List Int) : tS 24 (lessF S F os) ≤ tS 24 F := tS_mono 24 fun _ h => lessF_le h
set_option maxHeartbeats 4000000 in
set_option maxRecDepth 100000 in
theorem tadd_any {N : Nat → Prop} {w : World} {zb ab bm drb n mm : Nat} {v : Value} {full : Nat} {S : St} (hd : ZdAt w N zb ab bm v 20000 full S) (hdr : DrAt w drb zb n mm) (all f : Int) (items : Nat) (A : Option Addr) (cap : Nat) (os : List Int) (F G : Nat → Bool)
    (hf : Held S f F) (ha : Held S all G) (ho : ∀ o ∈ os, 0 ≤ lvl S o) (hos : os.length ≤ 4)
    (hov : ∀ (j : Nat) (x : Int), os[j]? = some x → ∃ (b off : Nat) (X : Array Value), A = some ⟨b, off, none⟩ ∧ w.heap[b]? = some (.cells X 3 (0, 0)) ∧ X[off + j]? = some (.int .i64 x))
    (hit : items < 16777216) (c0 c1 c2 c3 : Nat) (hF : cF 24 F ≤ 60) (h0 : tB 24 (rowF [items]) 24 ≤ c0) (h1 : tS 24 F ≤ c1)
    (h2 : tB 24 (joinF 24 (lessF S F os) (rowF [items])) (24 * cF 24 (joinF 24 (lessF S F os) (rowF [items]))) ≤ c2)
    (h3 : tB 24 (op2F 0 (joinF 24 (lessF S F os) (rowF [items])) G) (24 * min (cF 24 (joinF 24 (lessF S F os) (rowF [items]))) (cF 24 G)) ≤ c3)
    (hroom : cnt S + (c0 + os.length * c1 + c2 + c3) < 20000) :
    Calls Tryz.prog 50 #[.pointer (some ⟨drb, 0, none⟩), .int .i64 all, .int .i64 f, .int .i64 items, .slice A os.length cap] w
      fun e w' => ∃ (v' : Value) (full' : Nat) (T : St) (id : Int), e = .returned (.tuple #[.int .i64 id, .int .i64 0]) ∧ ZdAt w' N zb ab bm v' 20000 full' T ∧ Kz no8 (· = bm) N w w' ∧ Ext S T ∧ Held T id (op2F 0 (joinF 24 (lessF S F os) (rowF [items])) G) ∧ cnt T ≤ cnt S + (c0 + os.length * c1 + c2 + c3) := by
  have hB1 := below_alloc1 w (.cells #[.int .i64 f] 3 (0, 0))
  have hfb := heap_alloc_new w (.cells #[.int .i64 f] 3 (0, 0))
  have hd1 := hd.below hB1
  have hdr1 := hdr.below hB1
  go_enter Tryz.func50, Tryz.ntmps50
  go_upto_region 1 with (fail)
  generalize hW1 : w.alloc (.cells #[.int .i64 f] 3 (0, 0)) = W1 at *
  have hB2 := below_alloc1 W1 (.cells #[.int .i64 items] 3 (0, 0))
  have hit2 := heap_alloc_new W1 (.cells #[.int .i64 items] 3 (0, 0))
  have hd2 := hd1.below hB2
  have hdr2 := hdr1.below hB2
  have hfb2 := keep_blk hB2 hfb
  have HO := zOfT_any (l := [items]) hd2 (lit_nats hit2 rfl (n := 1) rfl (by omega)) (fun x hx => by rw [List.mem_singleton] at hx; rw [hx]; exact hit) (by simp)
  obtain ⟨d0, d1, d2, -⟩ := now3 hdr1 rfl
  go_wp2_with fail
  refine HO.mono ?_
  intro e w3 hM
  obtain ⟨v3, full3, S3, one, rfl, hd3, hk3, hx3, hh3, hc3⟩ := made_ok hM (by
    rw [show 24 * ([items] : List Nat).length = 24 by simp]
    have := h0
    omega)
  rw [show 24 * ([items] : List Nat).length = 24 by simp] at hc3
  have hV := hd.zst.vst
  have hV3 := hd3.zst.vst
  have hNlt : ∀ q, N q → q < w.heap.size := fun q hq => (hd.off q hq).1
  have hsz1 : w.heap.size < W1.heap.size := size_of_block hfb
  have hk03 : Kz (fun q => w.heap.size ≤ q) (· = bm) N w w3 := ((Kz.of_below hB1).trans (Kz.of_below hB2)).trans (hk3.mono (fun q hq => hq.elim) (fun _ h => h) (fun _ h => h))
  have hfb3 := hk3.cells _ _ _ _ hfb2 (by decide) (by decide) (fun h => h)
  have hsz3 := hk03.size
  clear HO hM d0 d1 d2 hd1 hdr1 hd2 hdr2 hfb hfb2 hit2 hB1 hB2 hk3 hW1
  have heb := heap_alloc_new w3 (.cells #[.int .i64 0] 26 (0, 0))
  have hB4 := below_alloc1 w3 (.cells #[.int .i64 0] 26 (0, 0))
  have hfb4 := keep_blk hB4 hfb3
  have hd4 := hd3.below hB4
  have hk04 := hk03.more hB4
  have hlt3 := size_of_block hfb3
  have hez : w3.heap.size < (w3.alloc (.cells #[.int .i64 0] 26 (0, 0))).heap.size := by simp
  go_upto_region 2 with (fail)
  generalize w3.alloc _ = W4 at *
  generalize w3.heap.size = eb at *
  clear hd3 hk03 hfb3 hB4
  have hmf : ∀ (fn : Fn) (first cap : Array Value) (w : World), (Instr.makeFunc fn first cap).run Tryz.prog w = .ok (.func fn first cap) w := fun _ _ _ _ => rfl
  have hcfT : ∀ (args : Array Value) (w1 : World), (Sem.run Tryz.prog (callFunc 78 args) w1) = .ok (.enter 78 args) w1 := fun _ _ => by kernel_rfl
  have hcfL : ∀ (args : Array Value) (w1 : World), (Sem.run Tryz.prog (callFunc 79 args) w1) = .ok (.enter 79 args) w1 := fun _ _ => by kernel_rfl
  have hcfJ : ∀ (args : Array Value) (w1 : World), (Sem.run Tryz.prog (callFunc 80 args) w1) = .ok (.enter 80 args) w1 := fun _ _ => by kernel_rfl
  have hcfU : ∀ (args : Array Value) (w1 : World), (Sem.run Tryz.prog (callFunc 81 args) w1) = .ok (.enter 81 args) w1 := fun _ _ => by kernel_rfl
  have hf3 := hf.ext hV hx3
  have hstart : Hid (Ext S3 S3 ∧ Held S3 f (lessF S F (os.take 0)) ∧ cnt S3 ≤ cnt S3 + 0 * c1) := Lib.hid ⟨Ext.refl S3, by
    rw [show lessF S F (os.take 0) = F by funext x; unfold lessF; simp]; exact hf3, by omega⟩
  go_wp2_with fail
  go_loopw [30] (fun t wr => ∃ (k : Nat) (f' : Int) (v' : Value) (full' : Nat) (T : St), k ≤ os.length ∧ t = .int .i64 k ∧ ZdAt wr N zb ab bm v' 20000 full' T ∧ wr.heap[w.heap.size]? = some (.cells #[.int .i64 f'] 3 (0, 0)) ∧ wr.heap[eb]? = some (.cells #[.int .i64 0] 26 (0, 0)) ∧ Kz (fun q => w.heap.size ≤ q) (· = bm) N w wr ∧ Hid (Ext S3 T ∧ Held T f' (lessF S F (os.take k)) ∧ cnt T ≤ cnt S3 + k * c1)) (fun t _ => os.length - (intOf t).toNat)
  case atStart => exact ⟨0, f, _, _, S3, Nat.zero_le _, rfl, hd4, hfb4, heb, hk04, hstart⟩
  case round =>
    clear hd4 hfb4 heb hk04 hstart hf3
    obtain ⟨k, f', v', full', T, hk, rfl, hdw, hfw, hew, hkw, hTT⟩ := hrel
    have hdrw := hdr.kz hkw (fun h => by have := size_of_block hdr; omega)
    obtain ⟨d0, d1, d2, -⟩ := now3 hdrw rfl
    by_cases hlt : k < os.length
    · obtain ⟨o, hoo⟩ : ∃ o, os[k]? = some o := ⟨_, List.getElem?_eq_getElem hlt⟩
      obtain ⟨b, off, X, rfl, hX, hXc⟩ := hov k o hoo
      have hXw := hkw.cells _ _ _ _ hX (by decide) (by decide) (fun h => by have := size_of_block hX; omega)
      have q0 : wr.cell? ⟨b, off + k, none⟩ = some (.int .i64 o) := by rw [cell_of_block hXw]; exact hXc
      have hOk : ∀ U, Hid (Held U 0 (fun _ => false)) := fun U => Lib.hid ⟨by rw [lvl_end (.inl rfl)]; decide, by funext x; exact zf_zero U 24 x (by omega)⟩
      have HT : Calls Tryz.prog 78 #[.func (.func 79) #[.pointer (some ⟨zb, 0, none⟩)] #[], .int .i64 o, .pointer (some ⟨eb, 0, none⟩), .pointer (some ⟨w.heap.size, 0, none⟩)] wr
          fun e w' => e = .returned (.tuple #[]) ∧ ∃ (id : Int) (w2 : World), w' = (w2.setCell ⟨w.heap.size, 0, none⟩ (.int .i64 id)).setCell ⟨eb, 0, none⟩ (.int .i64 0) ∧ w2.heap[eb]? = some (.cells #[.int .i64 0] 26 (0, 0)) ∧ w2.heap[w.heap.size]? = some (.cells #[.int .i64 f'] 3 (0, 0)) ∧
            ∃ (v2 : Value) (full2 : Nat) (U : St), ZdAt w2 N zb ab bm v2 20000 full2 U ∧ Kz no8 (· = bm) N wr w2 ∧ Hid (Ext S3 U ∧ Held U id (lessF S F (os.take (k + 1))) ∧ cnt U ≤ cnt S3 + (k + 1) * c1) := by
        obtain ⟨hxT, hhT, hcT⟩ := hTT.out
        have hxST := hx3.trans hxT
        have ho0 := ho o (List.mem_of_getElem? hoo)
        have ez : zf T 24 o = zf S 24 o := hxST.zf hV 24 o (Nat.le_refl _) ho0 (by omega)
        have el := hxST.lvl ho0
        have hnf := hhT.zn
        have hle := cF_lessF S F (os.take k)
        have eF : op2F 2 (zf T 24 f') (zf T 24 o) = lessF S F (os.take (k + 1)) := by rw [hhT.2, ez, lessF_next hoo]
        have hLb : tB 24 (op2F 2 (zf T 24 f') (zf T 24 o)) (24 * min (zn T f') (zn T o)) ≤ c1 := by
          rw [eF]
          exact Nat.le_trans (tB_les _ _ _) (Nat.le_trans (tS_lessF _ _ _) h1)
        have hmul : (k + 1) * c1 ≤ os.length * c1 := Nat.mul_le_mul_right _ hlt
        have hmul2 : (k + 1) * c1 = k * c1 + c1 := by rw [Nat.add_mul, Nat.one_mul]
        have hcO : tB 24 (rowF [items]) 24 ≤ c0 := h0
        refine tthen_any hcfL hew hfw ((zLessT_any hdw f' o hhT.1 (by omega) (by omega)).mono ?_)
        intro e w2 hM
        obtain ⟨v2, full2, U, id, rfl, hd2, hk2, hx2, hh2, hc2⟩ := made_ok hM (by omega)
        rw [eF] at hh2
        refine ⟨id, rfl, hk2.cells _ _ _ _ hew (by decide) (by decide) (fun h => h), hk2.cells _ _ _ _ hfw (by decide) (by decide) (fun h => h), v2, full2, U, hd2, hk2, Lib.hid ⟨hxT.trans hx2, hh2, by omega⟩⟩
      have hdwH := Lib.hid hdw
      clear hTT hov hX hXw hXc ho hoo hdw
      go_wp2_with fail
      refine HT.mono ?_
      rintro e w9 ⟨rfl, id, w2, rfl, he2, hf2, v2, full2, U, hd2, hk2, hU⟩
      have hp := then_put hd2 he2 hf2 (hkw.trans (hk2.mono (fun q hq => hq.elim) (fun _ h => h) (fun _ h => h))) (Nat.le_refl w.heap.size) (by omega : w.heap.size ≤ eb) (fun hq => by have := hNlt _ hq; omega) (fun hq => by have := hNlt _ hq; omega) id
      clear HT he2 hf2 hd2 hk2 hfw hew hkw hdrw d0 d1 d2 q0 hdwH
      generalize (w2.setCell ⟨w.heap.size, 0, none⟩ (.int .i64 id)).setCell ⟨eb, 0, none⟩ (.int .i64 0) = W9 at *
      obtain ⟨p1, p2, p3, p4⟩ := hp
      go_wp2
      go_roundw
      case rel => exact ⟨k + 1, id, v2, full2, U, by omega, by go_num, p1, p2, p3, p4, hU⟩
      case measure => simp [intOf]; omega
    · obtain rfl : k = os.length := by omega
      rw [List.take_length] at hTT
      clear hov hlt hk ho
      have HJ : Calls Tryz.prog 78 #[.func (.func 80) #[.pointer (some ⟨zb, 0, none⟩)] #[], .int .i64 one, .pointer (some ⟨eb, 0, none⟩), .pointer (some ⟨w.heap.size, 0, none⟩)] wr
          fun e w' => e = .returned (.tuple #[]) ∧ ∃ (id : Int) (w2 : World), w' = (w2.setCell ⟨w.heap.size, 0, none⟩ (.int .i64 id)).setCell ⟨eb, 0, none⟩ (.int .i64 0) ∧ w2.heap[eb]? = some (.cells #[.int .i64 0] 26 (0, 0)) ∧ w2.heap[w.heap.size]? = some (.cells #[.int .i64 f'] 3 (0, 0)) ∧
            ∃ (v2 : Value) (full2 : Nat) (U : St), ZdAt w2 N zb ab bm v2 20000 full2 U ∧ Kz no8 (· = bm) N wr w2 ∧ Hid (Ext S U ∧ Held U id (joinF 24 (lessF S F os) (rowF [items])) ∧ cnt U ≤ cnt S + (c0 + os.length * c1 + c2)) := by
        obtain ⟨hxT, hhT, hcT⟩ := hTT.out
        have ho1 := hh3.ext hV3 hxT
        have hn1 := ho1.zn
        have hnf := hhT.zn
        have hle := cF_lessF S F os
        have h1c := cF_row_le (D := 24) [items]
        rw [List.length_singleton] at h1c
        have hcj := cF_join 24 (lessF S F os) (rowF [items])
        have hmu : cF 24 (lessF S F os) * cF 24 (rowF [items]) ≤ cF 24 (lessF S F os) * 1 := Nat.mul_le_mul_left _ h1c
        have hzz : zn T f' * zn T one ≤ zn T f' * 1 := Nat.mul_le_mul_left _ (by omega)
        refine tthen_any hcfJ hew hfw ((zJoinT_any hdw f' one hhT.1 ho1.1 (by omega) (by rw [hhT.2, ho1.2]; omega) (by omega)).mono ?_)
        rw [hhT.2, ho1.2]
        intro e w2 hM
        obtain ⟨v2, full2, U, id, rfl, hd2, hk2, hx2, hh2, hc2⟩ := made_ok hM (by unfold EJ; omega)
        refine ⟨id, rfl, hk2.cells _ _ _ _ hew (by decide) (by decide) (fun h => h), hk2.cells _ _ _ _ hfw (by decide) (by decide) (fun h => h), v2, full2, U, hd2, hk2, Lib.hid ⟨hx3.trans (hxT.trans hx2), hh2, by omega⟩⟩
      have hcJ : Hid (cF 24 (joinF 24 (lessF S F os) (rowF [items])) ≤ 60) := Lib.hid (by
        have hle := cF_lessF S F os
        have h1c := cF_row_le (D := 24) [items]
        rw [List.length_singleton] at h1c
        have hcj := cF_join 24 (lessF S F os) (rowF [items])
        have hmu : cF 24 (lessF S F os) * cF 24 (rowF [items]) ≤ cF 24 (lessF S F os) * 1 := Nat.mul_le_mul_left _ h1c
        omega)
      clear hTT hdw hh3 hc3 hx3 hV3
      go_wp2_with fail
      refine HJ.mono ?_
      rintro e w9 ⟨rfl, id, w2, rfl, he2, hf2, v2, full2, U, hd2, hk2, hU⟩
      have hp := then_put hd2 he2 hf2 (hkw.trans (hk2.mono (fun q hq => hq.elim) (fun _ h => h) (fun _ h => h))) (Nat.le_refl w.heap.size) (by omega : w.heap.size ≤ eb) (fun hq => by have := hNlt _ hq; omega) (fun hq => by have := hNlt _ hq; omega) id
      clear HJ he2 hf2 hd2 hk2 hfw hew hkw hdrw d0 d1 d2
      generalize (w2.setCell ⟨w.heap.size, 0, none⟩ (.int .i64 id)).setCell ⟨eb, 0, none⟩ (.int .i64 0) = W9 at *
      obtain ⟨hd9, hf9, he9, hk9⟩ := hp
      have hdr9 := hdr.kz hk9 (fun h => by have := size_of_block hdr; omega)
      obtain ⟨d0, d1, d2, -⟩ := now3 hdr9 rfl
      have HU : Calls Tryz.prog 78 #[.func (.func 81) #[.pointer (some ⟨zb, 0, none⟩)] #[], .int .i64 all, .pointer (some ⟨eb, 0, none⟩), .pointer (some ⟨w.heap.size, 0, none⟩)] W9
          fun e w' => e = .returned (.tuple #[]) ∧ ∃ (id' : Int) (w2 : World), w' = (w2.setCell ⟨w.heap.size, 0, none⟩ (.int .i64 id')).setCell ⟨eb, 0, none⟩ (.int .i64 0) ∧ w2.heap[eb]? = some (.cells #[.int .i64 0] 26 (0, 0)) ∧ w2.heap[w.heap.size]? = some (.cells #[.int .i64 id] 3 (0, 0)) ∧
            ∃ (v2 : Value) (full2 : Nat) (V : St), ZdAt w2 N zb ab bm v2 20000 full2 V ∧ Kz no8 (· = bm) N W9 w2 ∧ Hid (Ext S V ∧ Held V id' (op2F 0 (joinF 24 (lessF S F os) (rowF [items])) G) ∧ cnt V ≤ cnt S + (c0 + os.length * c1 + c2 + c3)) := by
        obtain ⟨hxU, hhU, hcU⟩ := hU.out
        have haU := ha.ext hV hxU
        have hn1 := haU.zn
        have hnf := hhU.zn
        have hcj := hcJ.out
        refine tthen_any hcfU he9 hf9 ((zUnionT_any hd9 id all hhU.1 haU.1 (by omega)).mono ?_)
        rw [hhU.2, haU.2, hnf, hn1]
        intro e w2 hM
        obtain ⟨v2, full2, V, id', rfl, hd2, hk2, hx2, hh2, hc2⟩ := made_ok hM (by omega)
        refine ⟨id', rfl, hk2.cells _ _ _ _ he9 (by decide) (by decide) (fun h => h), hk2.cells _ _ _ _ hf9 (by decide) (by decide) (fun h => h), v2, full2, V, hd2, hk2, Lib.hid ⟨hxU.trans hx2, hh2, by omega⟩⟩
      clear hU hd9
      go_wp2_with fail
      refine HU.mono ?_
      rintro e wA ⟨rfl, id', w3, rfl, he3, hf3, v3, full3, V, hd3, hk3, hVV⟩
      have hp := then_put hd3 he3 hf3 (hk9.trans (hk3.mono (fun q hq => hq.elim) (fun _ h => h) (fun _ h => h))) (Nat.le_refl w.heap.size) (by omega : w.heap.size ≤ eb) (fun hq => by have := hNlt _ hq; omega) (fun hq => by have := hNlt _ hq; omega) id'
      clear HU he3 hf3 hd3 hk3 hf9 he9 hk9 hdr9 d0 d1 d2
      generalize (w3.setCell ⟨w.heap.size, 0, none⟩ (.int .i64 id')).setCell ⟨eb, 0, none⟩ (.int .i64 0) = WA at *
      obtain ⟨hdA, hfA, heA, hkA⟩ := hp
      obtain ⟨x0, -⟩ := boxz1 hfA rfl
      obtain ⟨y0, -⟩ := boxz1 heA rfl
      go_upto_region 10 with (fail)
      refine wp_region_after (by kernel_rfl) (by kernel_rfl) ?_
      repeat (first | go_big_quiet_step (fail))
      refine wpQuiet_nil ?_
      intro x
      have hdB := hdA.below x.2
      have hkB := (hkA.more x.2).fresh (C' := no8) (fun q hq => .inr hq) (fun q hq => .inl hq)
      clear x0 y0 hdA hkA hfA heA
      go_wp2
      go_ret2
      exact ⟨v3, full3, V, id', rfl, hdB, hkB, hVV.out.1, hVV.out.2.1, hVV.out.2.2⟩
end Go.Proofs.YtehpccanjlaokaaGreat
namespace Go.Proofs.YtehpccanjlaokaaGreat
open Go.RowKit Go.Joins
open Go.Maps (Keyed)

/-- A part. -/
def ptV (X : BitVec 256) (i : Nat) : Value := .agg #[.int .u64 (wd X 0).toNat, .int .u64 (wd X 1).toNat, .int .u64 (wd X 2).toNat, .int .u64 (wd X 3).toNat, .int .i64 i]
def klP (X : BitVec 256) (i : Nat) : Lit := .string (keyBytes [.int .u64 (wd X 0).toNat, .int .u64 (wd X 1).toNat, .int .u64 (wd X 2).toNat, .int .u64 (wd X 3).toNat, .int .i64 i])
theorem Tryz.keyPart : Tryz.prog.keyType 128 = true := by kernel_rfl
theorem Tryz.cellsPart : Tryz.prog.cellsOf 128 = 5 := by kernel_rfl
theorem Tryz.cellsSetP : Tryz.prog.cellsOf 51 = 4 := by kernel_rfl
theorem wf_u64 (b : BitVec 64) : (Lit.int .u64 (b.toNat : Int)).wf = true := by
  have := b.isLt
  have e1 : IntKind.u64.min = 0 := by rfl
  have e2 : IntKind.u64.max = 18446744073709551615 := by rfl
  simp [Lit.wf, e1, e2]
  omega
theorem lits_u64 (d : Nat) (b : BitVec 64) : Tryz.prog.keyLits (d + 1) 49 [.int .u64 b.toNat] = some [.int .u64 b.toNat] := by
  unfold Program.keyLits
  simp [Tryz.underlying49, wf_u64]
theorem lits_set (d : Nat) (X : BitVec 256) : Tryz.prog.keyLits (d + 1 + 1) 51 [.int .u64 (wd X 0).toNat, .int .u64 (wd X 1).toNat, .int .u64 (wd X 2).toNat, .int .u64 (wd X 3).toNat] = some [.int .u64 (wd X 0).toNat, .int .u64 (wd X 1).toNat, .int .u64 (wd X 2).toNat, .int .u64 (wd X 3).toNat] := by
  have h := lits_u64 d
  unfold Program.keyLits
  simp only [Tryz.underlying51, Tryz.cellsSetP, Tryz.cellsU64]
  rw [show List.range 4 = [0, 1, 2, 3] from rfl]
  simp [h]
theorem key_part (X : BitVec 256) {i : Nat} (hi : i ≤ 8) : keyOf Tryz.prog 128 (ptV X i) = some (klP X i) := by
  have hm : ∃ m, Tryz.prog.types.size + 1 = m + 1 + 1 + 1 := ⟨Tryz.prog.types.size - 2, by have : 2 < Tryz.prog.types.size := of_decide_eq_true (by kernel_rfl); omega⟩
  have hwi : (Lit.int .i64 (i : Int)).wf = true := WalkArith.wf_i64 (by omega)
  have hI : ∀ d, Tryz.prog.keyLits (d + 1) 3 [.int .i64 i] = some [.int .i64 i] := fun d => by
    unfold Program.keyLits
    simp [Tryz.underlying3, hwi]
  obtain ⟨k, hk⟩ := hm
  have hS := lits_set k X
  have hI1 := hI (k + 1)
  unfold keyOf ptV
  simp only [Tryz.underlying128]
  rw [if_pos (by simp [Tryz.keyPart, Value.formed, Tryz.underlying128, Tryz.cellsPart]), hk]
  unfold Program.keyLits
  simp [Tryz.underlying128, Tryz.cellsPart, Value.cells, Tryz.cellsInt1, Tryz.cellsSetP, hS, hI1, klP]
theorem Tryz.partLaw : Go.WideMaps.KeyLaw Tryz.prog 128 := deep_law_laid Tryz.laidOut (m := 3) (by omega) (of_decide_eq_true (by kernel_rfl)) (by kernel_rfl) (by kernel_rfl)
theorem Tryz.partKeyed : Keyed Tryz.prog 128 := Keyed.of_law Tryz.partLaw
theorem wd_ext {X Y : BitVec 256} (h : ∀ k, k < 4 → (wd X k).toNat = (wd Y k).toNat) : X = Y := by
  apply BitVec.eq_of_getLsbD_eq
  intro p hp
  have e : wd X (p / 64) = wd Y (p / 64) := BitVec.eq_of_toNat_eq (h _ (by omega))
  have h1 := wd_bit X (p / 64) (p % 64)
  have h2 := wd_bit Y (p / 64) (p % 64)
  rw [e, h2, decide_eq_true (by omega), Bool.true_and, Bool.true_and, show 64 * (p / 64) + p % 64 = p by omega] at h1
  exact h1.symm
theorem klP_inj {X Y : BitVec 256} {i j : Nat} (hi : i ≤ 8) (hj : j ≤ 8) (h : klP X i = klP Y j) : X = Y ∧ i = j := by
  have e := Tryz.partKeyed.inj (key_part X hi) (h ▸ key_part Y hj)
  unfold ptV at e
  simp at e
  obtain ⟨e0, e1, e2, e3, e4⟩ := e
  refine ⟨wd_ext fun k hk => ?_, by exact_mod_cast e4⟩
  rcases (by omega : k = 0 ∨ k = 1 ∨ k = 2 ∨ k = 3) with rfl | rfl | rfl | rfl
  · exact_mod_cast e0
  · exact_mod_cast e1
  · exact_mod_cast e2
  · exact_mod_cast e3
theorem isKey_part (X : BitVec 256) {i : Nat} (hi : i ≤ 8) : WideAt.IsKeyLit (klP X i) := Tryz.partKeyed.key (key_part X hi)
/-- Each entry is the family of the primes of its part. -/
def RemQ (D : DataW Unit) (n : Nat) (S : St) : Prop := ∀ (X : BitVec 256) (i : Nat), i ≤ 8 → Maps.has D (klP X i) = true → ∃ r, D.atKey (klP X i) (.lit (.int .i64 0)) = .lit (.int .i64 r) ∧ Held S r (FI n i X)
def RemP (w : World) (mm n : Nat) (S : St) (C : Nat) : Prop := ∃ D c, w.ownsMap Tryz.prog 128 (plainElem Tryz.prog 3) mm c D ∧ c ≤ C ∧ RemQ D n S
theorem RemP.made (w : World) (n : Nat) (S : St) : RemP (w.alloc (.map #[] 0)) w.heap.size n S 0 :=
  ⟨.map [], 0, World.ownsMap_made w _ _ _, Nat.le_refl _, fun X i _ h => by simp [Maps.has] at h⟩
theorem RemP.obj {w : World} {mm n : Nat} {S : St} {C : Nat} (h : RemP w mm n S C) : ∃ es clock, w.heap[mm]? = some (.map es clock) := by
  obtain ⟨D, c, ⟨es, clock, hm, _⟩, _⟩ := h; exact ⟨es, clock, hm⟩
theorem RemP.lt {w : World} {mm n : Nat} {S : St} {C : Nat} (h : RemP w mm n S C) : mm < w.heap.size := by
  obtain ⟨es, clock, hm⟩ := h.obj; exact size_of_block hm
theorem RemP.keep {w w' : World} {mm n : Nat} {S : St} {C : Nat} (h : RemP w mm n S C) (hb : w'.heap[mm]? = w.heap[mm]?) : RemP w' mm n S C := by
  obtain ⟨D, c, ⟨es, clock, hm, r⟩, ht⟩ := h
  exact ⟨D, c, ⟨es, clock, hb.trans hm, r⟩, ht⟩
theorem RemP.below {w w' : World} {mm n : Nat} {S : St} {C : Nat} (h : RemP w mm n S C) (hb : Below w.heap.size w w') : RemP w' mm n S C := h.keep (hb.block _ h.lt)
theorem RemP.kz {C M N : Nat → Prop} {w w' : World} {mm n : Nat} {S : St} {c : Nat} (h : RemP w mm n S c) (k : Kz C M N w w') (hM : ¬ M mm) : RemP w' mm n S c := by
  obtain ⟨es, clock, hm⟩ := h.obj
  exact h.keep ((k.maps mm es clock hm hM).trans hm.symm)
theorem RemP.ext {w : World} {mm n : Nat} {S T : St} {C : Nat} (h : RemP w mm n S C) (hV : VSt S) (hx : Ext S T) : RemP w mm n T C := by
  obtain ⟨D, c, ho, hn, hr⟩ := h
  exact ⟨D, c, ho, hn, fun X i hi hh => by obtain ⟨r, h1, h2⟩ := hr X i hi hh; exact ⟨r, h1, h2.ext hV hx⟩⟩
theorem RemP.more {w : World} {mm n : Nat} {S : St} {C C' : Nat} (h : RemP w mm n S C) (hC : C ≤ C') : RemP w mm n S C' := by
  obtain ⟨D, c, ho, hn, hr⟩ := h
  exact ⟨D, c, ho, Nat.le_trans hn hC, hr⟩
set_option maxRecDepth 100000 in
theorem RemP.look {w : World} {mm n : Nat} {S : St} {C : Nat} (h : RemP w mm n S C) (X : BitVec 256) {i : Nat} (hi : i ≤ 8) :
    ∃ (c : Int) (b : Bool), (∀ y : After w, (Instr.lookup 96 (.map (some mm)) (ptV X i) true).run Tryz.prog y.1 = .ok (.tuple #[.int .i64 c, .bool b]) y.1) ∧ (b = true → Held S c (FI n i X)) := by
  obtain ⟨D, n', ho, hk, hr⟩ := h
  have hmm := ho.lt
  obtain ⟨es, clock, hm, rest⟩ := ho
  have key : ∀ y : After w, ∃ c : Int, (Instr.lookup 96 (.map (some mm)) (ptV X i) true).run Tryz.prog y.1 = .ok (.tuple #[.int .i64 c, .bool (Maps.has D (klP X i))]) y.1 ∧ D.atKey (klP X i) (.lit (.int .i64 0)) = .lit (.int .i64 c) := fun y => by
    have ho' : y.1.ownsMap Tryz.prog 128 (plainElem Tryz.prog 3) mm n' D := ⟨es, clock, (y.2.block _ (size_of_block hm)).trans hm, rest⟩
    obtain ⟨v, ps, hrun, hv⟩ := ho'.look_ok Tryz.partKeyed Tryz.underlying96 (zeroInt y.1) (plainElem_int Tryz.underlying3 (by decide)) (key_part X hi)
    obtain ⟨c, rfl, hc, _⟩ := plainElem_int_inv Tryz.underlying3 hv
    simp only [Prod.mk.injEq] at hc
    exact ⟨c, hrun, hc.1⟩
  obtain ⟨c, -, hc⟩ := key (After.here w)
  refine ⟨c, Maps.has D (klP X i), fun y => ?_, fun hb => ?_⟩
  · obtain ⟨c', h1, h2⟩ := key y
    rw [hc] at h2
    injection h2 with h2
    injection h2 with _ h2
    rw [h2]; exact h1
  · obtain ⟨r, h1, h2⟩ := hr X i hi hb
    rw [hc] at h1
    injection h1 with h1
    injection h1 with _ h1
    rw [h1]; exact h2
set_option maxRecDepth 100000 in
theorem RemP.store {w : World} {mm n : Nat} {S : St} {C : Nat} (h : RemP w mm n S C) (hC : C ≤ 1000000) (X : BitVec 256) {i : Nat} (hi : i ≤ 8) {r : Int} (hr : (Lit.int .i64 r).wf = true) (hg : Held S r (FI n i X)) :
    ∃ w', (Instr.mapUpdate 96 (.map (some mm)) (ptV X i) (.int .i64 r)).run Tryz.prog w = .ok () w' ∧ RemP w' mm n S (C + 1) ∧ w.mapTurned w' mm := by
  obtain ⟨D, c, ho, hk, hrem⟩ := h
  obtain ⟨w', hrun, hown, hturn⟩ := ho.store Tryz.partKeyed Tryz.underlying96 (by unfold maxLen; omega) (key_part X hi) (plainElem_int Tryz.underlying3 hr)
  have hT := ho.tidy Tryz.partKeyed
  refine ⟨w', hrun, ⟨_, _, hown, by omega, fun Y j hj hh => ?_⟩, hturn⟩
  by_cases e : Y = X ∧ j = i
  · obtain ⟨rfl, rfl⟩ := e
    exact ⟨r, Maps.atKey_put_same hT.isMap (isKey_part _ hi) _ _, hg⟩
  · have hne : klP Y j ≠ klP X i := fun y => e (klP_inj hj hi y)
    rw [Maps.has_put_other hne] at hh
    obtain ⟨r', h1, h2⟩ := hrem Y j hj hh
    exact ⟨r', by rw [Maps.atKey_put_other hne]; exact h1, h2⟩
/-- 'm[k] = v' at the operation, for this map. -/
theorem wpList_store_remp (w : World) {ops : Array Oper} {rest : List Oper} {o : Oper} {a : Act} {Q : Exit → Act → World → Prop}
    (hg : o.guard = none) (m x v : Operand) (hop : o.op = Op.mapUpdate 96 m x v) (mm n : Nat) (S : St) (C : Nat) (X : BitVec 256) (i : Nat) (r : Int) (hm : a.eval m = .map (some mm)) (hx : a.eval x = ptV X i) (hv : a.eval v = .int .i64 r)
    (h : RemP w mm n S C) (hC : C ≤ 1000000) (hi : i ≤ 8) (hr : (Lit.int .i64 r).wf = true) (hgd : Held S r (FI n i X))
    (hK : ∀ w', RemP w' mm n S (C + 1) → w.mapTurned w' mm → wpList Tryz.prog ops Q rest (a.put o.dst undef) w') : wpList Tryz.prog ops Q (o :: rest) a w := by
  refine wpList_plain hg fun K' hK' => ?_
  obtain ⟨w', hrun, r1, r2⟩ := h.store hC X hi hr hgd
  unfold Oper.wp
  simp [execOp, hop, hm, hx, hv, hrun, Result.andThen]
  exact hK' _ _ (hK w' r1 r2)
end Go.Proofs.YtehpccanjlaokaaGreat
