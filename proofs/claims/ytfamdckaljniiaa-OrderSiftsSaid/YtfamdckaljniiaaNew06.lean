/- Which lists are orders, plain; isOrder, Clone and New. -/
import Derived.Test.YtfamdckaljniiaaHas06
import Derived.Lib.SliceRun
import Derived.Laws.AppendOwn
namespace Go.Proofs.Ytfamdckaljniiaa
open Go.RowKit Go.Joins

/-- A list that is an order. -/
def OrdI (zs : List Int) : Prop := zs.length ≤ 8 ∧ zs.Nodup ∧ ∀ x ∈ zs, 0 ≤ x ∧ x < zs.length
instance (zs : List Int) : Decidable (OrdI zs) := by unfold OrdI; infer_instance
def ofN (o : List Nat) : List Int := o.map fun i : Nat => (i : Int)
theorem ofN_len (o : List Nat) : (ofN o).length = o.length := by unfold ofN; simp
theorem ordI_nat {zs : List Int} (h : OrdI zs) : ∃ o, zs = ofN o ∧ OrdOk o ∧ o.length ≤ 8 := by
  obtain ⟨h8, hd, hx⟩ := h
  have e : zs = ofN (zs.map Int.toNat) := by
    unfold ofN
    rw [List.map_map]
    conv => lhs; rw [← List.map_id zs]
    refine List.map_congr_left fun x hxm => ?_
    have := (hx x hxm).1
    show x = ((x.toNat : Nat) : Int)
    omega
  refine ⟨zs.map Int.toNat, e, ⟨?_, fun i hi => ?_⟩, by simpa using h8⟩
  · rw [List.nodup_iff_pairwise_ne, List.pairwise_map]
    refine List.Pairwise.imp_of_mem ?_ (List.nodup_iff_pairwise_ne.1 hd)
    intro a b ha hb hab he
    have h1 := (hx a ha).1
    have h2 := (hx b hb).1
    omega
  · obtain ⟨x, hxm, rfl⟩ := List.mem_map.1 hi
    have := hx x hxm
    rw [List.length_map]
    omega
theorem nat_ordI {o : List Nat} (h : OrdOk o) (h8 : o.length ≤ 8) : OrdI (ofN o) := by
  refine ⟨by rw [ofN_len]; exact h8, ?_, fun x hx => ?_⟩
  · unfold ofN
    rw [List.nodup_iff_pairwise_ne, List.pairwise_map]
    exact List.Pairwise.imp (fun hab he => hab (by omega)) (List.nodup_iff_pairwise_ne.1 h.nodup)
  · unfold ofN at hx
    obtain ⟨i, hi, rfl⟩ := List.mem_map.1 hx
    have := h.lt i hi
    rw [ofN_len]
    omega
/-- Its first k have been looked at. -/
def OrdK (zs : List Int) (k : Nat) : Prop := (zs.take k).Nodup ∧ ∀ x ∈ zs.take k, 0 ≤ x ∧ x < zs.length
theorem OrdK.zero (zs : List Int) : OrdK zs 0 := by unfold OrdK; simp
theorem OrdK.succ {zs : List Int} {k : Nat} {x : Int} (h : OrdK zs k) (hx : zs[k]? = some x) (h0 : 0 ≤ x) (h1 : x < zs.length) (hn : x ∉ zs.take k) : OrdK zs (k + 1) := by
  obtain ⟨hd, hr⟩ := h
  refine ⟨?_, fun y hy => ?_⟩
  · rw [List.take_add_one, hx, List.nodup_append]
    exact ⟨hd, by simp, fun a ha b hb => by have : b = x := by simpa using hb
                                            rw [this]; exact fun e => hn (e ▸ ha)⟩
  · rw [List.take_add_one, hx] at hy
    rcases List.mem_append.1 hy with hy | hy
    · exact hr y hy
    · have : y = x := by simpa using hy
      rw [this]; exact ⟨h0, h1⟩
theorem OrdK.all {zs : List Int} {k : Nat} (h : OrdK zs k) (hk : zs.length ≤ k) (h8 : zs.length ≤ 8) : OrdI zs := by
  unfold OrdK at h
  rw [List.take_of_length_le hk] at h
  exact ⟨h8, h.1, h.2⟩
theorem not_ord_out {zs : List Int} {k : Nat} {x : Int} (hx : zs[k]? = some x) (h : x < 0 ∨ zs.length ≤ x) : ¬ OrdI zs := fun ⟨_, _, hr⟩ => by
  have := hr x (List.mem_of_getElem? hx)
  omega
theorem not_ord_twice {zs : List Int} {k : Nat} {x : Int} (hx : zs[k]? = some x) (h : x ∈ zs.take k) : ¬ OrdI zs := fun ⟨_, hd, _⟩ => by
  obtain ⟨j, hj, e⟩ := List.mem_iff_getElem.1 h
  have hl := (List.getElem?_eq_some_iff.1 hx).1
  have hj' : j < k := by have : j < (zs.take k).length := hj; simp at this; omega
  rw [List.getElem_take] at e
  exact (List.pairwise_iff_getElem.1 (List.nodup_iff_pairwise_ne.1 hd)) j k (by omega) hl hj' (e.trans (List.getElem?_eq_some_iff.1 hx).2.symm)
/-- Which numbers below 8 have been met. -/
def metF (zs : List Int) (k : Nat) : Nat → Bool := fun p => decide ((p : Int) ∈ zs.take k)
theorem metF_zero (zs : List Int) : metF zs 0 = fun _ => false := by funext p; unfold metF; simp
theorem metF_succ {zs : List Int} {k i : Nat} (hx : zs[k]? = some (i : Int)) (j : Nat) (hj : j ≠ i) : metF zs (k + 1) j = metF zs k j := by
  unfold metF
  rw [List.take_add_one, hx, Bool.eq_iff_iff]
  simp
  omega
theorem metF_at {zs : List Int} {k i : Nat} (hx : zs[k]? = some (i : Int)) : metF zs (k + 1) i = true := by
  unfold metF
  rw [List.take_add_one, hx]
  simp
def met8 (f : Nat → Bool) : Obj := .cells (seenA 8 f) 72 (0, 0)
set_option maxHeartbeats 1000000 in
theorem isOrder_any (w : World) (v : Value) (zs : List Int) (hz : IntsAt w w.heap.size v zs) :
    Calls Try.prog 29 #[v] w fun e w' => e = .returned (.bool (decide (OrdI zs))) ∧ Below w.heap.size w w' := by
  obtain ⟨A, c, rfl, hzl, hc⟩ := hz
  by_cases h8 : zs.length ≤ 8
  · have hs0 : (w.alloc (met8 fun _ => false)).heap[w.heap.size]? = some (met8 (metF zs 0)) := by rw [metF_zero]; exact heap_alloc_new _ _
    have hB0 := below_alloc1 w (met8 fun _ => false)
    go_enter Try.func29, Try.ntmps29
    go_wp2
    go_loopw [5, 11] (fun _ t wr => ∃ k : Nat, k ≤ zs.length ∧ t = .int .i64 k ∧ Hid (OrdK zs k) ∧ wr.heap[w.heap.size]? = some (met8 (metF zs k)) ∧ Below w.heap.size w wr) (fun _ t _ => zs.length - (intOf t).toNat)
    case atStart => exact ⟨0, by omega, rfl, Lib.hid (OrdK.zero zs), hs0, hB0⟩
    case round =>
      clear hs0 hB0
      obtain ⟨k, hk, rfl, hK, hs, hb⟩ := hrel
      by_cases hlt : k < zs.length
      · obtain ⟨g, off, rfl, hgl, hcells⟩ := hc (by omega)
        obtain ⟨x, hx⟩ : ∃ x, zs[k]? = some x := ⟨_, List.getElem?_eq_getElem hlt⟩
        have q := After.cell ⟨wr, hb⟩ (hcells k x hx)
        dsimp only at q
        have hxH := Lib.hid hx
        clear hcells hc
        by_cases h0 : x < 0
        · have hR := Lib.hid (decide_eq_false (not_ord_out hx (.inl h0)))
          clear hx
          go_wp2
          go_ret
          exact ⟨by rw [hR.out]; rfl, hb⟩
        · by_cases h1 : (zs.length : Int) ≤ x
          · have hR := Lib.hid (decide_eq_false (not_ord_out hx (.inr h1)))
            clear hx
            go_wp2
            go_ret
            exact ⟨by rw [hR.out]; rfl, hb⟩
          · obtain ⟨i, rfl⟩ : ∃ i : Nat, x = i := ⟨x.toNat, by omega⟩
            have hi8 : i < 8 := by omega
            unfold met8 at hs
            have m0 : wr.cell? ⟨w.heap.size, i, none⟩ = some (.bool (metF zs k i)) := by rw [cell_of_block hs]; exact seenA_get _ hi8
            have m1 : wr.frozen? ⟨w.heap.size, i, none⟩ = false := unfrozen_of_block hs i
            cases hm : metF zs k i
            · rw [hm] at m0
              have hnm : (i : Int) ∉ zs.take k := of_decide_eq_false hm
              have hK' := Lib.hid (hK.out.succ hx (by omega) (by omega) hnm)
              have hs' : (wr.setCell ⟨w.heap.size, i, none⟩ (.bool true)).heap[w.heap.size]? = some (met8 (metF zs (k + 1))) := by
                unfold met8
                rw [block_setCell hs, seenA_set (g := metF zs (k + 1)) (metF_at hx) (fun j hj => metF_succ hx j hj)]
              clear hx hK hm hnm hs
              go_wp2
              go_roundw
              case rel => exact ⟨k + 1, by omega, by go_num, hK', hs', hb.setCell (by simp) _⟩
              case measure => simp [intOf]; omega
            · rw [hm] at m0
              have hR := Lib.hid (decide_eq_false (not_ord_twice hx (of_decide_eq_true hm)))
              clear hx hK hm hs
              go_wp2
              go_ret
              exact ⟨by rw [hR.out]; rfl, hb⟩
      · have hR := Lib.hid (decide_eq_true (hK.out.all (by omega) h8))
        go_wp2
        go_ret
        exact ⟨by rw [hR.out]; rfl, hb⟩
  · have hR := Lib.hid (decide_eq_false (fun h : OrdI zs => h8 h.1))
    go_enter Try.func29, Try.ntmps29
    go_wp2
    go_ret
    exact ⟨by rw [hR.out]; rfl, Below.refl _ _⟩
theorem intsV_of (o : List Nat) : intsV o = (ofN o).map (Value.int .i64) := by unfold intsV ofN; rw [List.map_map]; rfl
theorem clone_any (w : World) (v : Value) (o : List Nat) (h8 : o.length ≤ 8) (hz : IntsAt w w.heap.size v (ofN o)) :
    Calls Try.prog 27 #[v] w fun e w' => ∃ v', e = .returned v' ∧ w'.ownsRow w.heap.size 3 1 v' o.length (intsV o) ∧ Below w.heap.size w w' := by
  obtain ⟨A, c, rfl, hzl, hc⟩ := hz
  obtain ⟨i0, hi, hz0, hz1, hz2⟩ := info_parts Try.infoInt
  have q22 : ∀ (w : World) (a : Option Addr) (n c n' c' : Nat), (binOp .eql 23 (.slice a n c) (.slice none n' c')).run Try.prog w = .ok (.bool a.isNone) w := fun w a n c n' c' => Lib.run_eql_slice_nil w _ _ a n c n' c' Try.underlying23
  rw [ofN_len] at hzl hc ⊢
  cases A with
  | none =>
    have h0 : o = [] := by
      cases o with
      | nil => rfl
      | cons x r => obtain ⟨b, off, e, _⟩ := hc (by simp); cases e
    subst h0
    clear hc
    go_enter Try.func27, Try.ntmps27
    go_wp2
    go_ret
    exact ⟨_, rfl, World.ownsRow_nil _ _ _ _, Below.refl _ _⟩
  | some a =>
    have A : Aside (0 < o.length → ∃ b off, some a = some (⟨b, off, none⟩ : Addr) ∧ b < w.heap.size ∧ ∀ j x, (ofN o)[j]? = some x → w.cell? ⟨b, off + j, none⟩ = some (.int .i64 x)) := hc
    clear hc
    go_enter Try.func27, Try.ntmps27
    go_wp2_with (at_builtin; refine wpList_append_own _ rfl _ _ 23 rfl w.heap.size 3 i0 (.int .i64 0) 1 8 Try.underlying23 hi hz0 hz1 hz2 rfl (by decide) _ _ _ rfl (World.ownsRow_made w #[] 0 (Nat.le_refl _) (Nat.zero_le _) rfl) a o.length c (intsV o) rfl ?qc1 ?qc2 ?qc3 ?qc4 ?qc5 ?qc6 ?_)
    case qc1 => unfold intsV; simp
    case qc2 =>
      intro j u hj
      rw [intsV_of, List.getElem?_map] at hj
      cases hx : (ofN o)[j]? with
      | none => rw [hx] at hj; cases hj
      | some x =>
        rw [hx] at hj
        have hjl := (List.getElem?_eq_some_iff.1 hx).1
        rw [ofN_len] at hjl
        obtain ⟨b, off, e, hb, hcell⟩ := A.out (by omega)
        injection e with e
        subst e
        rw [Addr.add_lit]
        refine Lib.cell?_alloc_some _ ?_
        rw [hcell j x hx]
        simpa using hj
    case qc3 => intro u hu; rw [intsV_of] at hu; obtain ⟨x, _, rfl⟩ := List.mem_map.1 hu; rfl
    case qc4 => unfold maxLen; omega
    case qc5 => omega
    case qc6 => simp
    intro v' w1 hown hgrow hnil
    go_wp2
    go_ret
    refine ⟨v', rfl, by simpa using hown, ?_⟩
    exact ((Below.refl _ w).alloc (Nat.le_refl _) _).grown hgrow (by simp) (by intro k hk; simp [Value.ownBlock] at hk; omega)
/-- A diagram is new. -/
def BNewDone (w : World) (room : Nat) (o : List Nat) (e : Ending) (w' : World) : Prop :=
  ∃ bb ab bm ov, e = .returned (.tuple #[.pointer (some ⟨bb, 0, none⟩), .int .i64 0]) ∧ BdAt w' w.heap.size bb ab bm ov (.slice none 0 0) room 0 [] o ∧ Below w.heap.size w w'
theorem ArOk.nil6 (room : Nat) (h : room ≤ 20000) : ArOk room 0 [] := ⟨VSt.nil, Nat.zero_le _, h, Nat.le_refl _, fun j hj => by omega⟩
theorem ArAt.more {w : World} {B B' ab bm : Nat} {v : Value} {room full : Nat} {S : St} (h : ArAt w B ab bm v room full S) (hB : B' ≤ B) : ArAt w B' ab bm v room full S :=
  ⟨⟨Nat.le_trans hB h.base.1, Nat.le_trans hB h.base.2⟩, h.head, ⟨h.rows.1, by
    rcases h.rows.2 with hn | ⟨g, cap, cur, hv, hg, r⟩
    · exact .inl hn
    · exact .inr ⟨g, cap, cur, hv, Nat.le_trans hB hg, r⟩⟩, h.ids⟩
theorem bnew_no (w : World) (v : Value) (zs : List Int) (room : Int) (hz : IntsAt w w.heap.size v zs) (ho : ¬ OrdI zs) :
    Calls Try.prog 19 #[v, .int .i64 room] w fun e w' => e = .returned (.tuple #[.pointer none, .int .i64 1]) ∧ Below w.heap.size w w' := by
  have HO := isOrder_any w v zs hz
  rw [decide_eq_false ho] at HO
  obtain ⟨A, c, rfl, -, -⟩ := hz
  go_enter Try.func19, Try.ntmps19
  go_wp2_with fail
  refine HO.mono ?_
  rintro e w1 ⟨rfl, hb1⟩
  go_wp2
  go_ret2
  exact ⟨rfl, hb1⟩
theorem bnew_yes (w : World) (v : Value) (o : List Nat) (room : Nat) (hz : IntsAt w w.heap.size v (ofN o)) (ho : OrdOk o) (h8 : o.length ≤ 8) (hr : room ≤ 20000) :
    Calls Try.prog 19 #[v, .int .i64 room] w (BNewDone w room o) := by
  have HO := isOrder_any w v (ofN o) hz
  rw [decide_eq_true (nat_ordI ho h8)] at HO
  have HN := fun w => new_yes room w hr
  have HC := fun w1 (hb : Below w.heap.size w w1) => clone_any w1 v o h8 ((hz.below hb).more hb.size)
  obtain ⟨A, c, rfl, -, -⟩ := hz
  go_enter Try.func19, Try.ntmps19
  go_wp2_with fail
  refine HO.mono ?_
  rintro e w1 ⟨rfl, hb1⟩
  clear HO
  go_wp2_with fail
  refine (HN _).mono ?_
  rintro e w2 ⟨ab, bm, rfl, hA2, hb2⟩
  have hb2' := hb1.trans (hb2.mono hb1.size)
  have HC := HC w2 hb2'
  clear HN
  go_wp2_with fail
  refine HC.mono ?_
  rintro e w3 ⟨ov, rfl, ho3, hb3⟩
  have hA3 := hA2.below hb3
  have hb3' := hb2'.trans (hb3.mono hb2'.size)
  obtain ⟨A3, c3, rfl⟩ := own_form ho3
  clear HC
  go_wp2
  go_ret2
  have hb4 := below_alloc1 w3 (.cells #[.slice A3 o.length c3, .pointer (some ⟨ab, 0, none⟩)] 56 (0, 0))
  exact ⟨_, ab, bm, _, rfl, ⟨heap_alloc_new _ _, own_more (owns_below ho3 hb4) hb2'.size, (hA3.below hb4).more hb1.size, ArOk.nil6 room hr, RSt.nil, LSt.nil _, ho, h8⟩, hb3'.trans (hb4.mono hb3'.size)⟩
end Go.Proofs.Ytfamdckaljniiaa
