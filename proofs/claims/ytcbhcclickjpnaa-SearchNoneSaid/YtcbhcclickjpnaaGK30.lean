/- Package search: which columns belong together (the leads of parts). Package search: the groups of rows that parts makes, in memory, and the map of their places. -/
import Derived.Test.YtcbhcclickjpnaaGKxPqPrc15
import Derived.Maps.OwnSet
namespace Go.Proofs.Ytcbhcclickjpnaa
open Go.RowKit Go.Joins

/-- Where each column leads to, the column at its end, and how far it is off. -/
structure Lds (n : Nat) (L ρ d : Nat → Nat) : Prop where
  lt : ∀ x, x < n → L x < n
  rlt : ∀ x, x < n → ρ x < n
  fix : ∀ x, x < n → L (ρ x) = ρ x
  same : ∀ x, x < n → ρ (L x) = ρ x
  root : ∀ x, x < n → L x = x → ρ x = x
  down : ∀ x, x < n → L x ≠ x → d (L x) < d x
def updN (L : Nat → Nat) (a v x : Nat) : Nat := if x = a then v else L x
theorem Lds.half {n x : Nat} {L ρ d : Nat → Nat} (h : Lds n L ρ d) (hx : x < n) (hn : L x ≠ x) : Lds n (updN L x (L (L x))) ρ d := by
  have hl := h.lt x hx
  have hd : d (L (L x)) ≤ d (L x) := by
    by_cases e : L (L x) = L x
    · rw [e]; exact Nat.le_refl _
    · exact Nat.le_of_lt (h.down _ hl e)
  have hd2 := h.down x hx hn
  refine ⟨fun y hy => ?_, h.rlt, fun y hy => ?_, fun y hy => ?_, fun y hy he => ?_, fun y hy he => ?_⟩
  · unfold updN; split
    · exact h.lt _ hl
    · exact h.lt _ hy
  · unfold updN
    rw [if_neg (fun e => hn (by have := h.fix y hy; rw [e] at this; exact this))]
    exact h.fix y hy
  · unfold updN; split
    · rename_i e
      rw [h.same _ hl, h.same _ hx, e]
    · exact h.same y hy
  · unfold updN at he
    split at he
    · rename_i e
      rw [e] at he
      rw [he] at hd
      omega
    · exact h.root y hy he
  · unfold updN at he ⊢
    by_cases e : y = x
    · rw [if_pos e]
      rw [e]
      omega
    · rw [if_neg e] at he ⊢
      exact h.down y hy he
theorem Lds.join {n a b : Nat} {L ρ d : Nat → Nat} (h : Lds n L ρ d) (ha : a < n) (hb : b < n) (ea : L a = a) (eb : L b = b) :
    Lds n (updN L a b) (fun y => if ρ y = a then b else ρ y) (fun y => if ρ y = a then d y + d b + 1 else d y) := by
  have ra := h.root a ha ea
  have rb := h.root b hb eb
  refine ⟨fun y hy => ?_, fun y hy => ?_, fun y hy => ?_, fun y hy => ?_, fun y hy he => ?_, fun y hy he => ?_⟩
  · unfold updN; split
    · exact hb
    · exact h.lt _ hy
  · split
    · exact hb
    · exact h.rlt _ hy
  · unfold updN
    by_cases e : ρ y = a
    · rw [if_pos e]
      split
      · rfl
      · exact eb
    · rw [if_neg e, if_neg e]; exact h.fix y hy
  · unfold updN
    by_cases e : y = a
    · rw [if_pos e, e, ra, if_pos rfl, rb]
      split <;> rfl
    · rw [if_neg e, h.same y hy]
  · unfold updN at he
    by_cases e : y = a
    · rw [if_pos e] at he
      rw [e, ra, if_pos rfl]
      omega
    · rw [if_neg e] at he
      have := h.root y hy he
      rw [this, if_neg e]
  · unfold updN at he ⊢
    by_cases e : y = a
    · rw [if_pos e] at he ⊢
      have hba : ¬ b = a := fun h => he (by rw [h, e])
      rw [rb, if_neg hba, e, ra, if_pos rfl]
      omega
    · rw [if_neg e] at he ⊢
      rw [h.same y hy]
      have := h.down y hy he
      split <;> omega
theorem Lds.start (n : Nat) : Lds n (fun x => x) (fun x => x) fun _ => 0 :=
  ⟨fun _ h => h, fun _ h => h, fun _ _ => rfl, fun _ _ => rfl, fun _ _ _ => rfl, fun _ _ h => absurd rfl h⟩
def ldsO (n : Nat) (L : Nat → Nat) : Obj := celO 3 n fun p => .int .i64 (L p : Nat)
theorem lds_set {n a v bl : Nat} {L : Nat → Nat} {w : World} (h : w.heap[bl]? = some (ldsO n L)) : (w.setCell ⟨bl, a, none⟩ (.int .i64 (v : Nat))).heap[bl]? = some (ldsO n (updN L a v)) := by
  refine (cel_set h _).trans (congrArg some (celO_ext fun z hz => ?_))
  unfold updN
  split <;> rfl
theorem grown_trans15 {w w1 w2 : World} {ob : Option Nat} (h : w.grownBy w1 ob) (hb : Below w1.heap.size w1 w2) : w.grownBy w2 ob :=
  ⟨hb.os.trans h.os, hb.tape.trans h.tape, hb.output.trans h.output, Nat.le_trans h.size hb.size, fun b hl hne => (hb.block b (Nat.lt_of_lt_of_le hl h.size)).trans (h.block b hl hne)⟩
set_option maxHeartbeats 2000000 in
set_option maxRecDepth 100000 in
theorem lead15_any (n bx bl c : Nat) (L ρ d : Nat → Nat) (w : World) (hx : w.heap[bx]? = some (.cells #[.slice (some ⟨bl, 0, none⟩) n n] 30 (0, 0))) (hl : w.heap[bl]? = some (ldsO n L)) (hU : Lds n L ρ d) (hc : c < n) (_hn : n ≤ 4000) :
    Calls Try.prog 83 #[.int .i64 c, .pointer (some ⟨bx, 0, none⟩)] w fun e w' => ∃ L', e = .returned (.int .i64 (ρ c : Nat)) ∧ Lds n L' ρ d ∧ w'.heap[bl]? = some (ldsO n L') ∧ w.grownBy w' (some bl) ∧ L' (ρ c) = ρ c := by
  have hne : bx ≠ bl := fun e => by rw [e, hl] at hx; exact absurd hx (by unfold ldsO celO; simp)
  have hxs := size_of_block hx
  have hls := size_of_block hl
  have hUH := Lib.hid (And.intro hU hc)
  clear hU
  go_enter Try.func83, Try.ntmps83
  go_wp2
  go_loopw [0] (fun t wr => ∃ (x : Nat) (L' : Nat → Nat), t = .int .i64 x ∧ x < n ∧ ρ x = ρ c ∧ Lds n L' ρ d ∧ wr.heap[bl]? = some (ldsO n L') ∧ w.grownBy wr (some bl)) (fun t _ => d (intOf t).toNat)
  case atStart => exact ⟨c, L, rfl, hc, rfl, hUH.out.1, hl, ⟨rfl, rfl, rfl, Nat.le_refl _, fun _ _ _ => rfl⟩⟩
  case round =>
    clear hl hc
    obtain ⟨x, L1, rfl, hxn, hρ, hU, hl, hg⟩ := hrel
    have hx1 := (hg.block _ hxs (fun e => hne (Option.some.inj e))).trans hx
    obtain ⟨a0, -⟩ := now1_15 hx1
    obtain ⟨y0, yf⟩ := cel_cell hl hxn
    have hLx := hU.lt x hxn
    obtain ⟨z0, zf⟩ := cel_cell hl hLx
    have hLLx := hU.lt _ hLx
    have x0 : (0 : Int) ≤ (x : Int) := by omega
    have x1 : (x : Int) < (n : Int) := by omega
    have q0 : (0 : Int) ≤ ((L1 x : Nat) : Int) := by omega
    have q1 : ((L1 x : Nat) : Int) < (n : Int) := by omega
    have hLH := Lib.hid (And.intro hU (And.intro hl hg))
    have hUp := fun hne2 => hU.half hxn hne2
    have hl2 := lds_set (a := x) (v := L1 (L1 x)) hl
    by_cases hr : L1 x = x
    · have hρx := hU.root x hxn hr
      have hfx : L1 (ρ c) = ρ c := by rw [← hρ, hρx]; exact hr
      have hkd : ¬ ((L1 x : Nat) : Int) ≠ (x : Int) := by rw [hr]; exact fun h => h rfl
      have hret : Hid ((x : Int) = (ρ c : Nat)) := Lib.hid (by rw [← hρ, hρx])
      clear hUp hl2 z0 zf hl hg hU hx hx1
      rw [hr] at y0
      go_wp2
      go_ret
      exact ⟨L1, by rw [hret.out]; rfl, hLH.out.1, hLH.out.2.1, hLH.out.2.2, hfx⟩
    · have hkd : ((L1 x : Nat) : Int) ≠ (x : Int) := by omega
      have hU2 := hUp hr
      have hds := hU.down x hxn hr
      have hls1 := size_of_block hl
      have A0 := fun x3 : After wr => (x3.2.cell (p := ⟨bx, 0, none⟩) (size_of_block hx1)).trans a0
      have Y0 := fun x3 : After wr => (x3.2.cell (p := ⟨bl, x, none⟩) hls1).trans y0
      have Z0 := fun x3 : After wr => (x3.2.cell (p := ⟨bl, L1 x, none⟩) hls1).trans z0
      have hxH := Lib.hid hx1
      clear hx hx1
      go_wp2
      refine wp_region_after_tail 10 (by kernel_rfl) (by kernel_rfl) ?_
      simp only [List.take_succ_cons, List.take_zero, List.drop_succ_cons, List.drop_zero]
      repeat (first | go_big_quiet_step (fail))
      refine wpQuiet_nil ?_
      rintro ⟨w3, hb3⟩
      dsimp only
      have hl3 := keep_blk hb3 hl
      have hx3 := keep_blk hb3 hxH.out
      have hg3 := grown_trans15 hg hb3
      have hl4 := lds_set (a := x) (v := L1 (L1 x)) hl3
      have hx4 : (w3.setCell ⟨bl, x, none⟩ (.int .i64 (L1 (L1 x) : Nat))).heap[bx]? = _ := cel_other hx3 hne
      have hg4 := grown_set (j := x) (u := .int .i64 (L1 (L1 x) : Nat)) hg3
      obtain ⟨y3, f3⟩ := cel_cell hl3 hxn
      obtain ⟨a4, -⟩ := now1_15 hx4
      obtain ⟨y4, -⟩ := cel_cell hl4 hxn
      rw [show updN L1 x (L1 (L1 x)) x = L1 (L1 x) from by unfold updN; rw [if_pos rfl]] at y4
      have hn2 : L1 (L1 x) < n := hLLx
      have hUU := Lib.hid (And.intro hU2 (And.intro hl4 hg4))
      have hds2 : d (L1 (L1 x)) < d x := by
        by_cases e : L1 (L1 x) = L1 x
        · rw [e]; exact hds
        · exact Nat.lt_trans (hU.down _ hLx e) hds
      have hρ2 : Hid (ρ (L1 (L1 x)) = ρ c) := Lib.hid (by rw [hU.same _ hLx, hU.same _ hxn, hρ])
      clear hUp hl2 hl hg hl3 hg3 hx3 hl4 hx4 hg4 hb3 A0 Y0 Z0 a0 y0 z0 yf zf hU hU2 hxH hLH
      generalize L1 (L1 x) = z at *
      go_wp2
      go_roundw
      case rel => exact ⟨z, _, by go_num, hn2, hρ2.out, hUU.out.1, hUU.out.2.1, hUU.out.2.2⟩
      case measure => simp [intOf]; omega
end Go.Proofs.Ytcbhcclickjpnaa
namespace Go.Proofs.Ytcbhcclickjpnaa
open Go.RowKit Go.Joins
open Go.Maps (Keyed)

/-! ### The groups -/
def keyR (ρ : Nat → Nat) (z : RV) : Nat := ρ (z.1.getD 0 0).toNat
def grpZ (ρ : Nat → Nat) (P : List RV) (k : Nat) : List RV := P.filter fun z => keyR ρ z == k
theorem grpZ_hit {ρ : Nat → Nat} {P : List RV} {j k : Nat} {z : RV} (h : P[j]? = some z) (e : keyR ρ z = k) : grpZ ρ (P.take (j + 1)) k = grpZ ρ (P.take j) k ++ [z] := by
  unfold grpZ
  rw [List.take_add_one, h, List.filter_append]
  congr 1
  show List.filter _ [z] = [z]
  rw [List.filter_cons, if_pos (by simp [e])]; rfl
theorem grpZ_miss {ρ : Nat → Nat} {P : List RV} {j k : Nat} {z : RV} (h : P[j]? = some z) (e : keyR ρ z ≠ k) : grpZ ρ (P.take (j + 1)) k = grpZ ρ (P.take j) k := by
  unfold grpZ
  rw [List.take_add_one, h, List.filter_append]
  show _ ++ List.filter _ [z] = _
  rw [List.filter_cons, if_neg (by simp [e])]
  exact List.append_nil _
/-- The keys that were met. -/
structure KeysI (ρ : Nat → Nat) (P : List RV) (K : List Nat) : Prop where
  nodup : K.Nodup
  mem : ∀ k, k ∈ K ↔ ∃ z, z ∈ P ∧ keyR ρ z = k
theorem KeysI.nil (ρ : Nat → Nat) : KeysI ρ [] [] := ⟨List.nodup_nil, fun k => by simp⟩
theorem KeysI.old {ρ : Nat → Nat} {P : List RV} {K : List Nat} {j : Nat} {z : RV} (h : KeysI ρ (P.take j) K) (hz : P[j]? = some z) (hm : keyR ρ z ∈ K) : KeysI ρ (P.take (j + 1)) K :=
  ⟨h.nodup, fun k => by
    rw [List.take_add_one, hz, h.mem]
    constructor
    · rintro ⟨y, hy, e⟩; exact ⟨y, List.mem_append_left _ hy, e⟩
    · rintro ⟨y, hy, e⟩
      rcases List.mem_append.1 hy with hy | hy
      · exact ⟨y, hy, e⟩
      · rw [List.mem_singleton.1 (show y ∈ [z] from hy)] at e
        rw [← e]
        exact (h.mem _).1 hm⟩
theorem KeysI.new {ρ : Nat → Nat} {P : List RV} {K : List Nat} {j : Nat} {z : RV} (h : KeysI ρ (P.take j) K) (hz : P[j]? = some z) (hm : keyR ρ z ∉ K) : KeysI ρ (P.take (j + 1)) (K ++ [keyR ρ z]) :=
  ⟨List.nodup_append.2 ⟨h.nodup, by simp, fun a ha b hb e => hm (by rw [List.mem_singleton] at hb; rw [← hb, ← e]; exact ha)⟩, fun k => by
    rw [List.take_add_one, hz, List.mem_append, h.mem, List.mem_singleton]
    constructor
    · rintro (⟨y, hy, e⟩ | e)
      · exact ⟨y, List.mem_append_left _ hy, e⟩
      · exact ⟨z, List.mem_append_right _ (by simp), e.symm⟩
    · rintro ⟨y, hy, e⟩
      rcases List.mem_append.1 hy with hy | hy
      · exact .inl ⟨y, hy, e⟩
      · rw [List.mem_singleton.1 (show y ∈ [z] from hy)] at e
        exact .inr e.symm⟩
def grpsZ (ρ : Nat → Nat) (P : List RV) (K : List Nat) : List (List RV) := K.map (grpZ ρ P)
theorem grps_step {ρ : Nat → Nat} {P : List RV} {K : List Nat} {j i : Nat} {z : RV} (hn : K.Nodup) (hz : P[j]? = some z) (hi : K[i]? = some (keyR ρ z)) :
    grpsZ ρ (P.take (j + 1)) K = (grpsZ ρ (P.take j) K).set i (grpZ ρ (P.take j) (keyR ρ z) ++ [z]) := by
  obtain ⟨hil, hik⟩ := List.getElem?_eq_some_iff.1 hi
  refine List.ext_getElem? fun m => ?_
  unfold grpsZ
  rw [List.getElem?_set]
  by_cases e : i = m
  · subst e
    rw [if_pos rfl, List.length_map, if_pos hil, List.getElem?_map, hi]
    exact congrArg some (grpZ_hit hz rfl)
  · rw [if_neg e, List.getElem?_map, List.getElem?_map]
    cases hm : K[m]? with
    | none => rfl
    | some k =>
      refine congrArg some (grpZ_miss hz fun e2 => False.elim ?_)
      obtain ⟨hml, hmk⟩ := List.getElem?_eq_some_iff.1 hm
      rcases Nat.lt_or_gt_of_ne e with h3 | h3
      · exact absurd (hik.trans (e2.trans hmk.symm)) (List.pairwise_iff_getElem.1 hn i m hil hml h3)
      · exact absurd (hik.trans (e2.trans hmk.symm)).symm (List.pairwise_iff_getElem.1 hn m i hml hil h3)
theorem grps_new {ρ : Nat → Nat} {P : List RV} {K : List Nat} {k : Nat} (h : KeysI ρ P K) (hk : k ∉ K) : grpsZ ρ P (K ++ [k]) = grpsZ ρ P K ++ [[]] := by
  unfold grpsZ
  rw [List.map_append]
  congr 1
  show [grpZ ρ P k] = [[]]
  congr 1
  unfold grpZ
  rw [List.filter_eq_nil_iff]
  intro z hz e
  exact hk ((h.mem k).2 ⟨z, hz, by simpa using e⟩)
/-- The groups are parts of the rows. -/
theorem parts_of15 {ρ : Nat → Nat} {P : List RV} {K : List Nat} (h : KeysI ρ P K) (hcon : ∀ z, z ∈ P → ∀ x, x ∈ z.1 → ρ x.toNat = keyR ρ z) :
    PartsOk (P.map (·.1)) ((grpsZ ρ P K).map fun g => g.map (·.1)) := by
  have hin : ∀ k z, z ∈ grpZ ρ P k → z ∈ P ∧ keyR ρ z = k := fun k z hz => by
    obtain ⟨h1, h2⟩ := List.mem_filter.1 hz
    exact ⟨h1, by simpa using h2⟩
  refine ⟨fun r hr => ?_, fun p hp r hr => ?_, fun p hp => ?_, fun p hp => ?_, ?_⟩
  · obtain ⟨z, hz, rfl⟩ := List.mem_map.1 hr
    refine ⟨(grpZ ρ P (keyR ρ z)).map (·.1), List.mem_map.2 ⟨_, List.mem_map.2 ⟨_, (h.mem _).2 ⟨z, hz, rfl⟩, rfl⟩, rfl⟩, List.mem_map.2 ⟨z, List.mem_filter.2 ⟨hz, by simp⟩, rfl⟩⟩
  · obtain ⟨g, hg, rfl⟩ := List.mem_map.1 hp
    obtain ⟨k, hk, rfl⟩ := List.mem_map.1 hg
    obtain ⟨z, hz, rfl⟩ := List.mem_map.1 hr
    exact List.mem_map.2 ⟨z, (hin k z hz).1, rfl⟩
  · obtain ⟨g, hg, rfl⟩ := List.mem_map.1 hp
    obtain ⟨k, hk, rfl⟩ := List.mem_map.1 hg
    rw [List.length_map, List.length_map]
    exact List.length_filter_le _ _
  · obtain ⟨g, hg, rfl⟩ := List.mem_map.1 hp
    obtain ⟨k, hk, rfl⟩ := List.mem_map.1 hg
    obtain ⟨z, hz, e⟩ := (h.mem k).1 hk
    intro e2
    have : z.1 ∈ (grpZ ρ P k).map (·.1) := List.mem_map.2 ⟨z, List.mem_filter.2 ⟨hz, by simp [e]⟩, rfl⟩
    rw [e2] at this
    cases this
  · unfold grpsZ
    rw [List.map_map, List.pairwise_map]
    refine h.nodup.imp ?_
    intro a b hab r hr x hx s hs hxs
    obtain ⟨z, hz, rfl⟩ := List.mem_map.1 hr
    obtain ⟨y, hy, rfl⟩ := List.mem_map.1 hs
    obtain ⟨z1, z2⟩ := hin a z hz
    obtain ⟨y1, y2⟩ := hin b y hy
    have e1 := hcon z z1 x hx
    have e2 := hcon y y1 x hxs
    exact hab (by rw [← z2, ← y2, ← e1, ← e2])

/-! ### The map of the places -/
theorem Try.intKeyed15 : Keyed Try.prog 3 := Maps.int_keyed Try.underlying3
theorem keyc_int {a : Int} (h : (Lit.int .i64 a).wf = true) : keyOf Try.prog 3 (.int .i64 a) = some (.int .i64 a) := Maps.keyOf_int_mk Try.underlying3 h
theorem zeroInt15 (w : World) : (zeroValue 3).run Try.prog w = .ok (.int .i64 0) w := by kernel_rfl
def PlcM (w : World) (mm : Nat) (K : List Nat) (C : Nat) : Prop := ∃ (D : DataW Unit) (c : Nat), w.ownsMap Try.prog 3 (plainElem Try.prog 3) mm c D ∧ c ≤ C ∧
  (∀ k : Nat, Maps.has D (.int .i64 k) = true → k ∈ K) ∧ ∀ (i k : Nat), K[i]? = some k → Maps.has D (.int .i64 k) = true ∧ D.atKey (.int .i64 k) (.lit (.int .i64 0)) = .lit (.int .i64 i)
theorem PlcM.made (w : World) : PlcM (w.alloc (.map #[] 0)) w.heap.size [] 0 :=
  ⟨.map [], 0, World.ownsMap_made w _ _ _, Nat.le_refl _, fun k h => by simp [Maps.has] at h, fun i k h => by simp at h⟩
theorem PlcM.obj {w : World} {mm : Nat} {K : List Nat} {C : Nat} (h : PlcM w mm K C) : ∃ es clock, w.heap[mm]? = some (.map es clock) := by
  obtain ⟨D, c, ⟨es, clock, hm, _⟩, _⟩ := h; exact ⟨es, clock, hm⟩
theorem PlcM.lt {w : World} {mm : Nat} {K : List Nat} {C : Nat} (h : PlcM w mm K C) : mm < w.heap.size := by
  obtain ⟨es, clock, hm⟩ := h.obj; exact size_of_block hm
theorem PlcM.keep {w w' : World} {mm : Nat} {K : List Nat} {C : Nat} (h : PlcM w mm K C) (hb : w'.heap[mm]? = w.heap[mm]?) : PlcM w' mm K C := by
  obtain ⟨D, c, ⟨es, clock, hm, r⟩, ht⟩ := h
  exact ⟨D, c, ⟨es, clock, hb.trans hm, r⟩, ht⟩
theorem PlcM.below {w w' : World} {mm : Nat} {K : List Nat} {C : Nat} (h : PlcM w mm K C) (hb : Below w.heap.size w w') : PlcM w' mm K C := h.keep (hb.block _ h.lt)
theorem PlcM.ne {w : World} {mm b : Nat} {K : List Nat} {C : Nat} {A : Array Value} {T : TypeId} {z : Nat × Nat} (h : PlcM w mm K C) (hb : w.heap[b]? = some (.cells A T z)) : b ≠ mm := fun e => by
  obtain ⟨es, clock, hm⟩ := h.obj
  rw [e, hm] at hb
  injection hb with hb
  cases hb
set_option maxRecDepth 100000 in
theorem PlcM.look {w : World} {mm : Nat} {K : List Nat} {C : Nat} (h : PlcM w mm K C) {k : Nat} (hk : k ≤ 4000) :
    ∃ (c : Int) (b : Bool), (Instr.lookup 105 (.map (some mm)) (.int .i64 k) true).run Try.prog w = .ok (.tuple #[.int .i64 c, .bool b]) w ∧ (b = true → ∃ i : Nat, K[i]? = some k ∧ c = i) ∧ (b = false → k ∉ K) := by
  obtain ⟨D, n, ho, hkk, h1, h2⟩ := h
  have hwf : (Lit.int .i64 (k : Int)).wf = true := WalkArith.wf_i64 (by omega)
  obtain ⟨v, ps, hrun, hv⟩ := ho.look_ok Try.intKeyed15 Try.underlying105 (zeroInt15 w) (plainElem_int Try.underlying3 (by decide)) (keyc_int hwf)
  obtain ⟨c, rfl, hc, _⟩ := plainElem_int_inv Try.underlying3 hv
  simp only [Prod.mk.injEq] at hc
  refine ⟨c, _, hrun, fun hb => ?_, fun hb hm => ?_⟩
  · obtain ⟨i, hi⟩ := List.mem_iff_getElem?.1 (h1 k hb)
    obtain ⟨-, h3⟩ := h2 i k hi
    rw [hc.1] at h3
    injection h3 with h3
    injection h3 with _ h3
    exact ⟨i, hi, h3⟩
  · obtain ⟨i, hi⟩ := List.mem_iff_getElem?.1 hm
    rw [(h2 i k hi).1] at hb
    cases hb
set_option maxRecDepth 100000 in
theorem PlcM.store {w : World} {mm : Nat} {K : List Nat} {C : Nat} (h : PlcM w mm K C) (hC : C ≤ 1000000) {k : Nat} (hk : k ≤ 4000) (hn : k ∉ K) (hK : K.length ≤ 4000) :
    ∃ w', (Instr.mapUpdate 105 (.map (some mm)) (.int .i64 k) (.int .i64 (K.length : Nat))).run Try.prog w = .ok () w' ∧ PlcM w' mm (K ++ [k]) (C + 1) ∧ w.mapTurned w' mm := by
  obtain ⟨D, n, ho, hkk, h1, h2⟩ := h
  have hwf : (Lit.int .i64 (k : Int)).wf = true := WalkArith.wf_i64 (by omega)
  obtain ⟨w', hrun, hown, hturn⟩ := ho.store Try.intKeyed15 Try.underlying105 (by unfold maxLen; omega) (keyc_int hwf) (plainElem_int Try.underlying3 (WalkArith.wf_i64 (n := ((K.length : Nat) : Int)) (by omega)))
  have hT := ho.tidy Try.intKeyed15
  have hkey : WideAt.IsKeyLit (.int .i64 (k : Int)) := Try.intKeyed15.key (keyc_int hwf)
  have hne : ∀ m : Nat, m ≠ k → (Lit.int .i64 (m : Int)) ≠ Lit.int .i64 (k : Int) := fun m hm y => by injection y with _ y; omega
  refine ⟨w', hrun, ⟨_, _, hown, by omega, fun m hm => ?_, fun i m hi => ?_⟩, hturn⟩
  · by_cases e : m = k
    · rw [e]; simp
    · rw [Maps.has_put_other (hne m e)] at hm
      exact List.mem_append_left _ (h1 m hm)
  · by_cases hil : i < K.length
    · rw [List.getElem?_append_left hil] at hi
      have e : m ≠ k := fun e => hn (by rw [← e]; exact List.mem_of_getElem? hi)
      rw [Maps.has_put_other (hne m e), Maps.atKey_put_other (hne m e)]
      exact h2 i m hi
    · have hi2 := (List.getElem?_eq_some_iff.1 hi).1
      rw [List.length_append] at hi2
      have e : i = K.length := by have : [k].length = 1 := rfl; omega
      subst e
      have e2 : m = k := by simpa using hi.symm
      subst e2
      exact ⟨Maps.has_put_same hT.isMap hkey _, Maps.atKey_put_same hT.isMap hkey _ _⟩
theorem wpList_store_plc (w : World) {ops : Array Oper} {rest : List Oper} {o : Oper} {a : Act} {Q : Exit → Act → World → Prop}
    (hg : o.guard = none) (m x v : Operand) (hop : o.op = Op.mapUpdate 105 m x v) (mm : Nat) (K : List Nat) (C k : Nat) (hm : a.eval m = .map (some mm)) (hx : a.eval x = .int .i64 k) (hv : a.eval v = .int .i64 (K.length : Nat))
    (h : PlcM w mm K C) (hC : C ≤ 1000000) (hk : k ≤ 4000) (hn : k ∉ K) (hK : K.length ≤ 4000)
    (hQ : ∀ w', PlcM w' mm (K ++ [k]) (C + 1) → w.mapTurned w' mm → wpList Try.prog ops Q rest (a.put o.dst undef) w') : wpList Try.prog ops Q (o :: rest) a w := by
  refine wpList_plain hg fun K' hK' => ?_
  obtain ⟨w', hrun, r1, r2⟩ := h.store hC hk hn hK
  unfold Oper.wp
  simp [execOp, hop, hm, hx, hv, hrun, Result.andThen]
  exact hK' _ _ (hQ w' r1 r2)

/-! ### The groups in memory -/
structure GrM (W : World) (B n : Nat) (AV : Value) (Us : List Value) (Gs : List (List RV)) : Prop where
  len : Us.length = Gs.length
  own : W.ownsRow B 24 2 AV Gs.length (Us.flatMap fun u => [.int .i64 n, u])
  each : ∀ (i : Nat) (U : Value) (g : List RV), Us[i]? = some U → Gs[i]? = some g → W.ownsRow B 30 1 U g.length (g.map (·.2))
  apart : ∀ (i j : Nat) (U V : Value) (b : Nat), i ≠ j → Us[i]? = some U → Us[j]? = some V → U.ownBlock = some b → V.ownBlock ≠ some b
theorem own_some15 {w : World} {base size n : Nat} {e : TypeId} {v : Value} {xs : List Value} (h : w.ownsRow base e size v n xs) (hn : 0 < n) : ∃ g c, v = .slice (some ⟨g, 0, none⟩) n c := by
  rcases h.2 with ⟨hv, h0⟩ | ⟨g, cap, cur, hv, _⟩
  · omega
  · exact ⟨_, _, hv⟩
theorem GrM.nil (W : World) (B n : Nat) : GrM W B n (.slice none 0 0) [] [] := ⟨rfl, World.ownsRow_nil _ _ _ _, fun i U g h => by simp at h, fun i j U V b _ h => by simp at h⟩
theorem GrM.keep {W W' : World} {B n : Nat} {AV : Value} {Us : List Value} {Gs : List (List RV)} (h : GrM W B n AV Us Gs) (hk : ∀ b, B ≤ b → b < W.heap.size → W'.heap[b]? = W.heap[b]?) : GrM W' B n AV Us Gs :=
  ⟨h.len, own_keep h.own fun g _ h1 h2 => hk g h1 h2, fun i U g h1 h2 => own_keep (h.each i U g h1 h2) fun b _ h3 h4 => hk b h3 h4, h.apart⟩
theorem GrM.at {W : World} {B n i : Nat} {AV : Value} {Us : List Value} {Gs : List (List RV)} (h : GrM W B n AV Us Gs) (hi : i < Gs.length) : ∃ U g, Us[i]? = some U ∧ Gs[i]? = some g :=
  ⟨_, _, List.getElem?_eq_getElem (by rw [h.len]; exact hi), List.getElem?_eq_getElem hi⟩
/-- A group more. -/
theorem GrM.more {W W' : World} {B n : Nat} {AV AV' : Value} {Us : List Value} {Gs : List (List RV)} (h : GrM W B n AV Us Gs)
    (ho : W'.ownsRow B 24 2 AV' (Gs.length + 1) ((Us.flatMap fun u => [.int .i64 n, u]) ++ [.int .i64 n, .slice none 0 0])) (hg : W.grownBy W' AV.ownBlock) : GrM W' B n AV' (Us ++ [.slice none 0 0]) (Gs ++ [[]]) := by
  refine ⟨by rw [List.length_append, List.length_append, h.len]; rfl, by rw [List.length_append, List.flatMap_append]; exact ho, fun i U g h1 h2 => ?_, fun i j U V b hne h1 h2 h3 => ?_⟩
  · by_cases hi : i < Gs.length
    · rw [List.getElem?_append_left (by rw [h.len]; exact hi)] at h1
      rw [List.getElem?_append_left hi] at h2
      exact own_kept15 (h.each i U g h1 h2) h.own (by decide) hg
    · have hi2 := (List.getElem?_eq_some_iff.1 h2).1
      have e : i = Gs.length := by rw [List.length_append] at hi2; have : ([[]] : List (List RV)).length = 1 := rfl; omega
      subst e
      have e1 : U = .slice none 0 0 := by rw [← h.len] at h1; simpa using h1.symm
      have e2 : g = [] := by simpa using h2.symm
      subst e1; subst e2
      exact World.ownsRow_nil _ _ _ _
  · by_cases hi : i < Us.length
    · by_cases hj : j < Us.length
      · rw [List.getElem?_append_left hi] at h1
        rw [List.getElem?_append_left hj] at h2
        exact h.apart i j U V b hne h1 h2 h3
      · have hj2 := (List.getElem?_eq_some_iff.1 h2).1
        have e : j = Us.length := by rw [List.length_append] at hj2; have : ([Value.slice none 0 0] : List Value).length = 1 := rfl; omega
        subst e
        have e1 : V = .slice none 0 0 := by simpa using h2.symm
        subst e1
        intro e; cases e
    · have hi2 := (List.getElem?_eq_some_iff.1 h1).1
      have e : i = Us.length := by rw [List.length_append] at hi2; have : ([Value.slice none 0 0] : List Value).length = 1 := rfl; omega
      subst e
      have e1 : U = .slice none 0 0 := by simpa using h1.symm
      subst e1
      cases h3
theorem flat2_len (n : Nat) (Us : List Value) : (Us.flatMap fun u => [Value.int .i64 n, u]).length = Us.length * 2 := by
  induction Us with
  | nil => rfl
  | cons u Us ih => simp only [List.flatMap_cons, List.length_append, ih, List.length_cons, List.length_nil]; omega
theorem flat2_get (n : Nat) : ∀ (Us : List Value) (i : Nat) (U : Value), Us[i]? = some U → (Us.flatMap fun u => [Value.int .i64 n, u])[i * 2]? = some (.int .i64 n) ∧ (Us.flatMap fun u => [Value.int .i64 n, u])[i * 2 + 1]? = some U
  | [], _, _, h => by simp at h
  | u :: Us, 0, U, h => by
    have e : u = U := by simpa using h
    subst e
    exact ⟨rfl, rfl⟩
  | u :: Us, i + 1, U, h => by
    obtain ⟨h1, h2⟩ := flat2_get n Us i U (by simpa using h)
    have e : (i + 1) * 2 = i * 2 + 1 + 1 := by omega
    rw [List.flatMap_cons, e]
    exact ⟨h1, h2⟩
theorem flat2_set (n : Nat) (V : Value) : ∀ (Us : List Value) (i : Nat), (Us.flatMap fun u => [Value.int .i64 n, u]).set (i * 2 + 1) V = (Us.set i V).flatMap fun u => [Value.int .i64 n, u]
  | [], _ => by simp
  | u :: Us, 0 => by simp
  | u :: Us, i + 1 => by
    have e : (i + 1) * 2 + 1 = i * 2 + 1 + 1 + 1 := by omega
    rw [List.flatMap_cons, e, List.set_cons_succ]
    have ih := flat2_set n V Us i
    simp only [List.cons_append, List.nil_append, List.set_cons_succ, List.flatMap_cons, ih]
/-- A row more in a group. -/
theorem GrM.push {W W1 : World} {B n i b c : Nat} {U U' : Value} {g : List RV} {z : RV} {Us : List Value} {Gs : List (List RV)} (h : GrM W B n (.slice (some ⟨b, 0, none⟩) Gs.length c) Us Gs) (hU : Us[i]? = some U) (hG : Gs[i]? = some g)
    (ho : W1.ownsRow B 30 1 U' (g.length + 1) (g.map (·.2) ++ [z.2])) (hg : W.grownBy W1 U.ownBlock) (hnew : ∀ q, U'.ownBlock = some q → U.ownBlock = some q ∨ W.heap.size ≤ q) :
    GrM (W1.setCell ⟨b, i * 2 + 1, none⟩ U') B n (.slice (some ⟨b, 0, none⟩) Gs.length c) (Us.set i U') (Gs.set i (g ++ [z])) := by
  have hil := (List.getElem?_eq_some_iff.1 hU).1
  have hown1 : W1.ownsRow B 24 2 (.slice (some ⟨b, 0, none⟩) Gs.length c) Gs.length (Us.flatMap fun u => [.int .i64 n, u]) := own_kept15 h.own (h.each i U g hU hG) (by decide) hg
  have hoth : ∀ (j : Nat) (V : Value), i ≠ j → (Us.set i U')[j]? = some V → Us[j]? = some V := fun j V hne hV => by rwa [List.getElem?_set, if_neg hne] at hV
  have hsame : ∀ V, (Us.set i U')[i]? = some V → V = U' := fun V hV => by
    rw [List.getElem?_set, if_pos rfl, if_pos hil] at hV
    exact (Option.some.inj hV).symm
  have hb : ∀ (j : Nat) (V : Value) (q : Nat), i ≠ j → Us[j]? = some V → V.ownBlock = some q → U'.ownBlock ≠ some q := fun j V q hne hV hq e => by
    rcases hnew q e with h1 | h1
    · exact h.apart i j U V q hne hU hV h1 hq
    · obtain ⟨g2, hg2⟩ : ∃ g2, Gs[j]? = some g2 := ⟨_, List.getElem?_eq_getElem (by rw [← h.len]; exact (List.getElem?_eq_some_iff.1 hV).1)⟩
      have := ((h.each j V g2 hV hg2).lt q hq).2
      omega
  refine ⟨by rw [List.length_set, List.length_set, h.len], ?_, fun j V g2 h1 h2 => ?_, fun j k V V2 q hne h1 h2 h3 => ?_⟩
  · rw [List.length_set]
    have := (hown1.stored (i * 2 + 1) U').1
    rwa [flat2_set] at this
  · have hbt : ∀ {V : Value} {m : Nat} {xs : List Value}, W1.ownsRow B 30 1 V m xs → V.ownBlock ≠ some b := fun hV e => own_apart14 hV hown1 (by decide) e rfl
    by_cases e : i = j
    · subst e
      rw [hsame V h1]
      rw [List.getElem?_set, if_pos rfl, if_pos (by rw [← h.len]; exact hil)] at h2
      rw [← Option.some.inj h2, List.length_append, List.map_append]
      exact own_set ho (hbt ho) _ _
    · have h1 := hoth j V e h1
      rw [List.getElem?_set, if_neg e] at h2
      have hV1 : W1.ownsRow B 30 1 V g2.length (g2.map (·.2)) := own_keep (h.each j V g2 h1 h2) fun q hq _ hq2 => hg.block q hq2 fun e2 => h.apart i j U V q e hU h1 e2.symm hq
      exact own_set hV1 (hbt hV1) _ _
  · by_cases ej : i = j
    · subst ej
      rw [hsame V h1] at h3
      intro e2
      exact hb k V2 q hne (hoth k V2 hne h2) e2 h3
    · by_cases ek : i = k
      · subst ek
        rw [hsame V2 h2]
        exact hb j V q ej (hoth j V ej h1) h3
      · exact h.apart j k V V2 q hne (hoth j V ej h1) (hoth k V2 ek h2) h3
/-- What parts tells: coverings in memory. -/
def PartsN (w : World) (N : Nat → Prop) (n : Nat) (v : Value) (ps : List (List (List Int))) : Prop :=
  ∃ A c, v = .slice A ps.length c ∧ ∀ (i : Nat) (p : List (List Int)), ps[i]? = some p → ∃ b rv, A = some ⟨b, 0, none⟩ ∧ N b ∧ b < w.heap.size ∧ w.cell? ⟨b, i * 2, none⟩ = some (.int .i64 n) ∧ w.cell? ⟨b, i * 2 + 1, none⟩ = some rv ∧ MatN w N rv p ∧ CapM w rv
theorem GrM.parts {w W : World} {B n : Nat} {AV : Value} {Us : List Value} {Gs : List (List RV)} {N N' : Nat → Prop} (h : GrM W B n AV Us Gs) (hz : ∀ g, g ∈ Gs → g.length ≤ 4000 ∧ ∀ z, z ∈ g → IntsN w N z.2 z.1 ∧ ∃ A n' c', z.2 = .slice A n' c' ∧ n' ≤ c')
    (hk : ∀ b, N b → W.heap[b]? = w.heap[b]?) (hN : ∀ b, N b → N' b) (hB : ∀ b, B ≤ b → b < W.heap.size → N' b) : PartsN W N' n AV (Gs.map fun g => g.map (·.1)) := by
  obtain ⟨A, c, rfl⟩ := own_form h.own
  refine ⟨A, c, by rw [List.length_map], fun i p hp => ?_⟩
  rw [List.getElem?_map] at hp
  cases hg : Gs[i]? with
  | none => rw [hg] at hp; cases hp
  | some g =>
    rw [hg] at hp
    have hp : g.map (·.1) = p := Option.some.inj hp
    subst hp
    have hil := (List.getElem?_eq_some_iff.1 hg).1
    obtain ⟨U, hU⟩ : ∃ U, Us[i]? = some U := ⟨_, List.getElem?_eq_getElem (by rw [h.len]; exact hil)⟩
    obtain ⟨b, cpB, eA⟩ := own_some15 h.own (by omega)
    injection eA with eA _ _
    subst eA
    obtain ⟨f1, f2⟩ := flat2_get n Us i U hU
    have hlt := h.own.lt b rfl
    have hoU := h.each i U g hU hg
    obtain ⟨hg4, hgz⟩ := hz g (List.mem_of_getElem? hg)
    refine ⟨b, U, rfl, hB b hlt.1 hlt.2, hlt.2, (h.own.cellAt (i * 2) (by omega)).trans f1, (h.own.cellAt (i * 2 + 1) (by omega)).trans f2, ?_, own_capM14 hoU (by rw [List.length_map]) fun v hv => ?_⟩
    · obtain ⟨AU, cU, rfl⟩ := own_form hoU
      refine ⟨AU, cU, by rw [List.length_map], by rw [List.length_map]; omega, fun h0 => ?_⟩
      rw [List.length_map] at h0
      obtain ⟨bU, cpU, eU⟩ := own_some15 hoU h0
      injection eU with eU _ _
      subst eU
      have hltU := hoU.lt bU rfl
      refine ⟨bU, 0, rfl, hB bU hltU.1 hltU.2, fun j l hj => ?_⟩
      rw [List.getElem?_map] at hj
      cases hzj : g[j]? with
      | none => rw [hzj] at hj; cases hj
      | some z =>
        rw [hzj] at hj
        have hj : z.1 = l := Option.some.inj hj
        subst hj
        have hjl := (List.getElem?_eq_some_iff.1 hzj).1
        refine ⟨z.2, ?_, ((hgz z (List.mem_of_getElem? hzj)).1.keep hk hN)⟩
        rw [Nat.zero_add, hoU.cellAt j (by omega), List.getElem?_map, hzj]
        rfl
    · obtain ⟨z, hzm, rfl⟩ := List.mem_map.1 hv
      exact (hgz z hzm).2
end Go.Proofs.Ytcbhcclickjpnaa
