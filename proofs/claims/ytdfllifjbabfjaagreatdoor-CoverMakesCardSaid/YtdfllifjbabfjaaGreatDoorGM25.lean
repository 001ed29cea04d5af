/- The map in which package cover keeps rows, by their texts; ordered hands them back in their order. A region that draws its order and ends in stores that wait for all the rest: ahead of these a load may be taken first where nobody ahead of the stores writes its cell; the stores themselves may write it. -/
import Derived.Test.YtdfllifjbabfjaaGreatDoorGM24
import Derived.Test.YtdfllifjbabfjaaGreatDoorGM04
import Derived.Deep.RegionHeld3
namespace Go.Proofs.YtdfllifjbabfjaaGreatDoor
open Go.RowKit Go.Joins
open Go.Maps (has string_keyed)

/-- Block b is a map that has just the rows of P, each at its text; what they read lies from block lo on. -/
def MapW (w : World) (lo b nn : Nat) (P : List Int → Prop) : Prop := ∃ D : DataW Value, w.ownsMap Tryz.prog 9 slW b nn D ∧ (∀ key : List UInt8, has D (.string key) = true ↔ ∃ x, P x ∧ key = textW x) ∧
  ∀ x, P x → (∀ c, c ∈ x → 0 ≤ c) ∧ ∃ s : SlW, (∀ zd, D.atKey (.string (textW x)) zd = .held (encW s)) ∧ IntsN w (fun g => lo ≤ g ∧ g < w.heap.size) (encW s) x
theorem MapW.made (w : World) (lo : Nat) : MapW (w.alloc (.map #[] 0)) lo w.heap.size 0 (fun _ => False) :=
  ⟨.map [], World.ownsMap_made w _ _ _, fun key => ⟨fun h => by simp [has] at h, fun ⟨x, h, _⟩ => h.elim⟩, fun x h => h.elim⟩
theorem MapW.below {w w' : World} {lo b nn : Nat} {P : List Int → Prop} (h : MapW w lo b nn P) (hb : Below w.heap.size w w') : MapW w' lo b nn P := by
  obtain ⟨D, ho, hk, hv⟩ := h
  have hl := ho.lt
  refine ⟨D, ?_, hk, fun x hx => ?_⟩
  · obtain ⟨es, clock, h1, F, hs, hD⟩ := ho
    exact ⟨es, clock, (hb.block b hl).trans h1, F, hs, hD⟩
  · obtain ⟨h0, s, hs, hi⟩ := hv x hx
    exact ⟨h0, s, hs, hi.keep (fun g hN => hb.block g hN.2) (fun g hN => ⟨hN.1, Nat.lt_of_lt_of_le hN.2 hb.size⟩)⟩
theorem MapW.of {w : World} {lo b nn : Nat} {P Q : List Int → Prop} (h : MapW w lo b nn P) (hPQ : ∀ x, P x ↔ Q x) : MapW w lo b nn Q := by
  have e : P = Q := funext fun x => propext (hPQ x)
  exact e ▸ h
theorem MapW.more {w : World} {lo b nn mm : Nat} {P : List Int → Prop} (h : MapW w lo b nn P) (hm : nn ≤ mm) : MapW w lo b mm P := by
  obtain ⟨D, ho, r⟩ := h
  exact ⟨D, ho.mono hm, r⟩
/-- Two worlds alike but for a block that holds no cells: what reads as numbers reads so. -/
theorem IntsAt.apart {w w' : World} {B B' b : Nat} {v : Value} {l : List Int} (h : IntsAt w B v l) (hk : ∀ k, k < w.heap.size → k ≠ b → w'.heap[k]? = w.heap[k]?) (hb : ∀ o, w.cell? ⟨b, o, none⟩ = none) (hB : B ≤ B') : IntsAt w' B' v l := by
  obtain ⟨A, c, e, hl, h⟩ := h
  refine ⟨A, c, e, hl, fun h0 => ?_⟩
  obtain ⟨g, off, eA, hg, hc⟩ := h h0
  refine ⟨g, off, eA, Nat.lt_of_lt_of_le hg hB, fun j x hx => ?_⟩
  have h1 := hc j x hx
  have hne : g ≠ b := fun e => by rw [e, hb] at h1; cases h1
  rw [World.cell?_of_block (w := w) (a := ⟨g, off + j, none⟩) (hk g (block_lt_of_cell h1) hne)]
  exact h1
theorem IntsN.apart {w w' : World} {lo b : Nat} {v : Value} {l : List Int} (h : IntsN w (fun g => lo ≤ g ∧ g < w.heap.size) v l) (hk : ∀ k, k < w.heap.size → k ≠ b → w'.heap[k]? = w.heap[k]?) (hb : ∀ o, w.cell? ⟨b, o, none⟩ = none) (hB : w.heap.size ≤ w'.heap.size) : IntsN w' (fun g => lo ≤ g ∧ g < w'.heap.size) v l := by
  obtain ⟨A, c, e, hl, h⟩ := h
  refine ⟨A, c, e, hl, fun h0 => ?_⟩
  obtain ⟨g, off, eA, hg, hc⟩ := h h0
  refine ⟨g, off, eA, ⟨hg.1, Nat.lt_of_lt_of_le hg.2 hB⟩, fun j x hx => ?_⟩
  have h1 := hc j x hx
  have hne : g ≠ b := fun e => by rw [e, hb] at h1; cases h1
  rw [World.cell?_of_block (w := w) (a := ⟨g, off + j, none⟩) (hk g (block_lt_of_cell h1) hne)]
  exact h1
/-- A row more is kept. -/
theorem MapW.put {w w' : World} {lo b nn : Nat} {P : List Int → Prop} {D : DataW Value} {x : List Int} {s : SlW} (ho : w.ownsMap Tryz.prog 9 slW b nn D) (hk : ∀ key : List UInt8, has D (.string key) = true ↔ ∃ x, P x ∧ key = textW x)
    (hv : ∀ x, P x → (∀ c, c ∈ x → 0 ≤ c) ∧ ∃ s : SlW, (∀ zd, D.atKey (.string (textW x)) zd = .held (encW s)) ∧ IntsN w (fun g => lo ≤ g ∧ g < w.heap.size) (encW s) x)
    (h0 : ∀ c, c ∈ x → 0 ≤ c) (hs : IntsN w (fun g => lo ≤ g ∧ g < w.heap.size) (encW s) x) (ho' : w'.ownsMap Tryz.prog 9 slW b (nn + 1) (D.put (.string (textW x)) (.held (encW s)))) (hg : w.grownBy w' (some b)) :
    MapW w' lo b (nn + 1) (fun y => P y ∨ y = x) := by
  have hb : ∀ o, w.cell? ⟨b, o, none⟩ = none := fun o => by
    obtain ⟨es, clock, h1, -⟩ := ho
    simp [World.cell?, h1]
  have hkk : ∀ k, k < w.heap.size → k ≠ b → w'.heap[k]? = w.heap[k]? := fun k hk hne => hg.block k hk (fun e => hne (by injection e))
  have hM := ho.isMap
  have hKL : ∀ y : List UInt8, WideAt.IsKeyLit (.string y) := fun y => trivial
  refine ⟨_, ho', fun key => ?_, fun y hy => ?_⟩
  · by_cases e : key = textW x
    · subst e
      rw [Maps.has_put_same hM (hKL _)]
      exact ⟨fun _ => ⟨x, .inr rfl, rfl⟩, fun _ => rfl⟩
    · rw [Maps.has_put_other (fun h => e (by injection h)), hk]
      constructor
      · rintro ⟨y, hy, rfl⟩
        exact ⟨y, .inl hy, rfl⟩
      · rintro ⟨y, hy | rfl, rfl⟩
        · exact ⟨y, hy, rfl⟩
        · exact absurd rfl e
  · by_cases e : y = x
    · subst e
      exact ⟨h0, s, fun zd => Maps.atKey_put_same hM (hKL _) _ _, hs.apart hkk hb hg.size⟩
    · have hP : P y := hy.elim id (fun h => absurd h e)
      obtain ⟨h1, s', hs', hi⟩ := hv y hP
      refine ⟨h1, s', fun zd => ?_, hi.apart hkk hb hg.size⟩
      rw [Maps.atKey_put_other (fun h => e (textW_inj h1 h0 (by injection h)))]
      exact hs' zd
open Classical in
/-- The row that a text is of. -/
noncomputable def rowW (P : List Int → Prop) (key : List UInt8) : List Int := if h : ∃ x, P x ∧ key = textW x then Classical.choose h else []
theorem rowW_of {P : List Int → Prop} {key : List UInt8} (h : ∃ x, P x ∧ key = textW x) : P (rowW P key) ∧ key = textW (rowW P key) := by
  unfold rowW
  rw [dif_pos h]
  exact Classical.choose_spec h
theorem encW_inj {s t : SlW} (h : encW s = encW t) : s = t := by
  obtain ⟨a, n, c⟩ := s
  obtain ⟨a', n', c'⟩ := t
  injection h with e1 e2 e3
  subst e1; subst e2; subst e3
  rfl
/-- All pairs that a map gives, with their rows. -/
theorem all_rows {w : World} {lo : Nat} {P : List Int → Prop} {D : DataW Value} {ps : List (List UInt8 × SlW)} (hk : ∀ key : List UInt8, has D (.string key) = true ↔ ∃ x, P x ∧ key = textW x)
    (hv : ∀ x, P x → (∀ c, c ∈ x → 0 ≤ c) ∧ ∃ s : SlW, (∀ zd, D.atKey (.string (textW x)) zd = .held (encW s)) ∧ IntsN w (fun g => lo ≤ g ∧ g < w.heap.size) (encW s) x) (hA : AllW D ps) (hn : (ps.map (·.1)).Nodup) :
    ∃ L : List PrW, (ps.map (·.2)) = L.map (·.1) ∧ (L.map (·.2)).Nodup ∧ (∀ x, x ∈ L.map (·.2) ↔ P x) ∧ ∀ p, p ∈ L → IntsN w (fun g => lo ≤ g ∧ g < w.heap.size) (encW p.1) p.2 := by
  have hr : ∀ p, p ∈ ps → P (rowW P p.1) ∧ p.1 = textW (rowW P p.1) := fun p hp => rowW_of ((hk _).1 ((hA.2.1 p.1).1 (List.mem_map.2 ⟨p, hp, rfl⟩)))
  refine ⟨ps.map fun p => (p.2, rowW P p.1), by rw [List.map_map]; rfl, ?_, fun x => ?_, fun q hq => ?_⟩
  · rw [List.map_map, List.nodup_iff_pairwise_ne, List.pairwise_map]
    rw [List.nodup_iff_pairwise_ne, List.pairwise_map] at hn
    refine hn.imp_of_mem fun {a b} ha hb hne e => hne ?_
    rw [(hr a ha).2, (hr b hb).2]
    exact congrArg textW e
  · rw [List.map_map, List.mem_map]
    constructor
    · rintro ⟨p, hp, rfl⟩
      exact (hr p hp).1
    · intro hx
      have h1 := (hA.2.1 (textW x)).2 ((hk _).2 ⟨x, hx, rfl⟩)
      obtain ⟨p, hp, e⟩ := List.mem_map.1 h1
      refine ⟨p, hp, ?_⟩
      exact textW_inj (hv _ (hr p hp).1).1 (hv x hx).1 ((hr p hp).2.symm.trans e)
  · obtain ⟨p, hp, rfl⟩ := List.mem_map.1 hq
    obtain ⟨h1, h2⟩ := hr p hp
    obtain ⟨-, s, hs, hi⟩ := hv _ h1
    have e : p.2 = s := by
      have h3 := hA.2.2 p hp (.nil)
      rw [h2, hs] at h3
      injection h3 with h3
      exact encW_inj h3.symm
    show IntsN w _ (encW p.2) (rowW P p.1)
    rw [e]
    exact hi
/-- A matrix that lies from block lo on. -/
def MatG (w : World) (lo : Nat) (v : Value) (ls : List (List Int)) : Prop :=
  ∃ A c, v = .slice A ls.length c ∧ ls.length ≤ 9223372036854775807 ∧
    (0 < ls.length → ∃ b off, A = some ⟨b, off, none⟩ ∧ (lo ≤ b ∧ b < w.heap.size) ∧ ∀ j l, ls[j]? = some l → ∃ ov, w.cell? ⟨b, off + j, none⟩ = some ov ∧ IntsN w (fun g => lo ≤ g ∧ g < w.heap.size) ov l)
theorem MatG.mat {w : World} {lo : Nat} {v : Value} {ls : List (List Int)} (h : MatG w lo v ls) : MatAt w w.heap.size v ls := by
  obtain ⟨A, c, e, hl, h⟩ := h
  refine ⟨A, c, e, hl, fun h0 => ?_⟩
  obtain ⟨b, off, eA, hB, hc⟩ := h h0
  refine ⟨b, off, eA, hB.2, fun j l hx => ?_⟩
  obtain ⟨ov, c0, hi⟩ := hc j l hx
  exact ⟨ov, c0, hi.ints (fun g hN => hN.2)⟩
/-- What is written ahead of block lo leaves it. -/
theorem MatG.keep {w w' : World} {lo : Nat} {v : Value} {ls : List (List Int)} (h : MatG w lo v ls) (hk : ∀ b, lo ≤ b → b < w.heap.size → w'.heap[b]? = w.heap[b]?) (hs : w.heap.size ≤ w'.heap.size) : MatG w' lo v ls := by
  obtain ⟨A, c, e, hl, h⟩ := h
  refine ⟨A, c, e, hl, fun h0 => ?_⟩
  obtain ⟨b, off, eA, hB, hc⟩ := h h0
  refine ⟨b, off, eA, ⟨hB.1, Nat.lt_of_lt_of_le hB.2 hs⟩, fun j l hx => ?_⟩
  obtain ⟨ov, c0, hi⟩ := hc j l hx
  exact ⟨ov, by rw [World.cell?_of_block (w := w) (a := ⟨b, off + j, none⟩) (hk b hB.1 hB.2)]; exact c0, hi.keep (fun g hN => hk g hN.1 hN.2) (fun g hN => ⟨hN.1, Nat.lt_of_lt_of_le hN.2 hs⟩)⟩
theorem MatG.of {w : World} {lo B : Nat} {V : Value} {K : List (List Int)} {vs : List Value} (hB : lo ≤ B) (ho : w.ownsRow B 45 1 V K.length vs) (h : ∀ (j : Nat) (l : List Int), K[j]? = some l → ∃ v, vs[j]? = some v ∧ IntsN w (fun g => lo ≤ g ∧ g < w.heap.size) v l) : MatG w lo V K := by
  rcases ho.2 with ⟨rfl, h0⟩ | ⟨g, cap, cur, rfl, hg, hgg, h1, h2, h3, h4⟩
  · have : K = [] := List.eq_nil_of_length_eq_zero h0
    subst this
    exact ⟨none, 0, rfl, by decide, fun h => absurd h (by simp)⟩
  · have hm : maxLen = 9223372036854775807 := rfl
    refine ⟨_, cap, rfl, by omega, fun _ => ⟨g, 0, rfl, ⟨by omega, size_of_block hgg⟩, fun j l hj => ?_⟩⟩
    obtain ⟨v, hv, hi⟩ := h j l hj
    refine ⟨v, ?_, hi⟩
    rw [cell_of_block hgg]
    rw [← h4, List.getElem?_take] at hv
    split at hv
    · simpa using hv
    · cases hv
set_option maxHeartbeats 1000000 in
set_option maxRecDepth 100000 in
theorem sorted13_any (w : World) (lo b nn Bm : Nat) (P : List Int → Prop) (hlo : lo ≤ w.heap.size) (hM : MapW w lo b nn P) (hnn : nn ≤ 1000000) (hm : w.heap[Bm]? = some (.cells #[.map (some b)] 54 (0, 0))) :
    Calls Tryz.prog 55 #[.func (.func 80) #[] #[.pointer (some ⟨Bm, 0, none⟩)], .func (.func 57) #[] #[]] w fun e w' =>
      ∃ v K, e = .returned v ∧ MatG w' lo v K ∧ K.Pairwise (fun a b => aheadL a b = true) ∧ (∀ x, x ∈ K ↔ P x) ∧ Below w.heap.size w w' := by
  obtain ⟨D, ho, hk, hv⟩ := hM
  have hsz := ho.size_le
  have hmx : maxLen = 9223372036854775807 := rfl
  have hseq := vals13_gives Fence.wide 1 trivial rfl (by omega) Bm b nn D w (size_of_block hm) (by rw [cell_of_block hm]; rfl) ho
  have eg : ∀ args w, (callFunc 80 args).run Tryz.prog w = .ok (.enter 80 args) w := enters_of Tryz.func80 (by kernel_rfl) rfl
  have HC := collect13_any w 80 #[.pointer (some ⟨Bm, 0, none⟩)] eg _ _ (by omega) (by omega) hseq
  have hnod : ∀ ps : List (List UInt8 × SlW), AllW D ps → (ps.map (·.1)).Nodup ∧ ps.length ≤ 1000000 := fun ps hA => by
    obtain ⟨es, rfl, hpw, hks⟩ := ho.entries (string_keyed Tryz.underlying9)
    have h1 : (strKeys (.map es)).length = es.length := by simp [strKeys]
    have h2 := hA.1.length_eq
    rw [h1, List.length_map] at h2
    have h3 : es.length ≤ nn := by rw [Maps.size_eq] at hsz; exact hsz
    refine ⟨hA.1.nodup_iff.2 ?_, by omega⟩
    obtain ⟨es', e', hkk⟩ := ho.keysOf
    injection e' with e'
    subst e'
    show (es.map fun p => strOf p.1).Nodup
    rw [List.nodup_iff_pairwise_ne, List.pairwise_map]
    refine hpw.imp_of_mem fun {p q} hp' hq' hne e => hne ?_
    obtain ⟨v1, h1⟩ := hkk p hp'
    obtain ⟨v2, h2⟩ := hkk q hq'
    obtain ⟨x, -, hx, -⟩ := Maps.keyOf_str Tryz.underlying9 h1
    obtain ⟨y, -, hy, -⟩ := Maps.keyOf_str Tryz.underlying9 h2
    rw [hx, hy] at e ⊢
    exact congrArg Lit.string e
  clear hseq eg hm hsz
  go_enter Tryz.func55, Tryz.ntmps55
  go_wp2_with fail
  refine HC.mono ?_
  rintro e w1 ⟨v, ss, rfl, ⟨ps, hA, rfl⟩, hrow, hb⟩
  obtain ⟨hn1, hn2⟩ := hnod ps hA
  obtain ⟨L, hL1, hL2, hL3, hL4⟩ := all_rows hk hv hA hn1
  rw [hL1] at hrow
  have hlen : L.length ≤ 1000000 := by
    have := congrArg List.length hL1
    rw [List.length_map, List.length_map] at this
    omega
  rw [List.length_map, List.map_map] at hrow
  obtain ⟨A, c, rfl⟩ := own_form hrow
  have hinG : ∀ p, p ∈ L → IntsN w1 (fun b => (lo ≤ b ∧ b < w1.heap.size) ∧ (Value.slice A L.length c).ownBlock ≠ some b) (encW p.1) p.2 := fun p hp =>
    (hL4 p hp).keep (fun g hN => hb.block g hN.2) fun g hN => ⟨⟨hN.1, Nat.lt_of_lt_of_le hN.2 hb.size⟩, fun e2 => by have := (hrow.lt g e2).1; omega⟩
  have hin : ∀ p, p ∈ L → IntsN w1 (fun b => b < w1.heap.size ∧ (Value.slice A L.length c).ownBlock ≠ some b) (encW p.1) p.2 := fun p hp =>
    (hinG p hp).keep (fun g _ => rfl) fun g hN => ⟨hN.1.2, hN.2⟩
  have HS := sortm13_any hrow hb.size hlen hin hL2
  clear HC hnod hk hv ho hA hL4
  go_wp2_with fail
  refine HS.mono ?_
  rintro e w2 ⟨rfl, ⟨M, hMl, hMp, hMm, hMr⟩, hb2, hkeep⟩
  have hMat : MatG w2 lo (.slice A M.length c) (M.map (·.2)) := MatG.of hlo (by rw [List.length_map]; exact hMr) fun j l hj => by
    rw [List.getElem?_map] at hj
    cases hq : M[j]? with
    | none => rw [hq] at hj; cases hj
    | some p =>
      rw [hq] at hj
      injection hj with hj
      subst hj
      exact ⟨encW p.1, by rw [List.getElem?_map, hq]; rfl, (hinG p ((hMm p).1 (List.mem_of_getElem? hq))).keep (fun b hN => hkeep b hN.1.2 hN.2) (fun b hN => ⟨hN.1.1, Nat.lt_of_lt_of_le hN.1.2 hb2.size⟩)⟩
  have hres : ∀ x, x ∈ M.map (·.2) ↔ P x := fun x => by
    rw [← hL3 x, List.mem_map, List.mem_map]
    exact ⟨fun ⟨p, hp, e⟩ => ⟨p, (hMm p).1 hp, e⟩, fun ⟨p, hp, e⟩ => ⟨p, (hMm p).2 hp, e⟩⟩
  rw [hMl] at hMat
  have hbb := hb.trans (hb2.mono (Nat.le_refl _))
  clear hkeep hin hinG HS hrow hL1 hL2 hL3 hMr hMm hMl
  go_wp2
  go_ret
  exact ⟨_, _, rfl, hMat, hMp, hres, hbb⟩
theorem ordered13_any (w : World) (lo b nn : Nat) (P : List Int → Prop) (hlo : lo ≤ w.heap.size) (hM : MapW w lo b nn P) (hnn : nn ≤ 1000000) :
    Calls Tryz.prog 25 #[.map (some b)] w fun e w' => ∃ v K, e = .returned v ∧ MatG w' lo v K ∧ K.Pairwise (fun a b => aheadL a b = true) ∧ (∀ x, x ∈ K ↔ P x) ∧ Below w.heap.size w w' := by
  have H1 := values13_any w (some b)
  have hb := below_alloc1 w (.cells #[.map (some b)] 54)
  have H2 := sorted13_any _ lo b nn w.heap.size P (Nat.le_trans hlo hb.size) (hM.below hb) hnn (heap_alloc_new w (.cells #[.map (some b)] 54))
  clear hM
  go_enter Tryz.func25, Tryz.ntmps25
  go_wp2_with fail
  refine H1.mono ?_
  rintro e w1 ⟨rfl, rfl⟩
  go_wp2_with fail
  refine H2.mono ?_
  rintro e w2 ⟨v, K, rfl, h1, h2, h3, hb2⟩
  go_wp2
  go_ret
  exact ⟨v, K, rfl, h1, h2, h3, hb.trans (hb2.mono hb.size)⟩
end Go.Proofs.YtdfllifjbabfjaaGreatDoor
namespace Go.Proofs.YtdfllifjbabfjaaGreatDoor
open Go.RowKit Go.Joins

section
variable {P : Program} {ops : Array Oper} {md : Region.Mode} {S : World → Prop} {Q : Exit → Act → World → Prop}
/-- k of the first n operations, in whatever order they come up, S behind each; then L. -/
def HeadH (P : Program) (md : Region.Mode) (ops : Array Oper) (Q : Exit → Act → World → Prop) (S : World → Prop) (n : Nat) (L : Array Bool → Act → World → Prop) : Nat → Array Bool → Act → World → Prop
  | 0 => L
  | k + 1 => fun done a w => HeadInv md ops n done → Region.ready md ops done ≠ [] ∧ ∀ j, j ∈ Region.ready md ops done → j < n ∧ wpOp P ops Q j (fun a' w' => S w' ∧ HeadH P md ops Q S n L k (done.setIfInBounds j true) a' w') a w
theorem HeadH.any {n m : Nat} {L : Array Bool → Act → World → Prop} (hL : ∀ done a w, L done a w → wpAny P md ops Q m done a w) (k : Nat) :
    ∀ (done : Array Bool) (a : Act) (w : World), HeadInv md ops n done → HeadH P md ops Q S n L k done a w → wpAny P md ops Q (k + m) done a w := by
  induction k with
  | zero => intro done a w _ h; simpa using hL done a w h
  | succ k ih =>
    intro done a w inv h
    obtain ⟨hne, hall⟩ := h inv
    have e : k + 1 + m = (k + m) + 1 := by omega
    rw [e]
    refine ⟨fun hn => (hne hn).elim, fun j hj => ?_⟩
    exact wpOp_mono (fun a' w' h' => ih _ a' w' (inv.set hj (hall j hj).1) h'.2) (hall j hj).2
theorem HeadH.first {n j : Nat} {o : Oper} {v : Value} {L : Array Bool → Act → World → Prop} (ho : ops[j]? = some o) (hns : Region.noSelect ops = true)
    (hsink : Region.sinkB md ops n = true) (hchain : Region.chainB md ops n = true) (hn : n < ops.size) (hj : j < n)
    (hQ : ∀ c a w, Q (.panic c) (a.put o.dst v) w → Q (.panic c) a w)
    (hL : ∀ done a w, L done a w → ∀ t, t ∈ Region.ready md ops done → n ≤ t) (k : Nat) :
    ∀ (done : Array Bool) (a : Act) (w : World), FreeAt md ops done j o → j ∈ Region.ready md ops done → YieldsIf P ops S o v a → S w →
      HeadH P md ops Q S n L k (done.setIfInBounds j true) (a.put o.dst v) w → HeadH P md ops Q S n L (k + 1) done a w := by
  have sel := Region.noSelect_spec hns
  induction k with
  | zero =>
    intro done a w _ hr hy hS H inv
    have hun := (mem_ready.1 hr).1
    refine ⟨List.ne_nil_of_mem hr, fun t ht => ?_⟩
    have htn : t < n := Nat.lt_of_not_le fun h => tail_waits hsink hchain hn inv (n - j) j rfl hj hun t h ht
    by_cases e : t = j
    · rw [e]; exact ⟨hj, hy.wpOp ho hS ⟨hS, H⟩⟩
    · have := hL _ _ _ H t (ready_mono ht e)
      omega
  | succ k ih =>
    intro done a w hf hr hy hS H inv
    have hun := (mem_ready.1 hr).1
    have H' := H (inv.set hr hj)
    refine ⟨List.ne_nil_of_mem hr, fun t ht => ?_⟩
    have htn : t < n := Nat.lt_of_not_le fun h => tail_waits hsink hchain hn inv (n - j) j rfl hj hun t h ht
    by_cases e : t = j
    · rw [e]; exact ⟨hj, hy.wpOp ho hS ⟨hS, H⟩⟩
    obtain ⟨htu, ot, hot, hwaits⟩ := mem_ready.1 ht
    have nowait : ∀ x, x ∈ ot.after → Region.binds md x = true → x.on ≠ j := by
      intro x hx hb he
      have h1 := hwaits x hx hb
      rw [he, getD_both hun] at h1
      exact Bool.noConfusion h1
    have h2 := wpOp_putIf hot (hf t ot hot e htu nowait) (fun cs b => sel j o cs b ho) (fun cs b => sel t ot cs b hot) hQ hy ((H'.2 t (ready_mono ht e)).2)
    refine ⟨htn, wpOp_mono ?_ h2⟩
    rintro a' w' ⟨hy', hS', h3⟩
    refine ⟨hS', ih (done.setIfInBounds t true) a' w' (hf.later htu) (ready_mono hr (Ne.symm e)) hy' hS' ?_⟩
    rw [Array.setIfInBounds_comm _ _ e]; exact h3
end
/-- The stores, in the order of the text. -/
def TailL (P : Program) (l : List Oper) (Q : Exit → Act → World → Prop) (n : Nat) : Array Bool → Act → World → Prop :=
  fun done a w => Region.seqB .any l.toArray (l.drop n).length n done = true ∧ wpList P l.toArray Q (l.drop n) a w
def tailOk (l : List Oper) (n : Nat) : Bool := Region.noSelect l.toArray && decide (n < l.length) && Region.sinkB .any l.toArray n && Region.chainB .any l.toArray n
section
variable {P : Program} {l : List Oper} {n : Nat} {S : World → Prop} {Q : Exit → Act → World → Prop}
theorem HeadH.take {i k : Nat} {o : Oper} {v : Value} {done : Array Bool} {a : Act} {w : World} (hF : tailOk l n = true) (ho : l.toArray[i]? = some o) (hi : decide (i < n) = true)
    (hf : Region.free .any l.toArray done i = true) (hr : (Region.ready .any l.toArray done).contains i = true)
    (hQ : ∀ c a w, Q (.panic c) (a.put o.dst v) w → Q (.panic c) a w) (hy : YieldsIf P l.toArray S o v a) (hS : S w)
    (h : HeadH P .any l.toArray Q S n (TailL P l Q n) k (done.setIfInBounds i true) (a.put o.dst v) w) : HeadH P .any l.toArray Q S n (TailL P l Q n) (k + 1) done a w := by
  simp only [tailOk, Bool.and_eq_true, decide_eq_true_eq] at hF
  obtain ⟨⟨⟨hns, hn⟩, hsink⟩, hchain⟩ := hF
  exact HeadH.first ho hns hsink hchain (by simpa using hn) (of_decide_eq_true hi) hQ (fun _ _ _ hL => seqB_ready hL.1) k done a w (Region.free_spec ho hf) (by simpa using hr) hy hS h
theorem HeadH.one {i k : Nat} {o : Oper} {done : Array Bool} {a : Act} {w : World} (hr : Region.ready .any l.toArray done = [i]) (hi : decide (i < n) = true) (ho : l.toArray[i]? = some o)
    (h : ∀ K' : Act → World → Prop, Shut (∀ a w, S w → (S w → HeadH P .any l.toArray Q S n (TailL P l Q n) k (done.setIfInBounds i true) a w) → K' a w) → if Region.wanted o (yielded l.toArray a.tmps) = true then Oper.wp P o a w K' Q else K' (a.put o.dst undef) w) :
    HeadH P .any l.toArray Q S n (TailL P l Q n) (k + 1) done a w := by
  intro _
  rw [hr]
  refine ⟨by simp, fun j hj => ?_⟩
  have e : j = i := by simpa using hj
  subst e
  exact ⟨of_decide_eq_true hi, wpOp_step ho (fun K' hK => h K' (fun a w hS hW => hK a w ⟨hS, hW hS⟩))⟩
theorem wp_region_held_tail {id : Nat} {a : Act} {w : World} (n : Nat) (S : World → Prop) (hm : P.follows .mixedOrders = true) (hF : tailOk l n = true) (hS : S w.drew)
    (h : tailOk l n = true → S w.drew → HeadH P .any l.toArray Q S n (TailL P l Q n) n (Array.replicate l.toArray.size false) a w.drew) : (Code.region id l.toArray true).wp P Q a w := by
  have hF' := hF
  simp only [tailOk, Bool.and_eq_true, decide_eq_true_eq] at hF'
  obtain ⟨⟨⟨hns, hn⟩, hsink⟩, hchain⟩ := hF'
  have hg : (l.drop n).length = l.toArray.size - n := by simp
  have start : HeadInv .any l.toArray n (Array.replicate l.toArray.size false) :=
    ⟨by simp, fun t _ _ ht => Bool.noConfusion ((getD_replicate_false _ t).symm.trans ht), fun t _ ht => getD_in (by simpa using ht) (getD_replicate_false _ t)⟩
  have H2 := HeadH.any (P := P) (Q := Q) (S := S) (n := n) (m := l.toArray.size - n) (fun done a' w' hL => by
    have := wpAny_of_seq (P := P) (ops := l.toArray) (md := .any) (Q' := Q) (l.drop n) n done a' w' (fun t => by simp) hL.1 hL.2
    rwa [hg] at this) n _ a w.drew start (h hF hS)
  have hnl : n < l.length := hn
  rw [show n + (l.toArray.size - n) = l.toArray.size by simp; omega] at H2
  exact wp_region_any hm H2
end
end Go.Proofs.YtdfllifjbabfjaaGreatDoor
