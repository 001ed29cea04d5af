/- The document's own Take of layer 14. What the statements of layer 14 say of package reduce, as contracts; what is left of a right covering is right. -/
import Derived.Test.YtjjpobpcpgcbaaaGJ14
import Derived.Test.YtjjpobpcpgcbaaaGJ05
import Derived.Test.YtjjpobpcpgcbaaaGJ13
namespace Go.Proofs.Ytjjpobpcpgcbaaa
open Go.RowKit Go.Joins

/-- The capacity is no less than the length. -/
def CapOk (v : Value) : Prop := ∀ A n c, v = .slice A n c → n ≤ c
/-- The slice has room for what it holds, and so has each row. -/
def CapM (w : World) (v : Value) : Prop := ∀ A n c, v = .slice A n c → n ≤ c ∧ (0 < n → ∃ b off, A = some ⟨b, off, none⟩ ∧ b < w.heap.size ∧ ∀ j, j < n → ∃ A' n' c', w.cell? ⟨b, off + j, none⟩ = some (.slice A' n' c') ∧ n' ≤ c')
theorem CapM.ok {w : World} {v : Value} (h : CapM w v) : CapOk v := fun A n c e => (h A n c e).1
theorem CapM.below {w W : World} {v : Value} (h : CapM w v) (hb : Below w.heap.size w W) : CapM W v := fun A n c e => by
  obtain ⟨h1, h2⟩ := h A n c e
  refine ⟨h1, fun h0 => ?_⟩
  obtain ⟨b, off, eA, hB, hc⟩ := h2 h0
  refine ⟨b, off, eA, Nat.lt_of_lt_of_le hB hb.size, fun j hj => ?_⟩
  obtain ⟨A', n', c', h3, h4⟩ := hc j hj
  exact ⟨A', n', c', (hb.cell (p := ⟨b, off + j, none⟩) hB).trans h3, h4⟩
theorem own_cap14 {w : World} {B size n : Nat} {e : TypeId} {v : Value} {xs : List Value} (h : w.ownsRow B e size v n xs) : CapOk v := by
  intro A m c e1
  rcases h.2 with ⟨rfl, h0⟩ | ⟨g, cap, cur, rfl, -, -, hn, -⟩
  · injection e1 with _ e2 _
    omega
  · injection e1 with _ e2 e3
    omega
def tkV (ls : List (List Int)) : Int := (tkC ls).getD 0
def tkL (ls : List (List Int)) : List (List Int) := match tkC ls with
  | none => ls
  | some c => tkR ls c
theorem tk_none {ls : List (List Int)} (h : ∀ (j : Nat) (r : List Int), ls[j]? = some r → ¬ r.length = 1) : tkC ls = none := by
  unfold tkC
  rw [find_no _ _ fun j r hj => decide_eq_false (h j r hj)]; rfl
theorem tk_some {ls : List (List Int)} {i : Nat} {c : Int} (hi : ls[i]? = some [c]) (h : ∀ (j : Nat) (r : List Int), j < i → ls[j]? = some r → ¬ r.length = 1) : tkC ls = some c := by
  unfold tkC
  rw [find_at _ ls i [c] hi rfl fun j r hj hr => decide_eq_false (h j r hj hr)]; rfl
theorem tkR_take {ls : List (List Int)} {k : Nat} {l : List Int} {c : Int} (h : ls[k]? = some l) : tkR (ls.take (k + 1)) c = if c ∈ l then tkR (ls.take k) c else tkR (ls.take k) c ++ [l] := by
  unfold tkR
  rw [List.take_add_one, h, List.filter_append]
  by_cases hm : c ∈ l
  · rw [if_pos hm]; simp [hm]
  · rw [if_neg hm]; simp [hm]
theorem tkR_len (ls : List (List Int)) (c : Int) (k : Nat) : (tkR (ls.take k) c).length ≤ k := by
  unfold tkR
  have h1 := List.length_filter_le (fun r => !decide (c ∈ r)) (ls.take k)
  rw [List.length_take] at h1
  omega
set_option maxHeartbeats 4000000 in
set_option maxRecDepth 100000 in
theorem rtake14_any (v : Value) (ls : List (List Int)) (hls : ls.length ≤ 1000) (hcap : CapOk v) (w : World) (hz : MatAt w w.heap.size v ls) :
    Calls Try.prog 14 #[v] w fun e w' => ∃ u, e = .returned (.tuple #[u, .int .i64 (tkV ls), .bool (tkC ls).isSome]) ∧ MatAt w' w'.heap.size u (tkL ls) ∧ CapOk u ∧ Below w.heap.size w w' := by
  have HI := fun (u : Value) (l : List Int) (c : Int) W h => rin14_any u l c W h
  have hmat := Lib.hid hz
  have hcapH := Lib.hid hcap
  clear hcap
  obtain ⟨A, cp, rfl, hl, hc⟩ := hz
  obtain ⟨j0, hj0, jz0, jz1, jz2⟩ := info_parts Try.infoInts
  have hN : Hid ((∀ (j : Nat) (r : List Int), ls[j]? = some r → ¬ r.length = 1) → tkV ls = 0 ∧ (tkC ls).isSome = false ∧ tkL ls = ls) := Lib.hid (fun h => by
    have e := tk_none h
    unfold tkV tkL
    rw [e]
    exact ⟨rfl, rfl, rfl⟩)
  have hS : Hid (∀ (i : Nat) (c : Int), ls[i]? = some [c] → (∀ (j : Nat) (r : List Int), j < i → ls[j]? = some r → ¬ r.length = 1) → tkV ls = c ∧ (tkC ls).isSome = true ∧ tkL ls = tkR ls c) := Lib.hid (fun i c hi h => by
    have e := tk_some hi h
    unfold tkV tkL
    rw [e]
    exact ⟨rfl, rfl, rfl⟩)
  have hst := Lib.hid (fun (c : Int) (k : Nat) (l : List Int) (h : ls[k]? = some l) => tkR_take (c := c) h)
  have hle := fun c k => tkR_len ls c k
  generalize tkV ls = RV at *
  generalize (tkC ls).isSome = RB at *
  generalize tkL ls = RL at *
  go_enter Try.func14, Try.ntmps14
  go_wp2
  go_loopw [5, 6, 7] (fun t _ _ wr => ∃ i : Nat, i ≤ ls.length ∧ t = .int .i64 i ∧ Hid (∀ (j : Nat) (r : List Int), j < i → ls[j]? = some r → ¬ r.length = 1) ∧ w = wr) (fun t _ _ _ => ls.length - (intOf t).toNat)
  case atStart => exact ⟨0, by omega, rfl, Lib.hid (fun j r h => absurd h (Nat.not_lt_zero _)), rfl⟩
  case round =>
    obtain ⟨i, hi, rfl, hH, rfl⟩ := hrel
    by_cases hlt : i < ls.length
    · obtain ⟨b, off, rfl, hB, hcell⟩ := hc (by omega)
      obtain ⟨r, hr⟩ : ∃ r, ls[i]? = some r := ⟨_, List.getElem?_eq_getElem hlt⟩
      obtain ⟨ov, z0, hov⟩ := hcell i r hr
      obtain ⟨Ao, co, rfl, hol, hoc⟩ := hov
      have hrH := Lib.hid hr
      by_cases h1 : r.length = 1
      · obtain ⟨c, rfl⟩ : ∃ c, r = [c] := by
          match r, h1 with
          | [x], _ => exact ⟨x, rfl⟩
        obtain ⟨bo, oo, rfl, hBo, hoc⟩ := hoc (by simp)
        have y0 := hoc 0 c rfl
        have hres := Lib.hid (hS.out i c hrH.out hH.out)
        have hcH := Lib.hid hcell
        have hst1 := Lib.hid (hst.out c)
        have hle1 := hle c
        have i0 : (0 : Int) ≤ (i : Int) := by omega
        have i1 : (i : Int) < (ls.length : Int) := by omega
        clear hS hN hH hst hle hr hoc hcell hc hmat h1
        go_wp2
        go_loopw [6, 7] (fun V t wr => ∃ (k : Nat) (K : List (List Int)) (vs : List Value), k ≤ ls.length ∧ t = .int .i64 k ∧ Hid (K = tkR (ls.take k) c) ∧ vs.length = K.length ∧ wr.ownsRow w.heap.size 38 1 V K.length vs ∧ RowsIn wr V K vs ∧ Below w.heap.size w wr) (fun _ t _ => ls.length - (intOf t).toNat)
        case atStart => exact ⟨0, [], [], by omega, rfl, Lib.hid rfl, rfl, World.ownsRow_nil _ _ _ _, RowsIn.nil _ _, Below.refl _ _⟩
        case round =>
          obtain ⟨k, K, vs, hk, rfl, hK, hvl, hown, hin, hb⟩ := hrel
          obtain ⟨AV, cV, rfl⟩ := own_form hown
          have hbs := hb.size
          by_cases hkl : k < ls.length
          · obtain ⟨l, hl2⟩ : ∃ l, ls[k]? = some l := ⟨_, List.getElem?_eq_getElem hkl⟩
            obtain ⟨ov2, z2, hov2⟩ := hcH.out k l hl2
            have f0 := fun X : After wr => After.cell X ((hb.cell (p := ⟨b, off + k, none⟩) hB).trans z2)
            have f1 := fun X : After wr => After.cell X ((hb.cell (p := ⟨b, off + i, none⟩) hB).trans z0)
            have f2 := fun X : After wr => After.cell X ((hb.cell (p := ⟨bo, oo + 0, none⟩) hBo).trans y0)
            rw [Nat.add_zero] at f2
            have HI1 := fun X : After wr => HI ov2 l c X.1 ((hov2.below (hb.trans (X.2.mono hbs))).more (Nat.le_trans hbs X.2.size))
            have hs := Lib.hid (hst1.out k l hl2)
            have hKl : K.length ≤ k := by rw [hK.out]; exact hle1 k
            have hIN : IntsN wr (fun b => b < wr.heap.size ∧ (Value.slice AV K.length cV).ownBlock ≠ some b) ov2 l := (hov2.below hb).intsN fun b off n c _ _ hb' => ⟨by omega, fun e => by have := (hown.lt b e).1; omega⟩
            have hone := hIN.one
            obtain ⟨A2, c2, rfl, -, -⟩ := hov2
            have k0 : (0 : Int) ≤ (k : Int) := by omega
            have k1 : (k : Int) < (ls.length : Int) := by omega
            have g0 := (hb.cell (p := ⟨b, off + k, none⟩) hB).trans z2
            clear hcH hl2 z2 z0 y0 hst1 hle1
            go_upto_region 9 with (fail)
            by_cases hm : c ∈ l
            · have hK2 : Hid (K = tkR (ls.take (k + 1)) c) := Lib.hid (by rw [hs.out, if_pos hm, hK.out])
              rw [decide_eq_true hm] at HI1
              clear hs hm hK
              refine wp_region_after (by kernel_rfl) (by kernel_rfl) ?_
              repeat (first | go_big_quiet_step ((go_at_call 30; exact Calls.after_of (HI1 _))))
              refine wpQuiet_nil ?_
              intro z
              have hb3 := hb.trans (z.2.mono hbs)
              have hown3 := owns_below hown z.2
              have hin3 := hin.below z.2
              clear f0 f1 f2 HI1 g0 hIN hown hin hb
              go_wp2
              go_roundw
              case rel => exact ⟨k + 1, K, vs, by omega, by go_num, hK2, hvl, hown3, hin3, hb3⟩
              case measure => simp [intOf]; omega
            · have hK2 : Hid (K ++ [l] = tkR (ls.take (k + 1)) c) := Lib.hid (by rw [hs.out, if_neg hm, hK.out])
              rw [decide_eq_false hm] at HI1
              clear hs hm hK
              refine wp_region_after (by kernel_rfl) (by kernel_rfl) ?_
              repeat (first | go_big_quiet_step ((go_at_call 30; exact Calls.after_of (HI1 _))))
              refine wpQuiet_nil ?_
              intro z
              have hb3 := hb.trans (z.2.mono hbs)
              have hown3 := owns_below hown z.2
              have hin3 := hin.below z.2
              have hIN3 : IntsN z.1 (fun b => b < z.1.heap.size ∧ (Value.slice AV K.length cV).ownBlock ≠ some b) _ l := hIN.keep (fun b h => z.2.block b h.1) (fun b h => ⟨Nat.lt_of_lt_of_le h.1 z.2.size, h.2⟩)
              have g3 := f0 z
              clear f0 f1 f2 HI1 g0 hIN hown hin hb
              have hbs3 := hb3.size
              generalize z.1 = w3 at *
              clear z
              go_wp2_with (at_builtin; refine wpList_append_own_at _ rfl _ _ 22 rfl w.heap.size 38 j0 (.slice none 0 0) 1 24 Try.underlying22 hj0 jz0 jz1 jz2 rfl (by decide) _ _ _ rfl (hown3.alloc _) ⟨w3.heap.size, 0, none⟩ 1 1 [.slice A2 l.length c2] rfl rfl one_new13 (fun u hu => by rw [List.mem_singleton.1 hu]; rfl) ?c3 ?c4 ?c5 ?_)
              case c3 => unfold maxLen; omega
              case c4 => omega
              case c5 => first | omega | (simp; omega)
              intro v8 w8 ho8 hg8 _ hloc
              have hba := below_alloc1 w3 (.cells #[.slice A2 l.length c2] 38 (0, 0))
              have hin8 := hin3.push (V' := v8) (by omega) hIN3 hba hg8 (hloc.imp id (fun h => h.trans (by simp)))
              have hB8 := grown_below (hown3.alloc (.cells #[.slice A2 l.length c2] 38)) hg8 (hb3.alloc hbs3 _) (by omega) (by simp; omega)
              have ho8' : w8.ownsRow w.heap.size 38 1 v8 (K ++ [l]).length (vs ++ [.slice A2 l.length c2]) := by
                rw [List.length_append]
                exact ho8
              clear hg8 hloc ho8 hown3 hin3 hIN3 hba hb3
              go_wp2
              go_roundw
              case rel => exact ⟨k + 1, K ++ [l], _, by omega, by go_num, hK2, by rw [List.length_append, List.length_append]; simp; omega, ho8', hin8, hB8⟩
              case measure => simp [intOf]; omega
          · have e : k = ls.length := by omega
            have hkd : decide ((k : Int) < (ls.length : Int)) = false := decide_eq_false (by omega)
            have hK2 : Hid (K = RL) := Lib.hid (by rw [hK.out, e, List.take_length, hres.out.2.2])
            have hM := hin.mat hown
            have hC := own_cap14 hown
            have f1 := fun X : After wr => After.cell X ((hb.cell (p := ⟨b, off + i, none⟩) hB).trans z0)
            have f2 := fun X : After wr => After.cell X ((hb.cell (p := ⟨bo, oo + 0, none⟩) hBo).trans y0)
            rw [Nat.add_zero] at f2
            have hM2 : Hid (MatAt wr wr.heap.size (.slice AV K.length cV) RL) := Lib.hid (by rw [← hK2.out]; exact hM)
            clear hcH hst1 hle1 hK hM hin hown e
            go_upto_region 11 with (fail)
            refine wp_region_after (by kernel_rfl) (by kernel_rfl) ?_
            repeat (first | go_big_quiet_step (fail))
            refine wpQuiet_nil ?_
            intro z
            have hb3 := hb.trans (z.2.mono hbs)
            have hM3 := (hM2.out.below z.2).more z.2.size
            clear f1 f2 hM2
            go_wp2
            go_ret3
            exact ⟨_, by rw [hres.out.1, hres.out.2.1]; rfl, hM3, hC, hb3⟩
      · have h1d : ((r.length : Int) == 1) = false := by rw [beq_eq_false_iff_ne]; omega
        have hH2 : Hid (∀ (j : Nat) (y : List Int), j < i + 1 → ls[j]? = some y → ¬ y.length = 1) := Lib.hid (fun j y hj hy => by
          by_cases e : j = i
          · subst e
            rw [hrH.out] at hy
            injection hy with hy
            rw [← hy]; exact h1
          · exact hH.out j y (by omega) hy)
        clear hS hN hH hst hle hr hoc hcell hc hmat
        go_wp2
        go_roundw
        case rel => exact ⟨i + 1, by omega, by go_num, hH2, trivial⟩
        case measure => simp [intOf]; omega
    · have e : i = ls.length := by omega
      have hkd : decide ((i : Int) < (ls.length : Int)) = false := decide_eq_false (by omega)
      have hres := Lib.hid (hN.out fun j r hr => hH.out j r (by rw [e]; exact (List.getElem?_eq_some_iff.1 hr).1) hr)
      clear hS hN hH hst hle hc e
      go_wp2
      go_ret3
      exact ⟨_, by rw [hres.out.1, hres.out.2.1]; rfl, by rw [hres.out.2.2]; exact hmat.out, hcapH.out, Below.refl _ _⟩
end Go.Proofs.Ytjjpobpcpgcbaaa
namespace Go.Proofs.Ytjjpobpcpgcbaaa
open Go.RowKit Go.Joins

def risL (n : Int) (l : List Int) : Prop := (∀ x, x ∈ l → 0 ≤ x ∧ x < n) ∧ l.Pairwise (· < ·)
theorem right_row {n : Int} {l : List Int} : rightR n l = true ↔ risL n l := by
  unfold rightR
  rw [List.all_eq_true]
  constructor
  · intro h
    have h1 : ∀ k, k < l.length → 0 ≤ l.getD k 0 ∧ l.getD k 0 < n ∧ (k = 0 ∨ l.getD (k - 1) 0 < l.getD k 0) := fun k hk => by
      have h2 := h k (List.mem_range.2 hk)
      unfold okR at h2
      rw [Bool.and_eq_true, Bool.and_eq_true, Bool.or_eq_true, decide_eq_true_iff, decide_eq_true_iff, decide_eq_true_iff, decide_eq_true_iff] at h2
      exact ⟨h2.1.1, h2.1.2, h2.2⟩
    refine ⟨fun x hx => ?_, ?_⟩
    · obtain ⟨k, hk, rfl⟩ := List.mem_iff_getElem.1 hx
      have h2 := h1 k hk
      rw [List.getD_eq_getElem?_getD, List.getElem?_eq_getElem hk] at h2
      exact ⟨h2.1, h2.2.1⟩
    · have h3 : ∀ d i, i + d + 1 < l.length → l.getD i 0 < l.getD (i + d + 1) 0 := by
        intro d
        induction d with
        | zero =>
          intro i hi
          have h2 := (h1 (i + 0 + 1) hi).2.2
          rcases h2 with h2 | h2
          · omega
          · exact h2
        | succ d ih =>
          intro i hi
          have h2 := (h1 (i + (d + 1) + 1) hi).2.2
          have h4 := ih i (by omega)
          rcases h2 with h2 | h2
          · omega
          · have e : i + (d + 1) + 1 - 1 = i + d + 1 := by omega
            rw [e] at h2
            omega
      rw [List.pairwise_iff_getElem]
      intro i j hi hj hij
      have h4 := h3 (j - i - 1) i (by omega)
      have e : i + (j - i - 1) + 1 = j := by omega
      rw [e, List.getD_eq_getElem?_getD, List.getD_eq_getElem?_getD, List.getElem?_eq_getElem hi, List.getElem?_eq_getElem hj] at h4
      exact h4
  · intro h k hk
    have hk := List.mem_range.1 hk
    have h1 := h.1 _ (List.getElem_mem hk)
    unfold okR
    rw [Bool.and_eq_true, Bool.and_eq_true, Bool.or_eq_true, decide_eq_true_iff, decide_eq_true_iff, decide_eq_true_iff, decide_eq_true_iff]
    have e : l.getD k 0 = l[k] := by rw [List.getD_eq_getElem?_getD, List.getElem?_eq_getElem hk]; rfl
    rw [e]
    refine ⟨h1, ?_⟩
    by_cases h0 : k = 0
    · exact .inl h0
    · refine .inr ?_
      have hk1 : k - 1 < l.length := by omega
      have e1 : l.getD (k - 1) 0 = l[k - 1] := by rw [List.getD_eq_getElem?_getD, List.getElem?_eq_getElem hk1]; rfl
      rw [e1]
      exact List.pairwise_iff_getElem.1 h.2 (k - 1) k hk1 hk (by omega)
theorem right_iff {n : Int} {ls : List (List Int)} : rightM n ls = true ↔ 0 ≤ n ∧ n ≤ 4000 ∧ ∀ l, l ∈ ls → risL n l := by
  unfold rightM
  rw [Bool.and_eq_true, Bool.and_eq_true, decide_eq_true_iff, decide_eq_true_iff, List.all_eq_true]
  exact ⟨fun h => ⟨h.1.1, h.1.2, fun l hl => right_row.1 (h.2 l hl)⟩, fun h => ⟨⟨h.1, h.2.1⟩, fun l hl => right_row.2 (h.2.2 l hl)⟩⟩
theorem risL.filter {n : Int} {l : List Int} (h : risL n l) (p : Int → Bool) : risL n (l.filter p) :=
  ⟨fun x hx => h.1 x (List.mem_filter.1 hx).1, h.2.filter p⟩
theorem red_ris {n : Int} {m : Nat} : ∀ (f : Nat) (t : Int → Bool) (ls : List (List Int)), (∀ l, l ∈ ls → risL n l) → ∀ l, l ∈ (redP m f t ls).2 → risL n l
  | 0, t, ls, h => h
  | f + 1, t, ls, h => by
    unfold redP
    split
    · exact red_ris f _ _ fun l hl => h l (List.mem_filter.1 hl).1
    · split
      · exact red_ris f _ _ fun l hl => h l (List.mem_of_mem_eraseIdx hl)
      · split
        · refine red_ris f _ _ fun l hl => ?_
          obtain ⟨r, hr, rfl⟩ := List.mem_map.1 hl
          exact (h r hr).filter _
        · exact h
theorem red_many {m : Nat} : ∀ (f : Nat) (t : Int → Bool) (ls : List (List Int)), (redP m f t ls).2.length ≤ ls.length
  | 0, t, ls => Nat.le_refl _
  | f + 1, t, ls => by
    unfold redP
    split
    · exact Nat.le_trans (red_many f _ _) (List.length_filter_le _ _)
    · split
      · exact Nat.le_trans (red_many f _ _) (List.length_eraseIdx_le _ _)
      · split
        · exact Nat.le_trans (red_many f _ _) (by unfold clR; rw [List.length_map]; exact Nat.le_refl _)
        · exact Nat.le_refl _
/-- The columns that are taken, by flags, and what is left. -/
def redL (n : Int) (ls : List (List Int)) : (Int → Bool) × List (List Int) := redP n.toNat (masR ls + 1) (fun _ => false) ls
def takL (n : Int) (ls : List (List Int)) : List Int := ((List.range n.toNat).filter fun c : Nat => (redL n ls).1 (c : Int)).map fun c : Nat => (c : Int)
theorem red_right {n : Int} {ls : List (List Int)} (h : rightM n ls = true) : rightM n (redL n ls).2 = true := by
  obtain ⟨h1, h2, h3⟩ := right_iff.1 h
  exact right_iff.2 ⟨h1, h2, red_ris _ _ _ h3⟩
theorem tak_len (n : Int) (ls : List (List Int)) : (takL n ls).length = crdT n.toNat (redL n ls).1 := by
  unfold takL crdT
  rw [List.length_map, List.countP_eq_length_filter]
theorem red_best14 {n : Int} {ls : List (List Int)} (h : rightM n ls = true) :
    (bestM n.toNat ls = -1 ∧ bestM n.toNat (redL n ls).2 = -1) ∨ (0 ≤ bestM n.toNat ls ∧ 0 ≤ bestM n.toNat (redL n ls).2 ∧ bestM n.toNat ls = ((takL n ls).length : Int) + bestM n.toNat (redL n ls).2) := by
  obtain ⟨h1, h2, h3⟩ := right_iff.1 h
  have hl : ∀ r, r ∈ ls → ∀ c, c ∈ r → 0 ≤ c ∧ c < (n.toNat : Int) := fun r hr c hc => by
    have := (h3 r hr).1 c hc
    omega
  rw [tak_len]
  exact red_best (red_inv _ _ _ (red_start hl)) hl
theorem red_stays {n : Int} {ls : List (List Int)} : redL n (redL n ls).2 = ((fun _ => false), (redL n ls).2) := by
  obtain ⟨a, b, c⟩ := red_done (n := n.toNat) (masR ls + 1) (fun _ => false) ls (Nat.lt_succ_self _)
  exact red_stay a b c _

def ReduceGood : Prop := ∀ (n : Int) (L : Value) (ls : List (List Int)) (w : World), MatAt w w.heap.size L ls → CapM w L → gr14 n ls = false → rightM n ls = true →
  Calls Try.prog 17 #[mtv n L] w fun e w' => ∃ u r, e = .returned (.tuple #[u, mtv n r, .int .i64 0]) ∧ IntsAt w' w'.heap.size u (takL n ls) ∧ MatAt w' w'.heap.size r (redL n ls).2 ∧ CapM w' r ∧ Below w.heap.size w w'
def ReduceBad : Prop := ∀ (n : Int) (L : Value) (ls : List (List Int)) (w : World), MatAt w w.heap.size L ls → CapM w L → gr14 n ls = false → rightM n ls = false →
  Calls Try.prog 17 #[mtv n L] w fun e w' => ∃ A c A' c', e = .returned (.tuple #[.slice A 0 c, mtv 0 (.slice A' 0 c'), .int .i64 1]) ∧ Below w.heap.size w w'
def Knows14 : Prop := ∀ w : World, Calls Try.prog 8 #[] w fun e w' => e = .returned (.bool true) ∧ Below w.heap.size w w'
end Go.Proofs.Ytjjpobpcpgcbaaa
