/- Package search, plain: what a step does. Package search: together. -/
import Derived.Test.YtcbhcclickjpnaaGK31
namespace Go.Proofs.Ytcbhcclickjpnaa
open Go.RowKit Go.Joins

variable {L : List (List Int)} {root c : Cho} {M base left : Nat} {b : List Int} {stk : List Cho}
theorem Opn.drop (h : Opn root b.length (stk ++ [c])) (hc : ∀ k, k < b.length → ¬ Hop c k) : Opn root b.length stk := fun k hk hr => by
  obtain ⟨d, hd, hdk⟩ := h k hk hr
  rcases List.mem_append.1 hd with h1 | h1
  · exact ⟨d, h1, hdk⟩
  · rw [List.mem_singleton.1 h1] at hdk
    exact absurd hdk (hc k hk)
theorem Opn.swap {c' : Cho} {B : Nat} (h : Opn root B (stk ++ [c])) (hc : ∀ k, k < B → Hop c k → Hop c' k) : Opn root B (stk ++ [c']) := fun k hk hr => by
  obtain ⟨d, hd, hdk⟩ := h k hk hr
  rcases List.mem_append.1 hd with h1 | h1
  · exact ⟨d, List.mem_append_left _ h1, hdk⟩
  · rw [List.mem_singleton.1 h1] at hdk
    exact ⟨c', List.mem_append_right _ (by simp), hc k hk hdk⟩
/-- What is known of the choice that is stepped on. -/
theorem st_top (h : StOk L root M b (stk ++ [c]) base (left + 1)) : ChoOk L M c ∧ (∀ d, d ∈ stk → ChoOk L M d) ∧ base + wtS stk + (2 ^ c.nm.length - 1) ≤ left + 1 ∧ 1 ≤ c.nm.length := by
  have hc := h.each c (List.mem_append_right _ (by simp))
  have hs := h.steps
  rw [wt_push] at hs
  exact ⟨hc, fun d hd => h.each d (List.mem_append_left _ hd), by omega, cho_cols hc⟩
theorem pow_pred {n : Nat} (h : 1 ≤ n) : 2 ^ n = 2 * 2 ^ (n - 1) ∧ 1 ≤ 2 ^ (n - 1) := by
  obtain ⟨m, rfl⟩ : ∃ m, n = m + 1 := ⟨n - 1, by omega⟩
  rw [Nat.add_sub_cancel, Nat.pow_succ]
  exact ⟨by omega, Nat.one_le_two_pow⟩
theorem st_prune (h : StOk L root M b (stk ++ [c]) base (left + 1)) (hc : ∀ k, k < b.length → ¬ Hop c k) : StOk L root M b stk base left := by
  obtain ⟨-, h2, h3, h4⟩ := st_top h
  obtain ⟨h5, h6⟩ := pow_pred h4
  exact ⟨h.best, h.opn.drop hc, h2, by omega⟩
theorem st_dear {f : Int → Bool} (h : StOk L root M b (stk ++ [c]) base (left + 1)) {x : Nat} (hx : x < c.nm.length) (hf : f x = true) (hc : ∀ k, k < b.length → Hop c k → Hop (woC c f) k) :
    StOk L root M (addBs b (woC c f)) (addSk stk (woC c f)) base left := by
  obtain ⟨h1, h2, h3, h4⟩ := st_top h
  obtain ⟨h5, h6⟩ := pow_pred h4
  have hr := wo_right (f := f) h1.right
  have hcol := wo_cols (c := c) hx hf
  have hfew := h1.few
  have hlen : (woC c f).ls.length = c.ls.length := List.length_map _
  have htl : (woC c f).t = c.t := rfl
  refine ⟨add_best h.best (wo_snd h1.snd) hr, add_opn hr (h.opn.swap hc), add_each h2 (wo_snd h1.snd) hr (fun _ => by rw [hlen, htl]; omega), ?_⟩
  have := wt_add (stk := stk) (c := woC c f) (u := c.nm.length - 1) (fun _ => by omega)
  omega
theorem st_two {x : Nat} (h : StOk L root M b (stk ++ [c]) base (left + 1)) (hx : x < c.nm.length) :
    StOk L root M (addBs (addBs b (woC c fun y => y == (x : Int))) (wiC c x)) (addSk (addSk stk (woC c fun y => y == (x : Int))) (wiC c x)) base left := by
  obtain ⟨h1, h2, h3, h4⟩ := st_top h
  obtain ⟨h5, h6⟩ := pow_pred h4
  have ef : (fun y : Int => y == (x : Int)) = fun y => decide (y = (x : Int)) := by
    funext y
    by_cases e : y = (x : Int) <;> simp [e]
  have hr := wo_right (f := fun y => y == (x : Int)) h1.right
  have hr2 := wi_right h1.right hx
  have hcol := wo_cols (c := c) (f := fun y => y == (x : Int)) hx (by simp)
  have hfew := h1.few
  have hlen : (woC c fun y => y == (x : Int)).ls.length = c.ls.length := List.length_map _
  have hlen2 : (wiC c x).ls.length = c.ls.length + 1 := by unfold wiC; rw [List.length_append]; rfl
  have htl : (woC c fun y => y == (x : Int)).t = c.t := rfl
  have htl2 : (wiC c x).t = c.t := rfl
  have hcol2 : bareB (redC (wiC c x)).ls = false → (redC (wiC c x)).nm.length + 1 ≤ c.nm.length := fun hb => redC_with (c := wiC c x) hr2 hx ⟨[(x : Int)], by unfold wiC; simp, fun y hy => by simpa using hy⟩ hb
  have hop : Opn root b.length ((stk ++ [wiC c x]) ++ [woC c fun y => y == (x : Int)]) := fun k hk hrk => by
    obtain ⟨d, hd, hdk⟩ := h.opn k hk hrk
    rcases List.mem_append.1 hd with h7 | h7
    · exact ⟨d, List.mem_append_left _ (List.mem_append_left _ h7), hdk⟩
    · rw [List.mem_singleton.1 h7] at hdk
      rcases two_hop (x := x) hdk with h8 | h8
      · exact ⟨_, List.mem_append_right _ (List.mem_singleton.2 rfl), by rw [ef]; exact h8⟩
      · exact ⟨_, List.mem_append_left _ (List.mem_append_right _ (List.mem_singleton.2 rfl)), h8⟩
  have ho1 := add_opn hr hop
  have hb1 := add_best h.best (wo_snd (f := fun y => y == (x : Int)) h1.snd) hr
  have he1 := add_each h2 (wo_snd (f := fun y => y == (x : Int)) h1.snd) hr (fun _ => by rw [hlen, htl]; omega)
  have ho2 : Opn root (addBs b (woC c fun y => y == (x : Int))).length (addSk stk (woC c fun y => y == (x : Int)) ++ [wiC c x]) := fun k hk hrk => by
    obtain ⟨d, hd, hdk⟩ := ho1 k hk hrk
    refine ⟨d, ?_, hdk⟩
    unfold addSk at hd ⊢
    by_cases e1 : bareB (redC (woC c fun y => y == (x : Int))).ls = true
    · rw [if_pos e1] at hd ⊢; exact hd
    · rw [if_neg e1] at hd ⊢
      by_cases e2 : (redC (woC c fun y => y == (x : Int))).ls = []
      · rw [if_pos e2] at hd ⊢; exact hd
      · rw [if_neg e2] at hd ⊢
        simp only [List.mem_append, List.mem_singleton] at hd ⊢
        rcases hd with (hd | hd) | hd
        · exact .inl (.inl hd)
        · exact .inr hd
        · exact .inl (.inr hd)
  refine ⟨add_best hb1 (wi_snd h1.snd) hr2, add_opn hr2 ho2, add_each he1 (wi_snd h1.snd) hr2 (fun hb => by have := hcol2 hb; rw [hlen2, htl2]; omega), ?_⟩
  have hw1 := wt_add (stk := stk) (c := woC c fun y => y == (x : Int)) (u := c.nm.length - 1) (fun _ => by omega)
  have hw2 := wt_add (stk := addSk stk (woC c fun y => y == (x : Int))) (c := wiC c x) (u := c.nm.length - 1) (fun hb => by have := hcol2 hb; omega)
  omega
theorem st_part {B : List Int} {ps : List (List (List Int))} {left' : Nat} (h : StOk L root M b (stk ++ [c]) base (left + 1)) (hp : PartsOk c.ls ps) (h2p : 1 < ps.length) (hB : SolN L B) (hmin : ∀ k, Hop c k → B.length ≤ k) (hl : left ≤ left' + wtP c.nm.length ps) :
    StOk L root M (if B.length < b.length then B else b) stk base left' := by
  obtain ⟨h1, h2, h3, h4⟩ := st_top h
  obtain ⟨h5, h6⟩ := pow_pred h4
  have hw := (wt_parts (low_of h1.right) h1.bare hp h2p).1
  refine ⟨by
    split
    · exact hB
    · exact h.best, fun k hk hrk => ?_, h2, by omega⟩
  have hk2 : k < b.length ∧ k < B.length := by split at hk <;> omega
  obtain ⟨d, hd, hdk⟩ := h.opn k hk2.1 hrk
  rcases List.mem_append.1 hd with h7 | h7
  · exact ⟨d, h7, hdk⟩
  · rw [List.mem_singleton.1 h7] at hdk
    have := hmin k hdk
    omega
/-- What the parts' fewest make together. -/
theorem parts_all {ps : List (List (List Int))} {rs : List (List Int)} (hp : PartsOk c.ls ps) (hl : rs.length = ps.length) (hs : ∀ (i : Nat) (p : List (List Int)) (r : List Int), ps[i]? = some p → rs[i]? = some r → SolN (p.map (atL c.nm)) r) : SolN c.N rs.flatten := fun q hq => by
  obtain ⟨r0, hr0, rfl⟩ := List.mem_map.1 hq
  obtain ⟨p, hpm, hrp⟩ := hp.all r0 hr0
  obtain ⟨i, hi⟩ := List.mem_iff_getElem?.1 hpm
  have hil := (List.getElem?_eq_some_iff.1 hi).1
  obtain ⟨r, hr⟩ : ∃ r, rs[i]? = some r := ⟨_, List.getElem?_eq_getElem (by omega)⟩
  obtain ⟨x, hx1, hx2⟩ := hs i p r hi hr _ (List.mem_map.2 ⟨r0, hrp, rfl⟩)
  exact ⟨x, hx1, List.mem_flatten.2 ⟨r, List.mem_of_getElem? hr, hx2⟩⟩
theorem flat_le15 {f : List (List Int) → Nat} : ∀ (ps : List (List (List Int))) (rs : List (List Int)), rs.length = ps.length → (∀ (i : Nat) (p : List (List Int)) (r : List Int), ps[i]? = some p → rs[i]? = some r → r.length ≤ f p) → rs.flatten.length ≤ sumW (ps.map f)
  | [], rs, hl, _ => by
    have : rs = [] := List.length_eq_zero_iff.1 hl
    subst this
    exact Nat.zero_le _
  | p :: ps, [], hl, _ => by simp at hl
  | p :: ps, r :: rs, hl, h => by
    have ih := flat_le15 (f := f) ps rs (by simpa using hl) fun i p r h1 h2 => h (i + 1) p r (by simpa using h1) (by simpa using h2)
    have h0 := h 0 p r rfl rfl
    rw [List.flatten_cons, List.length_append]
    show _ ≤ f p + sumW (ps.map f)
    omega
theorem parts_min {ps : List (List (List Int))} {rs : List (List Int)} (hp : PartsOk c.ls ps) (_hlow : LowM c.nm.length c.ls) (hl : rs.length = ps.length) (hs : ∀ (i : Nat) (p : List (List Int)) (r : List Int), ps[i]? = some p → rs[i]? = some r → ∀ k, Hop ⟨[], c.nm, p⟩ k → r.length ≤ k) {k : Nat} (hk : Hop c k) : (c.t ++ rs.flatten).length ≤ k := by
  obtain ⟨T, hT, hle⟩ := hk
  have h1 := flat_le15 (f := fun p => crdT c.nm.length fun x => T x && usdT p x) ps rs hl fun i p r hpi hri => hs i p r hpi hri _ ⟨fun x => T x && usdT p x, fun q hq => by
    have hpm := List.mem_of_getElem? hpi
    obtain ⟨x, hx, hTx⟩ := hT q (hp.sub p hpm q hq)
    exact ⟨x, hx, by show (T x && usdT p x) = true; rw [hTx]; exact usd_iff.2 ⟨q, hq, hx⟩⟩, by show 0 + crdT c.nm.length (fun x => T x && usdT p x) ≤ _; omega⟩
  have h2 := parts_le (n := c.nm.length) (T := T) hp.apart
  rw [List.length_append]
  omega
end Go.Proofs.Ytcbhcclickjpnaa
namespace Go.Proofs.Ytcbhcclickjpnaa
open Go.RowKit Go.Joins

/-- What search tells of choices of few columns. -/
def SearchV (u : Nat) : Prop := ∀ (c : Cho) (tv nv rv : Value) (bl left : Nat) (w : World), ChoN w (fun x => x < w.heap.size ∧ x ≠ bl) tv nv rv c → rightM c.nm.length c.ls = true → bareB c.ls = false → c.t = [] →
  crdT c.nm.length (usdT c.ls) ≤ u → c.ls.length + c.nm.length ≤ 60 → w.heap[bl]? = some (.cells #[.int .i64 left] 3 (0, 0)) → 2 ^ crdT c.nm.length (usdT c.ls) ≤ left + 1 → left ≤ 1000000 →
  Calls Try.prog 31 #[chv tv nv c.nm.length rv, .pointer (some ⟨bl, 0, none⟩)] w fun e w' => ∃ v b left', e = .returned v ∧ w'.ownsRow w.heap.size 3 1 v b.length (intI b) ∧ SolN c.N b ∧ (∀ k, Hop c k → b.length ≤ k) ∧
    w'.heap[bl]? = some (.cells #[.int .i64 (left' : Nat)] 3 (0, 0)) ∧ left + 1 ≤ left' + 2 ^ crdT c.nm.length (usdT c.ls) ∧ left' ≤ left ∧ w.grownBy w' (some bl)
/-- Parts that were searched. -/
structure TgI (n : Nat) (nm : List Int) (ps : List (List (List Int))) (rs : List (List Int)) : Prop where
  sol : ∀ (i : Nat) (p : List (List Int)) (r : List Int), ps[i]? = some p → rs[i]? = some r → SolN (p.map (atL nm)) r
  min : ∀ (i : Nat) (p : List (List Int)) (r : List Int), ps[i]? = some p → rs[i]? = some r → ∀ k, Hop ⟨[], nm, p⟩ k → r.length ≤ k
theorem wtP_take {n j : Nat} {ps : List (List (List Int))} {p : List (List Int)} (h : ps[j]? = some p) : wtP n (ps.take (j + 1)) = wtP n (ps.take j) + (2 ^ crdT n (usdT p) - 1) := by
  unfold wtP
  rw [List.take_add_one, h, List.map_append, sumW_append]
  rfl
theorem wtP_le {n : Nat} (j : Nat) (ps : List (List (List Int))) : wtP n (ps.take j) ≤ wtP n ps := by
  have : wtP n (ps.take j ++ ps.drop j) = wtP n (ps.take j) + wtP n (ps.drop j) := by unfold wtP; rw [List.map_append, sumW_append]
  rw [List.take_append_drop] at this
  omega
theorem wtP_one {n j : Nat} {ps : List (List (List Int))} {p : List (List Int)} (h : ps[j]? = some p) : wtP n (ps.take j) + (2 ^ crdT n (usdT p) - 1) ≤ wtP n ps := by
  rw [← wtP_take h]; exact wtP_le _ _
theorem TgI.step {n j : Nat} {nm : List Int} {ps : List (List (List Int))} {rs : List (List Int)} {p : List (List Int)} {r : List Int} (h : TgI n nm ps rs) (hj : rs.length = j) (hp : ps[j]? = some p) (h1 : SolN (p.map (atL nm)) r) (h2 : ∀ k, Hop ⟨[], nm, p⟩ k → r.length ≤ k) : TgI n nm ps (rs ++ [r]) := by
  have each : ∀ (i : Nat) (p' : List (List Int)) (r' : List Int), ps[i]? = some p' → (rs ++ [r])[i]? = some r' → rs[i]? = some r' ∨ (p' = p ∧ r' = r) := fun i p' r' hi hr => by
    by_cases hil : i < rs.length
    · rw [List.getElem?_append_left hil] at hr
      exact .inl hr
    · have hi2 := (List.getElem?_eq_some_iff.1 hr).1
      rw [List.length_append] at hi2
      have e : i = j := by have : [r].length = 1 := rfl; omega
      subst e
      rw [hp] at hi
      refine .inr ⟨(Option.some.inj hi).symm, ?_⟩
      rw [← hj] at hr
      simpa using hr.symm
  refine ⟨fun i p' r' hi hr => ?_, fun i p' r' hi hr => ?_⟩
  · rcases each i p' r' hi hr with h3 | ⟨rfl, rfl⟩
    · exact h.sol i p' r' hi h3
    · exact h1
  · rcases each i p' r' hi hr with h3 | ⟨rfl, rfl⟩
    · exact h.min i p' r' hi h3
    · exact h2
theorem TgI.few {n : Nat} {nm : List Int} {ps : List (List (List Int))} {rs : List (List Int)} (h : TgI n nm ps rs) (hl : rs.length ≤ ps.length) (hne : ∀ p, p ∈ ps → bareB p = false) : rs.flatten.length ≤ rs.length * nm.length := by
  have each : ∀ r, r ∈ rs → r.length ≤ nm.length := fun r hr => by
    obtain ⟨i, hi⟩ := List.mem_iff_getElem?.1 hr
    have hil := (List.getElem?_eq_some_iff.1 hi).1
    obtain ⟨p, hp⟩ : ∃ p, ps[i]? = some p := ⟨_, List.getElem?_eq_getElem (by omega)⟩
    refine h.min i p r hp hi _ ⟨fun _ => true, fun q hq => ?_, by show 0 + crdT nm.length (fun _ => true) ≤ _; have := crd_all (fun _ => true) nm.length; omega⟩
    have hb := hne p (List.mem_of_getElem? hp)
    unfold bareB at hb
    rw [List.any_eq_false] at hb
    have hq0 : q ≠ [] := fun e => hb q hq (by rw [e]; rfl)
    obtain ⟨x, hx⟩ := List.exists_mem_of_ne_nil q hq0
    exact ⟨x, hx, rfl⟩
  clear h hl hne
  induction rs with
  | nil => simp
  | cons r rs ih =>
    have h1 := each r (List.mem_cons_self ..)
    have h2 := ih fun r hr => each r (List.mem_cons_of_mem _ hr)
    rw [List.flatten_cons, List.length_append, List.length_cons, Nat.add_mul]
    omega
set_option maxHeartbeats 8000000 in
set_option maxRecDepth 100000 in
theorem together15_any (c : Cho) (tv nv rv av : Value) (ps : List (List (List Int))) (bl left : Nat) (w : World) (hc : ChoN w (fun x => x < w.heap.size ∧ x ≠ bl) tv nv rv c) (hps : PartsN w (fun x => x < w.heap.size ∧ x ≠ bl) c.nm.length av ps)
    (hp : ∀ p, p ∈ ps → rightM c.nm.length p = true ∧ bareB p = false ∧ p.length + c.nm.length ≤ 60 ∧ SearchV (crdT c.nm.length (usdT p))) (hp0 : 0 < ps.length) (hpl : ps.length ≤ 60) (hn : c.nm.length ≤ 60) (ht : c.t.length ≤ 60)
    (hbl : w.heap[bl]? = some (.cells #[.int .i64 left] 3 (0, 0))) (hw : wtP c.nm.length ps ≤ left) (hl : left ≤ 1000000) :
    Calls Try.prog 60 #[chv tv nv c.nm.length rv, av, .pointer (some ⟨bl, 0, none⟩)] w fun e w' => ∃ v rs left', e = .returned v ∧ w'.ownsRow w.heap.size 3 1 v (c.t ++ rs.flatten).length (intI (c.t ++ rs.flatten)) ∧ rs.length = ps.length ∧ TgI c.nm.length c.nm ps rs ∧
      w'.heap[bl]? = some (.cells #[.int .i64 (left' : Nat)] 3 (0, 0)) ∧ left ≤ left' + wtP c.nm.length ps ∧ left' ≤ left ∧ w.grownBy w' (some bl) := by
  have hB0 := below_alloc1 w (chb tv nv c.nm.length rv)
  have hbu : (w.alloc (chb tv nv c.nm.length rv)).heap[w.heap.size]? = some (chb tv nv c.nm.length rv) := heap_alloc_new _ _
  have hs0 : (w.alloc (chb tv nv c.nm.length rv)).heap.size = w.heap.size + 1 := World.size_alloc _ _
  have hblw := size_of_block hbl
  have hbl1 := keep_blk hB0 hbl
  have hcH := Lib.hid hc
  have hpsH := Lib.hid hps
  have hpH := Lib.hid hp
  obtain ⟨At, ct, rfl, -, -⟩ := hc.t
  obtain ⟨An, cn, rfl, -, -⟩ := hc.nm
  obtain ⟨Ar, cr, rfl, -, -⟩ := hc.ls
  obtain ⟨A, ca, rfl, hpc⟩ := hps
  have hpcH := Lib.hid hpc
  unfold chv
  unfold chb at *
  obtain ⟨a0, a1, a2, a3, -⟩ := now4 hbu rfl
  clear hc hp hbl hpc
  go_enter Try.func60, Try.ntmps60
  go_wp2
  generalize w.alloc _ = w1 at *
  clear a0 a1 a2 a3
  have hg0 : w1.grownBy w1 (some bl) := ⟨rfl, rfl, rfl, Nat.le_refl _, fun _ _ _ => rfl⟩
  have ht0 : IntsN w1 (fun x => x < w1.heap.size ∧ x ≠ bl) (.slice At c.t.length ct) (c.t ++ ([] : List (List Int)).flatten) := by
    rw [show c.t ++ ([] : List (List Int)).flatten = c.t by simp]
    exact hcH.out.t.keep (fun x hx => hB0.block x hx.1) (fun x hx => ⟨by have := hx.1; omega, hx.2⟩)
  have hBH := Lib.hid (And.intro hB0 hbu)
  clear hB0 hbu
  go_loopw [7, 9, 14] (fun s7 _ t wr => ∃ (j l1 : Nat) (rs : List (List Int)) (K : List Int), j ≤ ps.length ∧ t = .int .i64 j ∧ rs.length = j ∧ TgI c.nm.length c.nm ps rs ∧ Hid (K = c.t ++ rs.flatten) ∧ IntsN wr (fun x => x < wr.heap.size ∧ x ≠ bl) s7 K ∧
    (0 < j → wr.ownsRow w.heap.size 3 1 s7 K.length (intI K)) ∧ wr.heap[bl]? = some (.cells #[.int .i64 (l1 : Nat)] 3 (0, 0)) ∧ left ≤ l1 + wtP c.nm.length (ps.take j) ∧ l1 ≤ left ∧ w1.grownBy wr (some bl)) (fun _ _ t _ => ps.length - (intOf t).toNat)
  case atStart => exact ⟨0, left, [], _, by omega, rfl, rfl, ⟨fun i p r _ h => by simp at h, fun i p r _ h => by simp at h⟩, Lib.hid rfl, ht0, fun h => absurd h (Nat.lt_irrefl 0), hbl1, by omega, Nat.le_refl _, hg0⟩
  case round =>
    clear ht0 hbl1 hg0
    obtain ⟨j, l1, rs, K, hj, rfl, hrl, hT, hKe, hV, hown, hl1, hle, hle2, hg⟩ := hrel
    obtain ⟨hB0, hbu⟩ := hBH.out
    have hgs := hg.size
    have hkb : wr.heap[w.heap.size]? = _ := (hg.block w.heap.size (by omega) (fun e => by have := Option.some.inj e; omega)).trans hbu
    obtain ⟨b0, b1, b2, b3, -⟩ := now4 hkb rfl
    by_cases hlt : j < ps.length
    · obtain ⟨p, hpj⟩ : ∃ p, ps[j]? = some p := ⟨_, List.getElem?_eq_getElem hlt⟩
      obtain ⟨ba, pv, rfl, hNa, has, c0, c1, hpM, hpcap⟩ := hpcH.out j p hpj
      obtain ⟨hpr, hpb, hp60, hSV⟩ := hpH.out p (List.mem_of_getElem? hpj)
      have hkeep : ∀ x, (x < w.heap.size ∧ x ≠ bl) → wr.heap[x]? = w.heap[x]? := fun x hx => (hg.block x (by omega) (fun e => hx.2 (Option.some.inj e))).trans (hB0.block x hx.1)
      have d0 := (World.cell?_of_block (w := w) (w' := wr) (a := ⟨ba, j * 2, none⟩) (hkeep ba hNa)).trans c0
      have d1 := (World.cell?_of_block (w := w) (w' := wr) (a := ⟨ba, j * 2 + 1, none⟩) (hkeep ba hNa)).trans c1
      have hpM2 := hpM.keep15 (N' := fun x => x < w.heap.size ∧ x ≠ bl) hkeep (fun _ h => h)
      have hcap2 := hpcap.keep15 hpM hkeep (by omega)
      have hnm2 := hcH.out.nm.keep (N' := fun x => x < w.heap.size ∧ x ≠ bl) hkeep (fun _ h => h)
      have hBa := below_alloc1 wr (mtb c.nm.length pv)
      have hsa : (wr.alloc (mtb c.nm.length pv)).heap.size = wr.heap.size + 1 := World.size_alloc _ _
      have hcho : ChoN (wr.alloc (mtb c.nm.length pv)) (fun x => x < (wr.alloc (mtb c.nm.length pv)).heap.size ∧ x ≠ bl) (.slice none 0 0) (.slice An c.nm.length cn) pv ⟨[], c.nm, p⟩ :=
        ChoN.keep (N := fun x => x < w.heap.size ∧ x ≠ bl) (w := wr) ⟨⟨none, 0, rfl, by simp, fun h => absurd h (by simp)⟩, hnm2, hpM2, hcap2⟩ (fun x hx => hBa.block x (by omega)) (by omega) (fun x hx => ⟨by omega, hx.2⟩)
      have hla := keep_blk hBa hl1
      have hone := wtP_one (n := c.nm.length) hpj
      have htk := wtP_take (n := c.nm.length) hpj
      have hp1 : 1 ≤ 2 ^ crdT c.nm.length (usdT p) := Nat.one_le_two_pow
      have HS := hSV ⟨[], c.nm, p⟩ (.slice none 0 0) (.slice An c.nm.length cn) pv bl l1 _ hcho hpr hpb rfl (Nat.le_refl _) hp60 hla (by show 2 ^ crdT c.nm.length (usdT p) ≤ _; omega) (by omega)
      have hpjH := Lib.hid hpj
      have hVH := Lib.hid hV
      have hfl := hT.few (by omega) (fun p hp => (hpH.out p hp).2.1)
      have hfl2 : rs.length * c.nm.length ≤ 60 * 60 := Nat.mul_le_mul (by omega) hn
      obtain ⟨AV, cV, rfl, -, -⟩ := hV
      obtain ⟨Ap, cp, rfl, -, -⟩ := hpM
      have hTH := Lib.hid hT
      have hnum := Lib.hid (And.intro hle (And.intro hle2 (And.intro hone (And.intro htk hp1))))
      have hgH := Lib.hid hg
      unfold chv at HS
      unfold mtb at *
      have j0 : (0 : Int) ≤ (j : Int) := by omega
      have j1 : (j : Int) < (ps.length : Int) := by omega
      have hkbA := keep_alloc (x := .cells #[.int .i64 c.nm.length, .slice Ap p.length cp] 24 (0, 0)) hkb
      have hnwA := heap_alloc_new wr (.cells #[.int .i64 c.nm.length, .slice Ap p.length cp] 24 (0, 0))
      obtain ⟨e0, e1, e2, e3, -⟩ := now4 hkbA rfl
      obtain ⟨f0, f1, -⟩ := now2 hnwA rfl
      clear hkbA hnwA b0 b1 b2 b3
      clear hpj c0 c1 hpM2 hcap2 hnm2 hcho hla hpr hpb hSV hT hkeep hle hle2 hone htk hp1 hown hl1 hpcap hp60 hg hkb hB0 hbu
      go_wp2_with fail
      refine HS.mono ?_
      rintro e X ⟨v2, r2, l2, rfl, ho2, hs2, hm2, hl2, hle3, hle4, hg2⟩
      obtain ⟨A2, c2, rfl⟩ := own_form ho2
      have hgX := hgH.out
      have hg9 : w1.grownBy X (some bl) := by
        have h1 := grown_trans15 hgX hBa
        exact ⟨hg2.os.trans h1.os, hg2.tape.trans h1.tape, hg2.output.trans h1.output, Nat.le_trans h1.size hg2.size, fun x hx hne => (hg2.block x (Nat.lt_of_lt_of_le hx h1.size) hne).trans (h1.block x hx hne)⟩
      have hVX : IntsN X (fun x => x < X.heap.size ∧ x ≠ bl) (.slice AV K.length cV) K := hVH.out.keep (fun x hx => (hg2.block x (by rw [hsa]; omega) (fun e => hx.2 (Option.some.inj e))).trans (hBa.block x hx.1)) (fun x hx => ⟨by have := hg2.size; omega, hx.2⟩)
      have hsX : wr.heap.size + 1 ≤ X.heap.size := by rw [← hsa]; exact hg2.size
      have hr2 : r2.length ≤ 60 := by
        have h1 := hm2 (crdT c.nm.length fun _ => true) ⟨fun _ => true, fun q hq => by
          have hb := (hpH.out p (List.mem_of_getElem? hpjH.out)).2.1
          unfold bareB at hb
          rw [List.any_eq_false] at hb
          have hq0 : q ≠ [] := fun e => hb q hq (by rw [e]; rfl)
          obtain ⟨x, hx⟩ := List.exists_mem_of_ne_nil q hq0
          exact ⟨x, hx, rfl⟩, by show 0 + crdT c.nm.length (fun _ => true) ≤ _; omega⟩
        have h2 := crd_all (fun _ => true) c.nm.length
        omega
      have hKl : K.length ≤ 60 + 60 * 60 := by
        rw [hKe.out, List.length_append]
        omega
      have hbA := below_alloc1 X (.cells #[.slice AV K.length cV, .slice A2 r2.length c2] 30 (0, 0))
      have hnX := heap_alloc_new X (.cells #[.slice AV K.length cV, .slice A2 r2.length c2] 30 (0, 0))
      have HCC := concatI14_any _ [K, r2] (X.alloc (.cells #[.slice AV K.length cV, .slice A2 r2.length c2] 30 (0, 0))) (mat2_15 hnX (hVX.here.below hbA |>.more hbA.size) ((own_intsN14 ho2).here.below hbA |>.more hbA.size)) (tot2_15 (by omega))
      rw [show ([K, r2] : List (List Int)).flatten = K ++ r2 by simp] at HCC
      have hlX := keep_blk hbA hl2
      have hT2 := hTH.out.step hrl hpjH.out hs2 hm2
      have hg10 := grown_trans15 hg9 hbA
      have hK2 : K ++ r2 = c.t ++ (rs ++ [r2]).flatten := by rw [hKe.out, List.flatten_append, List.append_assoc]; simp
      generalize K ++ r2 = K2 at *
      have hfin := Lib.hid (And.intro hlX (And.intro hT2 (And.intro hg10 (And.intro hK2 (And.intro hle3 hle4)))))
      clear hlX hT2 hg9 hg10 hK2 hVX hnX ho2 hs2 hm2 hl2 hg2 hgX hle3 hle4 HS
      try go_simp
      go_wp2_with fail
      refine HCC.mono ?_
      rintro e X2 ⟨v3, rfl, ho3, hb3⟩
      obtain ⟨hlX, hT2, hg10, hK2, hle3, hle4⟩ := hfin.out
      have hl3 := keep_blk hb3 hlX
      have hg11 := grown_trans15 hg10 hb3
      have hsX2 := hbA.size
      have hw1 : w.heap.size < X.heap.size := by omega
      have hN3 : IntsN X2 (fun x => x < X2.heap.size ∧ x ≠ bl) v3 K2 := (own_intsN14 ho3).keep (fun _ _ => rfl) (fun x hx => ⟨hx.2, by have := hx.1; omega⟩)
      have ho4 := own_more ho3 (show w.heap.size ≤ _ by omega)
      obtain ⟨hle, hle2, hone, htk, hp1⟩ := hnum.out
      have hle5 : left ≤ l2 + wtP c.nm.length (ps.take (j + 1)) := by
        have hle3 : l1 + 1 ≤ l2 + 2 ^ crdT c.nm.length (usdT p) := hle3
        omega
      have hall := Lib.hid (And.intro hN3 (And.intro ho4 (And.intro hl3 (And.intro hg11 (And.intro hT2 (And.intro hK2 (And.intro hle5 (show l2 ≤ left by omega))))))))
      obtain ⟨A3, c3, rfl⟩ := own_form ho3
      clear hlX hT2 hg10 hg11 hK2 hle3 hle4 hN3 ho4 hl3 hle5 hle hle2 hone htk hp1 hb3 ho3 HCC hbA
      try go_simp
      go_wp2
      go_roundw
      case rel => exact ⟨j + 1, l2, rs ++ [r2], K2, by omega, by go_num, by rw [List.length_append, hrl]; rfl, hall.out.2.2.2.2.1, Lib.hid hall.out.2.2.2.2.2.1, hall.out.1, fun _ => hall.out.2.1, hall.out.2.2.1, hall.out.2.2.2.2.2.2.1, hall.out.2.2.2.2.2.2.2, hall.out.2.2.2.1⟩
      case measure => simp [intOf]; omega
    · have e : j = ps.length := by omega
      subst e
      have hjd : ¬ (ps.length : Int) < (ps.length : Int) := by omega
      have ho := hown hp0
      rw [List.take_length] at hle
      have hgw : w.grownBy wr (some bl) := ⟨hg.os.trans hB0.os, hg.tape.trans hB0.tape, hg.output.trans hB0.output, by omega, fun x hx hne => (hg.block x (by omega) hne).trans (hB0.block x hx)⟩
      obtain ⟨AV, cV, rfl⟩ := own_form ho
      have hfin := Lib.hid (And.intro ho (And.intro hT (And.intro hl1 (And.intro hle (And.intro hle2 hgw)))))
      have hrlH := Lib.hid hrl
      clear ho hT hl1 hle hle2 hgw hV hown hg hkb hbu hB0 hrl b0 b1 b2 b3
      go_wp2
      go_ret
      refine ⟨_, rfl, rs, ?_⟩
      rw [← hKe.out, show c.t.length + (rs.map List.length).sum = K.length by rw [hKe.out, List.length_append, List.length_flatten]]
      exact ⟨hfin.out.1, hrlH.out, hfin.out.2.1, l1, hfin.out.2.2.1, hfin.out.2.2.2.1, hfin.out.2.2.2.2.1, hfin.out.2.2.2.2.2⟩
end Go.Proofs.Ytcbhcclickjpnaa
