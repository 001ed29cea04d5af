/- Layer 15, plain: what a bill tells; what a step of the search does, and what it leaves. The document's own Columns of layer 14. The document's own Rows of layer 14; 'append(o, v...)' of rows. The document's own Rows of layer 14. -/
import Derived.Test.YtcbhcclickjpnaaGK09
import Derived.Test.YtcbhcclickjpnaaGK04
namespace Go.Proofs.Ytcbhcclickjpnaa
open Go.RowKit Go.Joins

/-! ### Bills -/
/-- What the rows pay to a column. -/
def payU : List (List Int) → List Int → Int → Int
  | r :: ls, v :: ps, c => (if c ∈ r then v else 0) + payU ls ps c
  | _, _, _ => 0
def sumI : List Int → Int
  | [] => 0
  | v :: ps => v + sumI ps
def sumT (T : Int → Bool) (f : Int → Int) : Nat → Int
  | 0 => 0
  | n + 1 => sumT T f n + if T (n : Int) = true then f n else 0
/-- What columns are paid too much. -/
def negS (f : Int → Int) : Nat → Int
  | 0 => 0
  | n + 1 => negS f n + min 0 (f n)
theorem sumT_add (T : Int → Bool) (f g : Int → Int) : ∀ n, sumT T (fun c => f c + g c) n = sumT T f n + sumT T g n
  | 0 => rfl
  | n + 1 => by
    have := sumT_add T f g n
    unfold sumT
    split <;> omega
theorem sumT_nonneg (T : Int → Bool) (f : Int → Int) (h : ∀ c, 0 ≤ f c) : ∀ n, 0 ≤ sumT T f n
  | 0 => Int.le_refl _
  | n + 1 => by
    have := sumT_nonneg T f h n
    have := h n
    unfold sumT
    split <;> omega
theorem sumT_one (T : Int → Bool) (f : Int → Int) (h : ∀ c, 0 ≤ f c) {x : Nat} (hT : T (x : Int) = true) : ∀ n, x < n → f x ≤ sumT T f n
  | 0, hx => absurd hx (Nat.not_lt_zero _)
  | n + 1, hx => by
    unfold sumT
    by_cases e : x = n
    · subst e
      have := sumT_nonneg T f h x
      rw [if_pos hT]; omega
    · have := sumT_one T f h hT n (by omega)
      have := h n
      split <;> omega
theorem sumT_unit (T : Int → Bool) (f : Int → Int) (u : Int) : ∀ n, sumT T (fun c => u - f c) n + sumT T f n = u * (crdT n T : Nat)
  | 0 => by simp [sumT, crdT]
  | n + 1 => by
    have := sumT_unit T f u n
    rw [crd_succ]
    unfold sumT
    split
    · rw [Int.natCast_add, Int.mul_add]
      simp
      omega
    · simp
      omega
theorem neg_le (T : Int → Bool) (f : Int → Int) : ∀ n, negS f n ≤ sumT T f n
  | 0 => Int.le_refl _
  | n + 1 => by
    have := neg_le T f n
    unfold negS sumT
    split <;> omega
theorem neg_one (T : Int → Bool) (f : Int → Int) {x : Nat} (hT : T (x : Int) = true) : ∀ n, x < n → negS f n + f x ≤ sumT T f n
  | 0, hx => absurd hx (Nat.not_lt_zero _)
  | n + 1, hx => by
    unfold negS sumT
    by_cases e : x = n
    · subst e
      have := neg_le T f x
      rw [if_pos hT]; omega
    · have := neg_one T f hT n (by omega)
      split <;> omega
theorem pay_nonneg : ∀ (ls : List (List Int)) (ps : List Int), (∀ v, v ∈ ps → 0 ≤ v) → ∀ c, 0 ≤ payU ls ps c
  | [], _, _, _ => by unfold payU; exact Int.le_refl _
  | _ :: _, [], _, _ => by unfold payU; exact Int.le_refl _
  | r :: ls, v :: ps, h, c => by
    have := pay_nonneg ls ps (fun v hv => h v (List.mem_cons_of_mem _ hv)) c
    have := h v (List.mem_cons_self ..)
    unfold payU
    split <;> omega
theorem pay_le {u : Int} : ∀ (ls : List (List Int)) (ps : List Int), (∀ v, v ∈ ps → 0 ≤ v ∧ v ≤ u) → ∀ c, payU ls ps c ≤ sumI ps
  | [], ps, h, _ => by
    unfold payU
    induction ps with
    | nil => exact Int.le_refl _
    | cons v ps ih =>
      have := h v (List.mem_cons_self ..)
      have := ih fun v hv => h v (List.mem_cons_of_mem _ hv)
      unfold sumI; omega
  | _ :: _, [], _, _ => by unfold payU sumI; exact Int.le_refl _
  | r :: ls, v :: ps, h, c => by
    have := pay_le ls ps (fun v hv => h v (List.mem_cons_of_mem _ hv)) c
    have := h v (List.mem_cons_self ..)
    unfold payU sumI
    split <;> omega
theorem sum_le {u : Int} : ∀ ps : List Int, (∀ v, v ∈ ps → 0 ≤ v ∧ v ≤ u) → 0 ≤ sumI ps ∧ sumI ps ≤ u * (ps.length : Nat)
  | [], _ => by simp [sumI]
  | v :: ps, h => by
    have := sum_le ps fun v hv => h v (List.mem_cons_of_mem _ hv)
    have := h v (List.mem_cons_self ..)
    unfold sumI
    rw [List.length_cons, Int.natCast_add, Int.mul_add]
    simp
    omega
/-- Columns that solve are paid all prices. -/
theorem pay_all {n : Nat} {T : Int → Bool} : ∀ (ls : List (List Int)) (ps : List Int), LowM n ls → SolT ls T → (∀ v, v ∈ ps → 0 ≤ v) → ps.length = ls.length → sumI ps ≤ sumT T (payU ls ps) n
  | [], [], _, _, _, _ => by
    have := sumT_nonneg T (payU [] []) (fun c => by unfold payU; exact Int.le_refl _) n
    unfold sumI
    exact this
  | [], _ :: _, _, _, _, h => by simp at h
  | _ :: _, [], _, _, _, h => by simp at h
  | r :: ls, v :: ps, hl, hT, hv, hlen => by
    have ih := pay_all ls ps (fun q hq => hl q (List.mem_cons_of_mem _ hq)) (fun q hq => hT q (List.mem_cons_of_mem _ hq)) (fun v hv' => hv v (List.mem_cons_of_mem _ hv')) (by simpa using hlen)
    obtain ⟨c, hc, hTc⟩ := hT r (List.mem_cons_self ..)
    obtain ⟨c0, c1⟩ := hl r (List.mem_cons_self ..) c hc
    obtain ⟨k, rfl⟩ := Int.eq_ofNat_of_zero_le c0
    have h0 := hv v (List.mem_cons_self ..)
    have e : payU (r :: ls) (v :: ps) = fun c => (if c ∈ r then v else 0) + payU ls ps c := by funext c; rfl
    have h1 := sumT_one T (fun c => if c ∈ r then v else 0) (fun c => by split <;> omega) hTc n (by omega)
    rw [e, sumT_add]
    simp only [hc, if_true] at h1
    unfold sumI
    omega
/-- What a bill tells of all that solves. -/
structure BillOk (n : Nat) (ls : List (List Int)) (least : Int) (up : List Int) : Prop where
  len : up.length = n
  low : ∀ T, SolT ls T → least ≤ 1048576 * (crdT n T : Nat)
  one : ∀ T, SolT ls T → ∀ x : Nat, x < n → T (x : Int) = true → least + up.getD x 0 ≤ 1048576 * (crdT n T : Nat)
  few : -1000000000000 ≤ least ∧ least ≤ 1000000000000
  each : ∀ v, v ∈ up → -1000000000000 ≤ v ∧ v ≤ 1000000000000
/-- The bill by prices. -/
def upP (ls : List (List Int)) (ps : List Int) (n : Nat) : List Int := (List.range n).map fun c : Nat => 1048576 - payU ls ps c
def leastP (ls : List (List Int)) (ps : List Int) (n : Nat) : Int := sumI ps + negS (fun c => 1048576 - payU ls ps c) n
theorem up_get {ls : List (List Int)} {ps : List Int} {n x : Nat} (h : x < n) : (upP ls ps n)[x]? = some (1048576 - payU ls ps x) := by
  unfold upP
  rw [List.getElem?_map, List.getElem?_range h]; rfl
theorem neg_bound {f : Int → Int} {u : Int} (hu : 0 ≤ u) (h : ∀ c, -u ≤ f c) : ∀ n, -(u * (n : Nat)) ≤ negS f n ∧ negS f n ≤ 0
  | 0 => by simp [negS]
  | n + 1 => by
    have := neg_bound hu h n
    have := h n
    unfold negS
    rw [Int.natCast_add, Int.mul_add]
    simp
    omega
theorem up_bound {_n : Nat} {ls : List (List Int)} {ps : List Int} (hv : ∀ v, v ∈ ps → 0 ≤ v ∧ v ≤ 1048576) (hr : ps.length ≤ 100) (c : Int) : -104857600 ≤ 1048576 - payU ls ps c ∧ 1048576 - payU ls ps c ≤ 1048576 := by
  have h1 := pay_nonneg ls ps (fun v h => (hv v h).1) c
  have h2 := pay_le (u := 1048576) ls ps hv c
  have h3 := sum_le ps hv
  omega
theorem bill_of {n : Nat} {ls : List (List Int)} {ps : List Int} (hl : LowM n ls) (hlen : ps.length = ls.length) (hv : ∀ v, v ∈ ps → 0 ≤ v ∧ v ≤ 1048576) (hn : n ≤ 100) (hr : ls.length ≤ 100) : BillOk n ls (leastP ls ps n) (upP ls ps n) := by
  have hv0 : ∀ v, v ∈ ps → 0 ≤ v := fun v h => (hv v h).1
  have key : ∀ T, SolT ls T → sumT T (fun c => 1048576 - payU ls ps c) n + sumI ps ≤ 1048576 * (crdT n T : Nat) := fun T hT => by
    have h1 := pay_all ls ps hl hT hv0 hlen
    have h2 := sumT_unit T (payU ls ps) 1048576 n
    omega
  have hb := fun c => up_bound (_n := n) (ls := ls) hv (by omega) c
  have hs := sum_le ps hv
  have hn2 := neg_bound (u := 104857600) (by omega) (fun c => (hb c).1) n
  refine ⟨by unfold upP; simp, fun T hT => ?_, fun T hT x hx hTx => ?_, ?_, fun v hv' => ?_⟩
  · have h1 := key T hT
    have h2 := neg_le T (fun c => 1048576 - payU ls ps c) n
    unfold leastP
    omega
  · have h1 := key T hT
    have h2 := neg_one T (fun c => 1048576 - payU ls ps c) hTx n hx
    unfold leastP
    rw [List.getD_eq_getElem?_getD, up_get hx]
    show _ + negS _ n + (1048576 - payU ls ps x) ≤ _
    omega
  · unfold leastP
    omega
  · obtain ⟨c, -, rfl⟩ := List.mem_map.1 (show v ∈ (List.range n).map fun c : Nat => 1048576 - payU ls ps c from hv')
    have := hb c
    omega
theorem bill_none {n : Nat} {ls : List (List Int)} (_hn : n ≤ 100) : BillOk n ls 0 (List.replicate n 0) := by
  refine ⟨List.length_replicate, fun T _ => by omega, fun T _ x hx _ => ?_, by omega, fun v hv => ?_⟩
  · rw [List.getD_eq_getElem?_getD, List.getElem?_replicate, if_pos hx]
    show (0 : Int) + 0 ≤ _
    omega
  · rw [(List.mem_replicate.1 hv).2]; omega

/-! ### What a step adds -/
def woC (c : Cho) (f : Int → Bool) : Cho := ⟨c.t, c.nm, c.ls.map fun r => r.filter fun x => !f x⟩
def wiC (c : Cho) (x : Int) : Cho := ⟨c.t, c.nm, c.ls ++ [[x]]⟩
theorem wo_snd {L : List (List Int)} {c : Cho} {f : Int → Bool} (h : Snd L c) : Snd L (woC c f) := fun R hR => h R fun q hq => by
  obtain ⟨r, hr, rfl⟩ := List.mem_map.1 (show q ∈ c.ls.map (atL c.nm) from hq)
  obtain ⟨y, hy, h1⟩ := hR (atL c.nm (r.filter fun x => !f x)) (List.mem_map.2 ⟨_, List.mem_map.2 ⟨r, hr, rfl⟩, rfl⟩)
  obtain ⟨x, hx, rfl⟩ := List.mem_map.1 (show y ∈ (r.filter fun x => !f x).map _ from hy)
  exact ⟨_, List.mem_map.2 ⟨x, (List.mem_filter.1 hx).1, rfl⟩, h1⟩
theorem wi_snd {L : List (List Int)} {c : Cho} {x : Int} (h : Snd L c) : Snd L (wiC c x) := fun R hR => h R fun q hq => by
  obtain ⟨r, hr, rfl⟩ := List.mem_map.1 (show q ∈ c.ls.map (atL c.nm) from hq)
  exact hR _ (List.mem_map.2 ⟨r, List.mem_append_left _ hr, rfl⟩)
theorem wo_right {c : Cho} {f : Int → Bool} (h : rightM c.nm.length c.ls = true) : rightM (woC c f).nm.length (woC c f).ls = true := by
  obtain ⟨h1, h2, h3⟩ := right_iff.1 h
  refine right_iff.2 ⟨h1, h2, fun l hl => ?_⟩
  obtain ⟨r, hr, rfl⟩ := List.mem_map.1 (show l ∈ c.ls.map fun r => r.filter fun x => !f x from hl)
  exact (h3 r hr).filter _
theorem wi_right {c : Cho} {x : Nat} (h : rightM c.nm.length c.ls = true) (hx : x < c.nm.length) : rightM (wiC c x).nm.length (wiC c x).ls = true := by
  obtain ⟨h1, h2, h3⟩ := right_iff.1 h
  refine right_iff.2 ⟨h1, h2, fun l hl => ?_⟩
  rcases List.mem_append.1 (show l ∈ c.ls ++ [[(x : Int)]] from hl) with h | h
  · exact h3 l h
  · rw [List.mem_singleton.1 h]
    exact ⟨fun y hy => by rw [List.mem_singleton.1 hy]; show 0 ≤ (x : Int) ∧ (x : Int) < (c.nm.length : Nat); omega, by simp⟩
theorem wo_hop {c : Cho} {f : Int → Bool} {T : Int → Bool} {k : Nat} (hT : SolT c.ls T) (hk : c.t.length + crdT c.nm.length T ≤ k) (hf : ∀ r, r ∈ c.ls → ∀ x, x ∈ r → T x = true → f x = false) : Hop (woC c f) k := by
  refine ⟨T, fun q hq => ?_, hk⟩
  obtain ⟨r, hr, rfl⟩ := List.mem_map.1 (show q ∈ c.ls.map fun r => r.filter fun x => !f x from hq)
  obtain ⟨x, hx, h1⟩ := hT r hr
  exact ⟨x, List.mem_filter.2 ⟨hx, by rw [hf r hr x hx h1]; rfl⟩, h1⟩
/-- A column is among those that solve, or it is not. -/
theorem two_hop {c : Cho} {k x : Nat} (h : Hop c k) : Hop (woC c fun y => decide (y = (x : Int))) k ∨ Hop (wiC c x) k := by
  obtain ⟨T, hT, hk⟩ := h
  by_cases e : T (x : Int) = true
  · refine .inr ⟨T, fun q hq => ?_, hk⟩
    rcases List.mem_append.1 (show q ∈ c.ls ++ [[(x : Int)]] from hq) with h | h
    · exact hT q h
    · rw [List.mem_singleton.1 h]
      exact ⟨x, List.mem_singleton.2 rfl, e⟩
  · exact .inl (wo_hop hT hk fun r hr y hy hy2 => decide_eq_false fun e2 => e (e2 ▸ hy2))
/-- What a bill tells is too dear. -/
def dearB (least most : Int) (up : List Int) (x : Int) : Bool := decide (most < least + up.getD x.toNat 0)
theorem dear_hop {c : Cho} {least : Int} {up : List Int} {B k : Nat} (hb : BillOk c.nm.length c.ls least up) (hl : LowM c.nm.length c.ls) (hk : k < B) (h : Hop c k) : Hop (woC c (dearB least (((B : Int) - (c.t.length : Nat) - 1) * 1048576) up)) k := by
  obtain ⟨T, hT, hle⟩ := h
  refine wo_hop hT hle fun r hr x hx hTx => ?_
  obtain ⟨x0, x1⟩ := hl r hr x hx
  obtain ⟨j, rfl⟩ := Int.eq_ofNat_of_zero_le x0
  have h1 := hb.one T hT j (by omega) hTx
  unfold dearB
  rw [Int.toNat_natCast]
  refine decide_eq_false ?_
  omega
theorem prune_hop {c : Cho} {least : Int} {up : List Int} {B k : Nat} (hb : BillOk c.nm.length c.ls least up) (hk : k < B) (hm : ((B : Int) - (c.t.length : Nat) - 1) * 1048576 < least) : ¬ Hop c k := by
  rintro ⟨T, hT, hle⟩
  have h1 := hb.low T hT
  omega
theorem wo_cols {c : Cho} {f : Int → Bool} {x : Nat} (hx : x < c.nm.length) (hf : f x = true) : (redC (woC c f)).nm.length + 1 ≤ c.nm.length := by
  have h1 := redC_cols (c := woC c f)
  have h2 : crdT c.nm.length (usdT (woC c f).ls) + 1 ≤ c.nm.length := crd_miss hx (by
    cases e : usdT (woC c f).ls (x : Int) with
    | false => rfl
    | true =>
      obtain ⟨q, hq, hm⟩ := usd_iff.1 e
      obtain ⟨r, hr, rfl⟩ := List.mem_map.1 (show q ∈ c.ls.map fun r => r.filter fun x => !f x from hq)
      have := (List.mem_filter.1 hm).2
      rw [hf] at this
      cases this)
  exact Nat.le_trans (Nat.succ_le_succ h1) h2

/-! ### Parts -/
structure PartsOk (ls : List (List Int)) (ps : List (List (List Int))) : Prop where
  all : ∀ r, r ∈ ls → ∃ p, p ∈ ps ∧ r ∈ p
  sub : ∀ p, p ∈ ps → ∀ r, r ∈ p → r ∈ ls
  few : ∀ p, p ∈ ps → p.length ≤ ls.length
  some : ∀ p, p ∈ ps → p ≠ []
  apart : ps.Pairwise fun p q => ∀ r, r ∈ p → ∀ x, x ∈ r → ∀ s, s ∈ q → x ∉ s
def sumW : List Nat → Nat
  | [] => 0
  | v :: l => v + sumW l
theorem crd_two {n : Nat} {U V : Int → Bool} (h : ∀ c : Nat, c < n → U c = true → V c = false) : crdT n U + crdT n V ≤ crdT n fun x => U x || V x := by
  induction n with
  | zero => exact Nat.le_refl _
  | succ n ih =>
    have ih := ih fun c hc => h c (by omega)
    have hn := h n (Nat.lt_succ_self _)
    rw [crd_succ, crd_succ, crd_succ]
    cases eU : U (n : Int) <;> cases eV : V (n : Int)
    · simp; omega
    · simp; omega
    · simp; omega
    · rw [hn eU] at eV; cases eV
theorem parts_sum {n : Nat} (T : Int → Bool) : ∀ ps : List (List (List Int)), (ps.Pairwise fun p q => ∀ r, r ∈ p → ∀ x, x ∈ r → ∀ s, s ∈ q → x ∉ s) →
    sumW (ps.map fun p => crdT n fun x => T x && usdT p x) ≤ crdT n fun x => T x && ps.any fun p => usdT p x
  | [], _ => Nat.zero_le _
  | p :: ps, h => by
    obtain ⟨h1, h2⟩ := List.pairwise_cons.1 h
    have ih := parts_sum (n := n) T ps h2
    have ht := crd_two (n := n) (U := fun x => T x && usdT p x) (V := fun x => T x && ps.any fun p => usdT p x) fun c _ hc => by
      rw [Bool.and_eq_true] at hc
      obtain ⟨r, hr, hx⟩ := usd_iff.1 hc.2
      rw [Bool.and_eq_false_iff]
      refine .inr ?_
      rw [List.any_eq_false]
      intro q hq hu
      obtain ⟨s, hs, hxs⟩ := usd_iff.1 hu
      exact h1 q hq r hr _ hx s hs hxs
    have he : crdT n (fun x => (T x && usdT p x) || (T x && ps.any fun p => usdT p x)) ≤ crdT n fun x => T x && (p :: ps).any fun p => usdT p x := crd_le fun c _ hc => by
      rw [List.any_cons]
      cases e : T (c : Int) <;> simp_all
    show crdT n (fun x => T x && usdT p x) + sumW (ps.map _) ≤ _
    omega
theorem parts_le {n : Nat} {T : Int → Bool} {ps : List (List (List Int))} (h : ps.Pairwise fun p q => ∀ r, r ∈ p → ∀ x, x ∈ r → ∀ s, s ∈ q → x ∉ s) :
    sumW (ps.map fun p => crdT n fun x => T x && usdT p x) ≤ crdT n T :=
  Nat.le_trans (parts_sum T ps h) (crd_le fun c _ hc => by rw [Bool.and_eq_true] at hc; exact hc.1)
/-- The steps that parts may take. -/
def wtP (n : Nat) (ps : List (List (List Int))) : Nat := sumW (ps.map fun p => 2 ^ crdT n (usdT p) - 1)
theorem wt_sum (n : Nat) : ∀ ps : List (List (List Int)), wtP n ps ≤ 2 ^ sumW (ps.map fun p => crdT n (usdT p)) - 1
  | [] => Nat.zero_le _
  | p :: ps => by
    have ih := wt_sum n ps
    show (2 ^ crdT n (usdT p) - 1) + wtP n ps ≤ 2 ^ (crdT n (usdT p) + sumW (ps.map fun p => crdT n (usdT p))) - 1
    rw [Nat.pow_add]
    have h1 : 1 ≤ 2 ^ crdT n (usdT p) := Nat.one_le_two_pow
    have h2 : 1 ≤ 2 ^ sumW (ps.map fun p => crdT n (usdT p)) := Nat.one_le_two_pow
    generalize 2 ^ crdT n (usdT p) = a at *
    generalize 2 ^ sumW (ps.map fun p => crdT n (usdT p)) = b at *
    obtain ⟨a, rfl⟩ := Nat.exists_eq_add_of_le h1
    obtain ⟨b, rfl⟩ := Nat.exists_eq_add_of_le h2
    have : (1 + a) * (1 + b) = 1 + a + b + a * b := by rw [Nat.add_mul, Nat.mul_add, Nat.mul_add]; omega
    omega
theorem part_one {n : Nat} {ls : List (List Int)} {ps : List (List (List Int))} (hl : LowM n ls) (hb : bareB ls = false) (hp : PartsOk ls ps) {p : List (List Int)} (hm : p ∈ ps) : 1 ≤ crdT n (usdT p) := by
  obtain ⟨r, hr⟩ := List.exists_mem_of_ne_nil p (hp.some p hm)
  have hr0 : r ≠ [] := fun e => by
    unfold bareB at hb
    rw [List.any_eq_false] at hb
    exact hb r (hp.sub p hm r hr) (by rw [e]; rfl)
  obtain ⟨x, hx⟩ := List.exists_mem_of_ne_nil r hr0
  obtain ⟨x0, x1⟩ := hl r (hp.sub p hm r hr) x hx
  obtain ⟨k, rfl⟩ := Int.eq_ofNat_of_zero_le x0
  have := crd_more (n := n) (U := fun _ => false) (V := usdT p) (c := k) (fun _ _ h => by cases h) (by omega) rfl (usd_iff.2 ⟨r, hr, hx⟩)
  omega
theorem parts_cols {n : Nat} {ls : List (List Int)} {ps : List (List (List Int))} (hp : PartsOk ls ps) : sumW (ps.map fun p => crdT n (usdT p)) ≤ n := by
  have h := parts_le (n := n) (T := fun _ => true) hp.apart
  simp only [Bool.true_and] at h
  exact Nat.le_trans h (crd_all _ _)
theorem sumW_mem {v : Nat} : ∀ {l : List Nat}, v ∈ l → v ≤ sumW l
  | [], h => absurd h List.not_mem_nil
  | a :: l, h => by
    unfold sumW
    rcases List.mem_cons.1 h with rfl | h
    · omega
    · have := sumW_mem h; omega
/-- Two parts or more take fewer steps than the whole. -/
theorem wt_parts {n : Nat} {ls : List (List Int)} {ps : List (List (List Int))} (hl : LowM n ls) (hb : bareB ls = false) (hp : PartsOk ls ps) (h2 : 1 < ps.length) : wtP n ps + 2 ≤ 2 ^ n ∧ ∀ p, p ∈ ps → crdT n (usdT p) + 1 ≤ n := by
  have hc := parts_cols (n := n) hp
  match ps, h2, hp, hc with
  | p :: q :: ps, _, hp, hc =>
    have a1 := part_one hl hb hp (p := p) (List.mem_cons_self ..)
    have b1 := part_one hl hb hp (p := q) (List.mem_cons_of_mem _ (List.mem_cons_self ..))
    constructor
    · have hw := wt_sum n (q :: ps)
      have e : wtP n (p :: q :: ps) = (2 ^ crdT n (usdT p) - 1) + wtP n (q :: ps) := rfl
      have e2 : sumW ((p :: q :: ps).map fun p => crdT n (usdT p)) = crdT n (usdT p) + sumW ((q :: ps).map fun p => crdT n (usdT p)) := rfl
      have b2 : 1 ≤ sumW ((q :: ps).map fun p => crdT n (usdT p)) := by
        show 1 ≤ crdT n (usdT q) + _
        omega
      rw [e2] at hc
      rw [e]
      have hpow : 2 ^ (crdT n (usdT p) + sumW ((q :: ps).map fun p => crdT n (usdT p))) ≤ 2 ^ n := Nat.pow_le_pow_right (by decide) hc
      rw [Nat.pow_add] at hpow
      have p1 : 2 ^ 1 ≤ 2 ^ crdT n (usdT p) := Nat.pow_le_pow_right (by decide) a1
      have p2 : 2 ^ 1 ≤ 2 ^ sumW ((q :: ps).map fun p => crdT n (usdT p)) := Nat.pow_le_pow_right (by decide) b2
      generalize 2 ^ crdT n (usdT p) = a at *
      generalize 2 ^ sumW ((q :: ps).map fun p => crdT n (usdT p)) = b at *
      obtain ⟨a, rfl⟩ := Nat.exists_eq_add_of_le p1
      obtain ⟨b, rfl⟩ := Nat.exists_eq_add_of_le p2
      have : (2 ^ 1 + a) * (2 ^ 1 + b) = 4 + 2 * a + 2 * b + a * b := by rw [Nat.add_mul, Nat.mul_add, Nat.mul_add]; omega
      omega
    · intro r hr
      have e2 : sumW ((p :: q :: ps).map fun p => crdT n (usdT p)) = crdT n (usdT p) + (crdT n (usdT q) + sumW (ps.map fun p => crdT n (usdT p))) := rfl
      rw [e2] at hc
      rcases List.mem_cons.1 hr with rfl | hr
      · omega
      · rcases List.mem_cons.1 hr with rfl | hr
        · omega
        · have := sumW_mem (l := ps.map fun p => crdT n (usdT p)) (List.mem_map.2 ⟨r, hr, rfl⟩)
          omega

/-! ### The search -/
/-- A choice that may stand on the stack. -/
structure ChoOk (L : List (List Int)) (M : Nat) (c : Cho) : Prop where
  snd : Snd L c
  right : rightM c.nm.length c.ls = true
  bare : bareB c.ls = false
  some : c.ls ≠ []
  few : c.t.length + c.ls.length + c.nm.length ≤ M
def grdC (c : Cho) : List Int := c.t ++ atL c.nm (flgL (grdT c.nm.length c.ls) c.nm.length)
/-- What add makes of the best, and of the stack. -/
def addBs (b : List Int) (c : Cho) : List Int := if bareB (redC c).ls = true then b else if (grdC (redC c)).length < b.length then grdC (redC c) else b
def addSk (stk : List Cho) (c : Cho) : List Cho := if bareB (redC c).ls = true then stk else if (redC c).ls = [] then stk else stk ++ [redC c]
theorem addBs_le (b : List Int) (c : Cho) : (addBs b c).length ≤ b.length := by
  unfold addBs
  split
  · exact Nat.le_refl _
  · split <;> omega
theorem bare_hop {c : Cho} {k : Nat} (h : bareB c.ls = true) : ¬ Hop c k := by
  rintro ⟨T, hT, -⟩
  unfold bareB at h
  obtain ⟨r, hr, h1⟩ := List.any_eq_true.1 h
  have := List.eq_nil_of_length_eq_zero (of_decide_eq_true h1)
  subst this
  obtain ⟨x, hx, -⟩ := hT [] hr
  cases hx
theorem grd_names {L : List (List Int)} {c : Cho} (hs : Snd L c) (hr : rightM c.nm.length c.ls = true) (hb : bareB c.ls = false) : SolN L (grdC c) := by
  refine hs _ (names_sol (grd_solves (n := c.nm.length) (low_of hr) hb) fun r h x hx hT => ?_)
  obtain ⟨x0, x1⟩ := low_of hr r h x hx
  obtain ⟨k, rfl⟩ := Int.eq_ofNat_of_zero_le x0
  exact List.mem_map.2 ⟨k, mem_flg.2 ⟨k, rfl, by omega, hT⟩, rfl⟩
theorem grd_nil {c : Cho} (h : c.ls = []) : (grdC c).length = c.t.length := by
  unfold grdC
  rw [h, List.length_append, atL_len, flg_len]
  have : grdT c.nm.length [] = fun _ => false := rfl
  rw [this, crd_zero]; rfl
theorem add_best {L : List (List Int)} {b : List Int} {c : Cho} (hb : SolN L b) (hs : Snd L c) (hr : rightM c.nm.length c.ls = true) : SolN L (addBs b c) := by
  unfold addBs
  split
  · exact hb
  · rename_i h
    split
    · exact grd_names (redC_snd hr hs) (redC_right hr) (by simpa using h)
    · exact hb
theorem add_opn {root c : Cho} {b : List Int} {stk : List Cho} (hr : rightM c.nm.length c.ls = true) (h : Opn root b.length (stk ++ [c])) : Opn root (addBs b c).length (addSk stk c) := by
  intro k hk hh
  have hle := addBs_le b c
  obtain ⟨d, hd, hd2⟩ := h k (by omega) hh
  rcases List.mem_append.1 hd with hd | hd
  · refine ⟨d, ?_, hd2⟩
    unfold addSk
    split
    · exact hd
    · split
      · exact hd
      · exact List.mem_append_left _ hd
  · rw [List.mem_singleton.1 hd] at hd2
    have h2 := redC_hop hr hd2
    unfold addSk
    split
    · rename_i e; exact absurd h2 (bare_hop e)
    · rename_i e
      split
      · rename_i e2
        exfalso
        obtain ⟨T, -, h3⟩ := h2
        have h4 := grd_nil e2
        unfold addBs at hk
        rw [if_neg e] at hk
        split at hk <;> omega
      · exact ⟨redC c, List.mem_append_right _ (List.mem_singleton.2 rfl), h2⟩
/-- The steps that a stack may take. -/
def wtS (stk : List Cho) : Nat := sumW (stk.map fun c => 2 ^ c.nm.length - 1)
theorem sumW_append : ∀ a b : List Nat, sumW (a ++ b) = sumW a + sumW b
  | [], b => by show sumW b = 0 + sumW b; omega
  | x :: a, b => by
    have := sumW_append a b
    show x + sumW (a ++ b) = x + sumW a + sumW b
    omega
theorem wt_push (stk : List Cho) (c : Cho) : wtS (stk ++ [c]) = wtS stk + (2 ^ c.nm.length - 1) := by
  unfold wtS
  rw [List.map_append, sumW_append]
  rfl
theorem wt_add {stk : List Cho} {c : Cho} {u : Nat} (h : bareB (redC c).ls = false → (redC c).nm.length ≤ u) : wtS (addSk stk c) ≤ wtS stk + (2 ^ u - 1) := by
  unfold addSk
  split
  · omega
  · rename_i e
    split
    · omega
    · rw [wt_push]
      have : 2 ^ (redC c).nm.length ≤ 2 ^ u := Nat.pow_le_pow_right (by decide) (h (by simpa using e))
      omega
theorem add_each {L : List (List Int)} {M : Nat} {stk : List Cho} {c : Cho} (h : ∀ d, d ∈ stk → ChoOk L M d) (hs : Snd L c) (hr : rightM c.nm.length c.ls = true) (hM : bareB (redC c).ls = false → c.t.length + c.ls.length + (redC c).nm.length ≤ M) : ∀ d, d ∈ addSk stk c → ChoOk L M d := by
  intro d hd
  unfold addSk at hd
  split at hd
  · exact h d hd
  · rename_i e
    split at hd
    · exact h d hd
    · rename_i e2
      rcases List.mem_append.1 hd with hd | hd
      · exact h d hd
      · rw [List.mem_singleton.1 hd]
        have h1 := redC_few hr
        have h2 := hM (by simpa using e)
        exact ⟨redC_snd hr hs, redC_right hr, by simpa using e, e2, by omega⟩
/-- How far a search is. -/
structure StOk (L : List (List Int)) (root : Cho) (M : Nat) (b : List Int) (stk : List Cho) (base left : Nat) : Prop where
  best : SolN L b
  opn : Opn root b.length stk
  each : ∀ d, d ∈ stk → ChoOk L M d
  steps : base + wtS stk ≤ left
theorem cho_cols {L : List (List Int)} {M : Nat} {c : Cho} (h : ChoOk L M c) : 1 ≤ c.nm.length := by
  obtain ⟨r, hr⟩ := List.exists_mem_of_ne_nil _ h.some
  have hr0 : r ≠ [] := fun e => by
    have hb := h.bare
    unfold bareB at hb
    rw [List.any_eq_false] at hb
    exact hb r hr (by rw [e]; rfl)
  obtain ⟨x, hx⟩ := List.exists_mem_of_ne_nil r hr0
  obtain ⟨x0, x1⟩ := low_of h.right r hr x hx
  omega
/-- What is on the stack takes a step at least. -/
theorem st_step {L : List (List Int)} {root : Cho} {M : Nat} {b : List Int} {stk : List Cho} {base left : Nat} (h : StOk L root M b stk base left) (hne : stk ≠ []) : base + 1 ≤ left := by
  have hs := h.steps
  match stk, hne, h, hs with
  | c :: stk, _, h, hs =>
    have h1 := cho_cols (h.each c (List.mem_cons_self ..))
    have h2 : 2 ^ 1 ≤ 2 ^ c.nm.length := Nat.pow_le_pow_right (by decide) h1
    have e : wtS (c :: stk) = (2 ^ c.nm.length - 1) + wtS stk := rfl
    omega
/-- Nothing on the stack: none are fewer. -/
theorem st_end {L : List (List Int)} {root : Cho} {M : Nat} {b : List Int} {base left : Nat} (h : StOk L root M b [] base left) : base ≤ left ∧ SolN L b ∧ ∀ k, Hop root k → b.length ≤ k := by
  refine ⟨by have := h.steps; omega, h.best, fun k hk => ?_⟩
  refine Nat.le_of_not_lt fun hlt => ?_
  obtain ⟨c, hc, -⟩ := h.opn k hlt hk
  cases hc
end Go.Proofs.Ytcbhcclickjpnaa
namespace Go.Proofs.Ytcbhcclickjpnaa
open Go.RowKit Go.Joins

def clL (ls : List (List Int)) (n : Nat) : List (List Int) := match clI ls n with
  | none => ls
  | some c => clR ls c
theorem cl_none {ls : List (List Int)} {n : Nat} (h : ∀ d, d < n → lssC ls n d = false) : clI ls n = none := by
  unfold clI
  refine find_no _ _ fun j y hj => ?_
  obtain ⟨h1, h2⟩ := List.getElem?_eq_some_iff.1 hj
  rw [List.getElem_range] at h2
  subst h2
  exact h _ (by simpa using h1)
theorem cl_some {ls : List (List Int)} {n c : Nat} (hc : c < n) (hy : lssC ls n c = true) (h : ∀ d, d < c → lssC ls n d = false) : clI ls n = some c := by
  unfold clI
  refine find_at _ _ c c (by rw [List.getElem?_range hc]) hy fun j y hj hr => ?_
  obtain ⟨h1, h2⟩ := List.getElem?_eq_some_iff.1 hr
  rw [List.getElem_range] at h2
  subst h2
  exact h _ hj
def otC14 (c : Int) (l : List Int) : List Int := l.filter fun x => !decide (x = c)
theorem own_blk14 {w : World} {B size n : Nat} {e : TypeId} {v : Value} {xs : List Value} (h : w.ownsRow B e size v n xs) {g : Nat} (hg : v.ownBlock = some g) : ∃ cu, w.heap[g]? = some (.cells cu e (0, 0)) := by
  rcases h.2 with ⟨rfl, -⟩ | ⟨g', cap, cur, rfl, -, hb, -⟩
  · cases hg
  · injection hg with hg
    subst hg
    exact ⟨cur, hb⟩
theorem own_apart14 {w : World} {B B' size size' n n' : Nat} {e e' : TypeId} {v v' : Value} {xs xs' : List Value} (h : w.ownsRow B e size v n xs) (h' : w.ownsRow B' e' size' v' n' xs') (he : e ≠ e') {g : Nat} (h1 : v.ownBlock = some g) (h2 : v'.ownBlock = some g) : False := by
  obtain ⟨cu, q1⟩ := own_blk14 h h1
  obtain ⟨cu', q2⟩ := own_blk14 h' h2
  rw [q1] at q2
  injection q2 with q2
  injection q2 with _ q2 _
  exact he q2
end Go.Proofs.Ytcbhcclickjpnaa
namespace Go.Proofs.Ytcbhcclickjpnaa
open Go.RowKit Go.Joins

theorem IntsAt.oneC {w : World} {B : Nat} {v : Value} {l : List Int} (h : IntsAt w B v l) : v.oneCell' = true := by
  obtain ⟨A, c, rfl, -⟩ := h
  rfl
set_option maxRecDepth 100000 in
theorem appendMc {w : World} {B : Nat} {V v : Value} {xs l : List (List Int)} {vs : List Value} (ty : TypeId) (hown : w.ownsRow B 30 1 V xs.length vs) (hvl : vs.length = xs.length) (hin : RowsIn w V xs vs) (hB : B ≤ w.heap.size) (hz : MatAt w B v l) (h1 : xs.length ≤ 100000) (h2 : l.length ≤ 100000) :
    ∃ v' w' vs', (Builtin.append_ #[22, 22] ty #[V, v]).run Try.prog w = .ok v' w' ∧ w'.ownsRow B 30 1 v' (xs ++ l).length vs' ∧ vs'.length = (xs ++ l).length ∧ RowsIn w' v' (xs ++ l) vs' ∧ Below B w w' ∧ (∀ u, u ∈ vs' → u ∈ vs ∨ ∃ a n c j, v = .slice (some a) n c ∧ j < n ∧ w.cell? (a.add j) = some u) := by
  obtain ⟨j0, hj0, jz0, jz1, jz2⟩ := info_parts Try.infoInts
  obtain ⟨A, c, rfl, hl, hc⟩ := hz
  cases A with
  | none =>
    have h0 : l = [] := by
      cases l with
      | nil => rfl
      | cons x r => obtain ⟨b, off, e, _⟩ := hc (by simp); cases e
    subst h0
    refine ⟨V, w, vs, ?_, by rw [List.append_nil]; exact hown, by rw [List.append_nil]; exact hvl, by rw [List.append_nil]; exact hin, Below.refl _ _, fun u hu => .inl hu⟩
    rcases hown.2 with ⟨rfl, h⟩ | ⟨g, cap, cur, rfl, _, _, hnc, _⟩
    · simp [Builtin.append_, run_underlying Try.underlying22, sizeOf, typeInfo, hj0, Builtin.lenOf, Builtin.firstCells]
    · simp [Builtin.append_, run_underlying Try.underlying22, sizeOf, typeInfo, hj0, Builtin.lenOf, Builtin.firstCells, hnc, storeCells]
  | some a =>
    have each : ∀ j, j < l.length → ∃ u, w.cell? (a.add j) = some u ∧ IntsAt w B u (l.getD j []) := by
      intro j hj
      obtain ⟨b, off, e, hb, hcell⟩ := hc (by omega)
      injection e with e
      subst e
      obtain ⟨x, hx⟩ : ∃ x, l[j]? = some x := ⟨_, List.getElem?_eq_getElem hj⟩
      obtain ⟨ov, c0, hi⟩ := hcell j x hx
      exact ⟨ov, by rw [Addr.add_lit]; exact c0, by rw [List.getD_eq_getElem?_getD, hx]; exact hi⟩
    obtain ⟨F, hF⟩ := Go.Deep.choose_lt each
    have hus : ((List.range l.length).map F).length = l.length := by simp
    have hget : ∀ j u, ((List.range l.length).map F)[j]? = some u → j < l.length ∧ u = F j := by
      intro j u hu
      obtain ⟨h3, h4⟩ := List.getElem?_eq_some_iff.1 hu
      rw [hus] at h3
      refine ⟨h3, ?_⟩
      rw [← h4]
      simp
    obtain ⟨v', w', hrun, ho, hg, -, hat⟩ := run_append_own_at (P := Try.prog) w B 22 ty 30 j0 (.slice none 0 0) 1 24 Try.underlying22 hj0 jz0 jz1 jz2 rfl (by decide) V xs.length vs hown a l.length c ((List.range l.length).map F) (by rw [hus, Nat.mul_one])
      (fun j u hu => by
        obtain ⟨h3, rfl⟩ := hget j u hu
        exact (hF j h3).1)
      (fun u hu => by
        obtain ⟨j, hj⟩ := List.mem_iff_getElem?.1 hu
        obtain ⟨h3, rfl⟩ := hget j u hj
        exact (hF j h3).2.oneC) (by unfold maxLen; omega) (by omega) hB
    have hb : Below B w w' := (Below.refl B w).grown hg hB (fun k hk => (hown.lt k hk).1)
    refine ⟨v', w', vs ++ (List.range l.length).map F, hrun, by rw [List.length_append]; exact ho, by rw [List.length_append, List.length_append, hus, hvl], ?_, hb, fun u hu => (List.mem_append.1 hu).imp id fun hu => ?_⟩
    · intro j x hj
      rcases Nat.lt_or_ge j xs.length with hlt | hge
      · rw [List.getElem?_append_left hlt] at hj
        obtain ⟨u, hu, hi⟩ := hin j x hj
        refine ⟨u, by rw [List.getElem?_append_left (by omega)]; exact hu, hi.keep (fun b hN => hg.block b hN.1 (fun e => hN.2 e.symm)) (fun b hN => ⟨Nat.lt_of_lt_of_le hN.1 hg.size, fun e => ?_⟩)⟩
        rcases hat with h3 | h3
        · exact hN.2 (h3.symm.trans e)
        · rw [h3] at e
          injection e with e
          have := hN.1
          omega
      · rw [List.getElem?_append_right hge] at hj
        have hlj := (List.getElem?_eq_some_iff.1 hj).1
        have hi := (hF _ hlj).2
        rw [show l.getD (j - xs.length) [] = x by rw [List.getD_eq_getElem?_getD, hj]; rfl] at hi
        refine ⟨F (j - xs.length), by rw [List.getElem?_append_right (by omega), hvl, List.getElem?_map, List.getElem?_range hlj]; rfl, ?_⟩
        have hi2 : IntsN w (fun b => b < B) (F (j - xs.length)) x := hi.intsN fun b _ _ _ _ _ hb' => hb'
        refine hi2.keep (fun b hN => hb.block b hN) (fun b hN => ⟨Nat.lt_of_lt_of_le hN (Nat.le_trans hB hg.size), fun e => ?_⟩)
        have := (ho.lt b e).1
        omega
    · obtain ⟨j, hj⟩ := List.mem_iff_getElem?.1 hu
      obtain ⟨h3, rfl⟩ := hget j u hj
      exact ⟨a, _, _, j, rfl, h3, (hF j h3).1⟩
end Go.Proofs.Ytcbhcclickjpnaa
namespace Go.Proofs.Ytcbhcclickjpnaa
open Go.RowKit Go.Joins

end Go.Proofs.Ytcbhcclickjpnaa
