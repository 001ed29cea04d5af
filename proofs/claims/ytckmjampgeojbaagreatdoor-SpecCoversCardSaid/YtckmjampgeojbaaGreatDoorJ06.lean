/- Rows and specs: what they are in memory, and what is said of them, plain. Which tables are right, by the program: between, the lines' closures, ContainsFunc over numbers and over lines, rightLine, Right. Right of the package pla, and of the document's own answers, for every table. Rows of the package spec: value, cubesRight, outsRight, for every list of rows. Right of the package spec, for every spec. -/
import Derived.Test.YtckmjampgeojbaaGreatDoorJ03
import Derived.Test.YtckmjampgeojbaaGreatDoorJ05
import Derived.Test.YtckmjampgeojbaaGreatDoorJ02
namespace Go.Proofs.YtckmjampgeojbaaGreatDoor
open Go.RowKit Go.Joins

/-- A row: a cube, and the bits of its outputs. -/
structure Rw where
  m : BitVec 8
  v : BitVec 8
  o : BitVec 8
/-- What is asked for. -/
structure Sp where
  i : Int
  on : List (BitVec 256)
  may : List (BitVec 256)
/-- The slice v reads as the sets Ss; what it reads lies below block B. -/
def SetsAt (w : World) (B : Nat) (v : Value) (Ss : List (BitVec 256)) : Prop :=
  ∃ A c, v = .slice A Ss.length c ∧ Ss.length ≤ 9223372036854775807 ∧
    (0 < Ss.length → ∃ b off, A = some ⟨b, off, none⟩ ∧ b < B ∧ ∀ j X, Ss[j]? = some X → w.cell? ⟨b, off + j * 4, none⟩ = some (wv (wd X 0)) ∧ w.cell? ⟨b, off + j * 4 + 1, none⟩ = some (wv (wd X 1)) ∧
      w.cell? ⟨b, off + j * 4 + 2, none⟩ = some (wv (wd X 2)) ∧ w.cell? ⟨b, off + j * 4 + 3, none⟩ = some (wv (wd X 3)))
/-- The slice v reads as the rows rs. -/
def RwsAt (w : World) (B : Nat) (v : Value) (rs : List Rw) : Prop :=
  ∃ A c, v = .slice A rs.length c ∧ rs.length ≤ 9223372036854775807 ∧
    (0 < rs.length → ∃ b off, A = some ⟨b, off, none⟩ ∧ b < B ∧ ∀ j x, rs[j]? = some x → w.cell? ⟨b, off + j * 3, none⟩ = some (bvv x.m) ∧ w.cell? ⟨b, off + j * 3 + 1, none⟩ = some (bvv x.v) ∧
      w.cell? ⟨b, off + j * 3 + 2, none⟩ = some (bvv x.o))
def spv (i : Int) (A C : Value) : Value := .agg #[.int .i64 i, A, C]
def spb (i : Int) (A C : Value) : Obj := .cells #[.int .i64 i, A, C] 24 (0, 0)
def rwv (x : Rw) : Value := .agg #[bvv x.m, bvv x.v, bvv x.o]

theorem SetsAt.below {w w' : World} {B : Nat} {v : Value} {Ss : List (BitVec 256)} (h : SetsAt w B v Ss) (hb : Below B w w') : SetsAt w' B v Ss := by
  obtain ⟨A, c, e, hl, h⟩ := h
  refine ⟨A, c, e, hl, fun h0 => ?_⟩
  obtain ⟨b, off, eA, hB, hc⟩ := h h0
  refine ⟨b, off, eA, hB, fun j X hx => ?_⟩
  obtain ⟨a0, a1, a2, a3⟩ := hc j X hx
  exact ⟨(hb.cell (p := ⟨b, off + j * 4, none⟩) hB).trans a0, (hb.cell (p := ⟨b, off + j * 4 + 1, none⟩) hB).trans a1, (hb.cell (p := ⟨b, off + j * 4 + 2, none⟩) hB).trans a2, (hb.cell (p := ⟨b, off + j * 4 + 3, none⟩) hB).trans a3⟩
theorem SetsAt.more {w : World} {B B' : Nat} {v : Value} {Ss : List (BitVec 256)} (h : SetsAt w B v Ss) (hB : B ≤ B') : SetsAt w B' v Ss := by
  obtain ⟨A, c, e, hl, h⟩ := h
  refine ⟨A, c, e, hl, fun h0 => ?_⟩
  obtain ⟨b, off, eA, hb, hc⟩ := h h0
  exact ⟨b, off, eA, by omega, hc⟩
theorem RwsAt.below {w w' : World} {B : Nat} {v : Value} {rs : List Rw} (h : RwsAt w B v rs) (hb : Below B w w') : RwsAt w' B v rs := by
  obtain ⟨A, c, e, hl, h⟩ := h
  refine ⟨A, c, e, hl, fun h0 => ?_⟩
  obtain ⟨b, off, eA, hB, hc⟩ := h h0
  refine ⟨b, off, eA, hB, fun j X hx => ?_⟩
  obtain ⟨a0, a1, a2⟩ := hc j X hx
  exact ⟨(hb.cell (p := ⟨b, off + j * 3, none⟩) hB).trans a0, (hb.cell (p := ⟨b, off + j * 3 + 1, none⟩) hB).trans a1, (hb.cell (p := ⟨b, off + j * 3 + 2, none⟩) hB).trans a2⟩
theorem RwsAt.more {w : World} {B B' : Nat} {v : Value} {rs : List Rw} (h : RwsAt w B v rs) (hB : B ≤ B') : RwsAt w B' v rs := by
  obtain ⟨A, c, e, hl, h⟩ := h
  refine ⟨A, c, e, hl, fun h0 => ?_⟩
  obtain ⟨b, off, eA, hb, hc⟩ := h h0
  exact ⟨b, off, eA, by omega, hc⟩

/-! ### Points of rows and of lines -/
/-- Does a row that has the output's bit have the point? -/
def covB (rs : List Rw) (p out : Nat) : Bool := rs.any fun x => x.o.getLsbD out && fits x.m x.v 8 p
def ptsR (rs : List Rw) (n out : Nat) : BitVec 256 := bvOf fun p => decide (p < 2 ^ n) && covB rs p out
/-- Has a line that says x of the output the point? -/
def markB (ls : List Ln) (p out : Nat) (x : Int) : Bool := ls.any fun l => decide (l.o.getD out 9 = x) && fits l.m l.v 8 p
def ptsM (ls : List Ln) (n out : Nat) (x : Int) : BitVec 256 := bvOf fun p => decide (p < 2 ^ n) && markB ls p out x
theorem two_pow_8 {n p : Nat} (hn : n ≤ 8) (hp : p < 2 ^ n) : p < 256 := Nat.lt_of_lt_of_le hp (Nat.le_trans (Nat.pow_le_pow_right (by decide) hn) (by decide : (2 : Nat) ^ 8 ≤ 256))
theorem lowB_bit (g : Nat → Bool) (n p : Nat) (hn : n ≤ 8) : (bvOf fun p => decide (p < 2 ^ n) && g p).getLsbD p = (decide (p < 2 ^ n) && g p) := by
  rw [bvOf_bit]
  by_cases h : p < 2 ^ n
  · simp [h, two_pow_8 hn h]
  · simp [h]
theorem ptsR_bit (rs : List Rw) (n out p : Nat) (hn : n ≤ 8) : (ptsR rs n out).getLsbD p = (decide (p < 2 ^ n) && covB rs p out) := lowB_bit (fun p => covB rs p out) n p hn
theorem ptsM_bit (ls : List Ln) (n out p : Nat) (x : Int) (hn : n ≤ 8) : (ptsM ls n out x).getLsbD p = (decide (p < 2 ^ n) && markB ls p out x) := lowB_bit (fun p => markB ls p out x) n p hn
theorem any_append_one {α : Type} (p : α → Bool) (l : List α) (k : Nat) (x : α) (h : l[k]? = some x) : (l.take (k + 1)).any p = ((l.take k).any p || p x) := by
  have hk : k < l.length := (List.getElem?_eq_some_iff.1 h).1
  have : l[k] = x := (List.getElem?_eq_some_iff.1 h).2
  rw [List.take_succ_eq_append_getElem hk, List.any_append, this]
  simp
theorem low_or (g g' : Nat → Bool) (n : Nat) (hn : n ≤ 8) (S : BitVec 256) (hS : ∀ p, p < 256 → S.getLsbD p = (decide (p < 2 ^ n) && g' p)) :
    (bvOf fun p => decide (p < 2 ^ n) && (g p || g' p)) = (bvOf fun p => decide (p < 2 ^ n) && g p) ||| S := by
  refine bvOf_eq _ _ fun p hp => ?_
  rw [BitVec.getLsbD_or, lowB_bit g n p hn, hS p hp]
  cases decide (p < 2 ^ n) <;> simp
theorem ptsR_skip {rs : List Rw} {k : Nat} {x : Rw} (h : rs[k]? = some x) {out : Nat} (ho : x.o.getLsbD out = false) (n : Nat) : ptsR (rs.take (k + 1)) n out = ptsR (rs.take k) n out := by
  unfold ptsR covB
  congr 1
  funext p
  rw [any_append_one _ rs k x h, ho]
  simp
theorem ptsR_step {rs : List Rw} {k : Nat} {x : Rw} (h : rs[k]? = some x) {out : Nat} (ho : x.o.getLsbD out = true) {n : Nat} (hx : rightB x.m x.v n = true) : ptsR (rs.take (k + 1)) n out = ptsR (rs.take k) n out ||| cpts x.m x.v n n := by
  have hn : n ≤ 8 := by have := (rightB_iff x.m x.v n).1 hx; omega
  rw [← cpts_right hx]
  have hS : ∀ p, p < 256 → (cpts x.m x.v n 8).getLsbD p = (decide (p < 2 ^ n) && fits x.m x.v 8 p) := fun p _ => cpts_bit _ _ _ _ _ hn
  refine Eq.trans ?_ (low_or (fun p => covB (rs.take k) p out) _ n hn _ hS)
  unfold ptsR covB
  congr 1
  funext p
  rw [any_append_one _ rs k x h, ho]
  simp
theorem ptsM_skip {ls : List Ln} {k : Nat} {l : Ln} (h : ls[k]? = some l) {out : Nat} {x : Int} (ho : l.o.getD out 9 ≠ x) (n : Nat) : ptsM (ls.take (k + 1)) n out x = ptsM (ls.take k) n out x := by
  unfold ptsM markB
  congr 1
  funext p
  rw [any_append_one _ ls k l h, decide_eq_false ho]
  simp
theorem ptsM_step {ls : List Ln} {k : Nat} {l : Ln} (h : ls[k]? = some l) {out : Nat} {x : Int} (ho : l.o.getD out 9 = x) {n : Nat} (hx : rightB l.m l.v n = true) : ptsM (ls.take (k + 1)) n out x = ptsM (ls.take k) n out x ||| cpts l.m l.v n n := by
  have hn : n ≤ 8 := by have := (rightB_iff l.m l.v n).1 hx; omega
  rw [← cpts_right hx]
  have hS : ∀ p, p < 256 → (cpts l.m l.v n 8).getLsbD p = (decide (p < 2 ^ n) && fits l.m l.v 8 p) := fun p _ => cpts_bit _ _ _ _ _ hn
  refine Eq.trans ?_ (low_or (fun p => markB (ls.take k) p out x) _ n hn _ hS)
  unfold ptsM markB
  congr 1
  funext p
  rw [any_append_one _ ls k l h, decide_eq_true ho]
  simp
theorem ptsR_zero (rs : List Rw) (n out : Nat) : ptsR (rs.take 0) n out = 0 := by
  refine bvOf_eq _ _ fun p _ => ?_
  simp [covB]
theorem ptsM_zero (ls : List Ln) (n out : Nat) (x : Int) : ptsM (ls.take 0) n out x = 0 := by
  refine bvOf_eq _ _ fun p _ => ?_
  simp [markB]

/-! ### What is right, and what covers -/
def outsB (o : BitVec 8) (k : Nat) : Bool := decide (o ≠ 0) && decide (o.toNat / 2 ^ k = 0)
def rwB (x : Rw) (i : Int) (k : Nat) : Bool := outsB x.o k && rightB x.m x.v i
/-- Of one output: on within may, may within all points. -/
def sideB (s : Sp) (j : Nat) : Bool := decide (s.on.getD j 0 &&& ~~~(s.may.getD j 0) = 0) && decide (s.may.getD j 0 &&& ~~~(allB s.i.toNat) = 0)
def headS (s : Sp) : Bool := decide (0 ≤ s.i) && decide (s.i ≤ 8) && (decide (1 ≤ s.on.length) && decide (s.on.length ≤ 4)) && decide (s.on.length = s.may.length)
def spB (s : Sp) : Bool := headS s && (List.range s.on.length).all (sideB s)
def mayB (s : Sp) (rs : List Rw) : Bool := (rs.all fun x => rightB x.m x.v s.i) && rs.all fun x => outsB x.o s.on.length
/-- Of one output: what is on is covered, what is covered may be on. -/
def coB (s : Sp) (rs : List Rw) (j : Nat) : Bool := decide (s.on.getD j 0 &&& ~~~(ptsR rs s.i.toNat j) = 0) && decide (ptsR rs s.i.toNat j &&& ~~~(s.may.getD j 0) = 0)
def coversB (s : Sp) (rs : List Rw) : Bool := mayB s rs && (List.range s.on.length).all (coB s rs)
theorem headS_iff (s : Sp) : headS s = true ↔ (0 ≤ s.i ∧ s.i ≤ 8) ∧ (1 ≤ s.on.length ∧ s.on.length ≤ 4) ∧ s.on.length = s.may.length := by
  unfold headS; simp [and_assoc]
theorem range_all {n : Nat} {P : Nat → Bool} : (List.range n).all P = true ↔ ∀ j, j < n → P j = true := by
  simp [List.all_eq_true]
theorem range_not {n j : Nat} {P : Nat → Bool} (h : j < n) (hp : P j = false) : (List.range n).all P = false := by
  rw [List.all_eq_false]
  exact ⟨j, by simpa using h, by simp [hp]⟩

/-! ### What a table asks for -/
def mayK (t : Tb) (o : Nat) : BitVec 256 :=
  if t.k = 0 then ptsM t.ls t.i.toNat o 1 else if t.k = 1 then ptsM t.ls t.i.toNat o 1 ||| ptsM t.ls t.i.toNat o 2 else allB t.i.toNat &&& ~~~(ptsM t.ls t.i.toNat o 0)
def bothK (t : Tb) (o : Nat) : Bool := decide (2 ≤ t.k) && decide (ptsM t.ls t.i.toNat o 1 &&& ptsM t.ls t.i.toNat o 0 ≠ 0)
def ofE (t : Tb) : Int := if rightT t = true then (if (List.range t.n.toNat).any (bothK t) = true then 4 else 0) else 1
def ofS (t : Tb) : Sp := ⟨t.i, (List.range t.n.toNat).map fun o => ptsM t.ls t.i.toNat o 1, (List.range t.n.toNat).map (mayK t)⟩
end Go.Proofs.YtckmjampgeojbaaGreatDoor
namespace Go.Proofs.YtckmjampgeojbaaGreatDoor
open Go.RowKit Go.Joins

def firstI {α : Type} (p : α → Bool) (l : List α) : Int := match l.findIdx? p with | some k => k | none => -1
theorem firstI_at {α : Type} {p : α → Bool} {l : List α} {k : Nat} {x : α} (h : l[k]? = some x) (hn : (l.take k).any p = false) (hp : p x = true) : firstI p l = k := by
  unfold firstI
  have hk : k < l.length := (List.getElem?_eq_some_iff.1 h).1
  have : l.findIdx? p = some k := by
    rw [List.findIdx?_eq_some_iff_getElem]
    refine ⟨hk, by rw [(List.getElem?_eq_some_iff.1 h).2]; exact hp, fun j hj => ?_⟩
    rw [List.any_eq_false] at hn
    have := hn (l[j]) (List.mem_iff_getElem.2 ⟨j, by simp; omega, by simp⟩)
    simpa using this
  rw [this]
theorem firstI_none {α : Type} {p : α → Bool} {l : List α} (h : l.any p = false) : firstI p l = -1 := by
  unfold firstI
  have : l.findIdx? p = none := by
    rw [List.findIdx?_eq_none_iff]
    intro x hx
    rw [List.any_eq_false] at h
    simpa using h x hx
  rw [this]
theorem firstI_ge {α : Type} (p : α → Bool) (l : List α) : decide (0 ≤ firstI p l) = l.any p := by
  cases h : l.any p
  · rw [firstI_none h]; rfl
  · unfold firstI
    cases hf : l.findIdx? p with
    | none =>
      rw [List.findIdx?_eq_none_iff] at hf
      rw [List.any_eq_true] at h
      obtain ⟨x, hx, hp⟩ := h
      rw [hf x hx] at hp
      cases hp
    | some k => simp
theorem any_take_succ {α : Type} {p : α → Bool} {l : List α} {k : Nat} {x : α} (h : l[k]? = some x) (hn : (l.take k).any p = false) (hp : p x = false) : (l.take (k + 1)).any p = false := by
  have hk : k < l.length := (List.getElem?_eq_some_iff.1 h).1
  rw [List.take_succ_eq_append_getElem hk, List.any_append, hn]
  have : l[k] = x := (List.getElem?_eq_some_iff.1 h).2
  simp [this, hp]
theorem between_any (n a b : Int) (w : World) : Calls Tryz.prog 54 #[.int .i64 n, .int .i64 a, .int .i64 b] w fun e w' => e = .returned (.bool (decide (a ≤ n) && decide (n ≤ b))) ∧ w = w' := by
  by_cases h : a ≤ n
  · go_enter Tryz.func54, Tryz.ntmps54
    go_wp2
    all_goals
      go_ret
      exact ⟨ret_bool (by first | (simp [*]; done) | (simp [*]; omega)), rfl⟩
  · go_enter Tryz.func54, Tryz.ntmps54
    go_wp2
    all_goals
      go_ret
      exact ⟨ret_bool (by first | (simp [*]; done) | (simp [*]; omega)), rfl⟩
theorem badOut_any (x : Int) (w : World) : Calls Tryz.prog 82 #[.int .i64 x] w fun e w' => e = .returned (.bool (!okOut x)) ∧ w = w' := by
  have H := fun w => between_any x 0 2 w
  have e : Hid ((decide (0 ≤ x) && decide (x ≤ 2)) = okOut x) := Lib.hid rfl
  rw [e.out] at H
  generalize okOut x = q at *
  clear e
  go_enter Tryz.func82, Tryz.ntmps82
  go_wp2_with fail
  refine (H _).mono ?_
  rintro e w1 ⟨rfl, rfl⟩
  go_wp2
  go_ret
  exact ⟨rfl, rfl⟩
set_option maxHeartbeats 1000000 in
theorem indexInts_any (K : Nat) (p : Int → Bool) (A : Option Addr) (c : Nat) (o : List Int) (w : World)
    (hcf : ∀ (args : Array Value) (w1 : World), (Sem.run Tryz.prog (callFunc K args) w1) = .ok (.enter K args) w1)
    (hcl : ∀ x w1, Calls Tryz.prog K #[.int .i64 x] w1 fun e w' => e = .returned (.bool (p x)) ∧ w1 = w')
    (hlen : o.length ≤ 9223372036854775807) (hA : 0 < o.length → ∃ b off, A = some ⟨b, off, none⟩ ∧ b < w.heap.size ∧ ∀ j x, o[j]? = some x → w.cell? ⟨b, off + j, none⟩ = some (.int .i64 x)) :
    Calls Tryz.prog 92 #[.slice A o.length c, .func (.func K) #[] #[]] w fun e w' => e = .returned (.int .i64 (firstI p o)) ∧ w = w' := by
  have hat := Lib.hid (fun (j : Nat) (x : Int) (h : o[j]? = some x) (hn : (o.take j).any p = false) (hp : p x = true) => firstI_at h hn hp)
  have hno := Lib.hid (fun (h : o.any p = false) => firstI_none h)
  go_enter Tryz.func92, Tryz.ntmps92
  go_wp2
  go_loop [5, 8] (fun _ t => ∃ j : Nat, j ≤ o.length ∧ t = .int .i64 j ∧ Hid ((o.take j).any p = false)) (fun _ t => o.length - (intOf t).toNat)
  case atStart => exact ⟨0, by omega, rfl, Lib.hid (by simp)⟩
  case round =>
    obtain ⟨j, hj, rfl, hH⟩ := hrel
    by_cases hlt : j < o.length
    · obtain ⟨b, off, rfl, hB, hc⟩ := hA (by omega)
      obtain ⟨x, hx⟩ : ∃ x, o[j]? = some x := ⟨_, List.getElem?_eq_getElem hlt⟩
      have hcx := hc j x hx
      have hgx := Lib.hid hx
      have HX := hcl x
      clear hc hx hcl
      cases hp : p x
      · rw [hp] at HX
        have hp' := Lib.hid hp
        clear hp
        go_wp2_with fail
        refine (HX _).mono ?_
        rintro e w1 ⟨rfl, rfl⟩
        go_wp2
        go_round
        case rel => exact ⟨j + 1, by omega, by go_num, Lib.hid (any_take_succ hgx.out hH.out hp'.out)⟩
        case measure => simp [intOf]; omega
      · rw [hp] at HX
        have hr := Lib.hid (hat.out j x hgx.out hH.out hp)
        clear hp
        go_wp2_with fail
        refine (HX _).mono ?_
        rintro e w1 ⟨rfl, rfl⟩
        go_wp2
        go_ret
        exact ⟨by rw [hr.out]; rfl, rfl⟩
    · have e : j = o.length := by omega
      subst e
      have hr := Lib.hid (hno.out (by have := hH.out; rwa [List.take_length] at this))
      clear hA hcl hcf
      go_wp2
      go_ret
      exact ⟨by rw [hr.out]; rfl, rfl⟩
theorem containsInts_any (K : Nat) (p : Int → Bool) (O : Value) (o : List Int) (w : World)
    (hcf : ∀ (args : Array Value) (w1 : World), (Sem.run Tryz.prog (callFunc K args) w1) = .ok (.enter K args) w1)
    (hcl : ∀ x w1, Calls Tryz.prog K #[.int .i64 x] w1 fun e w' => e = .returned (.bool (p x)) ∧ w1 = w')
    (hO : IntsAt w w.heap.size O o) :
    Calls Tryz.prog 81 #[O, .func (.func K) #[] #[]] w fun e w' => e = .returned (.bool (o.any p)) ∧ w = w' := by
  obtain ⟨A, c, rfl, hlen, hA⟩ := hO
  have H := indexInts_any K p A c o w hcf hcl hlen hA
  have hr := Lib.hid (firstI_ge p o)
  clear hA hcl hcf
  generalize firstI p o = n at *
  go_enter Tryz.func81, Tryz.ntmps81
  go_wp2_with fail
  refine H.mono ?_
  rintro e w1 ⟨rfl, rfl⟩
  go_wp2
  go_ret
  exact ⟨by rw [← hr.out]; rfl, rfl⟩
theorem le0 (w : World) : w.heap.size ≤ w.heap.size := Nat.le_refl _
set_option maxHeartbeats 1000000 in
set_option maxRecDepth 100000 in
theorem rightLine_any (m v : BitVec 8) (O : Value) (o : List Int) (i n : Int) (w : World) (hO : IntsAt w w.heap.size O o) :
    Calls Tryz.prog 57 #[lv m v O, .int .i64 i, .int .i64 n] w fun e w' => e = .returned (.bool (lineB ⟨m, v, o⟩ i n)) ∧ Below w.heap.size w w' := by
  have HR := fun w => right_any m v i w
  have hl : Hid (lineB ⟨m, v, o⟩ i n = (rightB m v i && decide ((o.length : Int) = n) && !(o.any fun x => !okOut x))) := Lib.hid (by
    unfold lineB; congr 1; rw [List.not_any_eq_all_not]; congr 1; funext x; simp)
  unfold lv cv bvv at *
  cases hr : rightB m v i
  · rw [hr] at HR
    have hl2 : Hid (lineB ⟨m, v, o⟩ i n = false) := Lib.hid (by rw [hl.out, hr]; rfl)
    clear hr hl hO
    go_enter Tryz.func57, Tryz.ntmps57
    go_wp2_with fail
    refine (HR _).mono ?_
    rintro e w1 ⟨rfl, hb1⟩
    have hB1 : Below w.heap.size w w1 := (below_alloc1 w _).trans (hb1.mono (by simp))
    clear hb1 HR
    go_wp2
    go_ret
    exact ⟨by rw [hl2.out]; rfl, hB1⟩
  · rw [hr] at HR
    have hl2 : Hid (lineB ⟨m, v, o⟩ i n = (decide ((o.length : Int) = n) && !(o.any fun x => !okOut x))) := Lib.hid (by rw [hl.out, hr]; rfl)
    clear hr hl
    obtain ⟨A, c, rfl, hlen, -⟩ := id hO
    go_enter Tryz.func57, Tryz.ntmps57
    go_wp2_with fail
    refine (HR _).mono ?_
    rintro e w1 ⟨rfl, hb1⟩
    have hB1 : Below w.heap.size w w1 := (below_alloc1 w _).trans (hb1.mono (by simp))
    have ha1 := (keep_blk hb1 (heap_alloc_new _ _) : w1.heap[w.heap.size]? = some (.cells #[.int .u8 m.toNat, .int .u8 v.toNat, .slice A o.length c] 93 (0, 0)))
    obtain ⟨-, -, a2, -⟩ := now3 ha1 rfl
    have hO1 : IntsAt w1 w1.heap.size (.slice A o.length c) o := (hO.below hB1).more hB1.size
    have HC := containsInts_any 82 (fun x => !okOut x) (.slice A o.length c) o w1 (fun _ _ => by kernel_rfl) badOut_any hO1
    clear hb1 HR hO hO1 ha1
    generalize (o.any fun x => !okOut x) = q at *
    by_cases hn : (o.length : Int) = n
    · have hl3 : Hid (lineB ⟨m, v, o⟩ i n = !q) := Lib.hid (by rw [hl2.out]; simp [hn])
      subst hn
      clear hl2
      go_wp2_with fail
      refine HC.mono ?_
      rintro e w2 ⟨rfl, rfl⟩
      clear HC
      go_wp2
      go_ret
      exact ⟨by rw [hl3.out]; rfl, hB1⟩
    · have hl3 : Hid (lineB ⟨m, v, o⟩ i n = false) := Lib.hid (by rw [hl2.out]; simp [hn])
      clear hl2 HC
      go_wp2
      go_ret
      exact ⟨by rw [hl3.out]; rfl, hB1⟩
/-- A box of four cells in a world. -/
theorem tb_now {w : World} {bt : Nat} {k i n : Int} {L : Value} (h : w.heap[bt]? = some (tb k i n L)) :
    w.cell? ⟨bt, 0, none⟩ = some (.int .i64 k) ∧ w.cell? ⟨bt, 1, none⟩ = some (.int .i64 i) ∧ w.cell? ⟨bt, 2, none⟩ = some (.int .i64 n) ∧ w.cell? ⟨bt, 3, none⟩ = some L := by
  obtain ⟨a, b, c, d, -⟩ := now4 h rfl
  exact ⟨a, b, c, d⟩
set_option maxHeartbeats 1000000 in
set_option maxRecDepth 100000 in
theorem right1_any (m v : BitVec 8) (O : Value) (o : List Int) (bt : Nat) (k i n : Int) (L : Value) (w : World) (hO : IntsAt w w.heap.size O o) (ht : w.heap[bt]? = some (tb k i n L)) :
    Calls Tryz.prog 56 #[lv m v O, .pointer (some ⟨bt, 0, none⟩)] w fun e w' => e = .returned (.bool (!lineB ⟨m, v, o⟩ i n)) ∧ Below w.heap.size w w' := by
  have HR := fun w (h : IntsAt w w.heap.size O o) => rightLine_any m v O o i n w h
  have hb := size_of_block ht
  have hO1 := (hO.below (below_alloc1 w (.cells #[bvv m, bvv v, O] 93 (0, 0)))).more (show w.heap.size ≤ (w.alloc (.cells #[bvv m, bvv v, O] 93 (0, 0))).heap.size by simp)
  have ht1 := keep_alloc (x := .cells #[bvv m, bvv v, O] 93 (0, 0)) ht
  obtain ⟨-, t1, t2, -⟩ := tb_now ht1
  generalize lineB ⟨m, v, o⟩ i n = q at *
  clear ht ht1 hO
  unfold lv bvv at *
  go_enter Tryz.func56, Tryz.ntmps56
  go_wp2_with fail
  refine (HR _ hO1).mono ?_
  rintro e w1 ⟨rfl, hb1⟩
  go_wp2
  go_ret
  exact ⟨rfl, (below_alloc1 w _).trans (hb1.mono (by simp))⟩
set_option maxHeartbeats 1000000 in
set_option maxRecDepth 100000 in
theorem indexLines_any (K : Nat) (caps : Array Value) (p : Ln → Bool) (L : Value) (ls : List Ln) (w : World)
    (hcf : ∀ (args : Array Value) (w1 : World), (Sem.run Tryz.prog (callFunc K args) w1) = .ok (.enter K args) w1)
    (hcl : ∀ m v O o w1, Below w.heap.size w w1 → IntsAt w1 w1.heap.size O o → Calls Tryz.prog K (#[lv m v O] ++ caps) w1 fun e w' => e = .returned (.bool (p ⟨m, v, o⟩)) ∧ Below w1.heap.size w1 w')
    (hL : LinesAt w w.heap.size L ls) :
    Calls Tryz.prog 80 #[L, .func (.func K) #[] caps] w fun e w' => e = .returned (.int .i64 (firstI p ls)) ∧ Below w.heap.size w w' := by
  have hat := Lib.hid (fun (j : Nat) (x : Ln) (h : ls[j]? = some x) (hn : (ls.take j).any p = false) (hp : p x = true) => firstI_at h hn hp)
  have hno := Lib.hid (fun (h : ls.any p = false) => firstI_none h)
  obtain ⟨A, c, rfl, hlen, hA⟩ := hL
  unfold lv at hcl
  go_enter Tryz.func80, Tryz.ntmps80
  go_wp2
  go_loopw [5, 8] (fun _ t wr => ∃ j : Nat, j ≤ ls.length ∧ t = .int .i64 j ∧ Hid ((ls.take j).any p = false) ∧ Below w.heap.size w wr) (fun _ t _ => ls.length - (intOf t).toNat)
  case atStart => exact ⟨0, by omega, rfl, Lib.hid (by simp), Below.refl _ _⟩
  case round =>
    obtain ⟨j, hj, rfl, hH, hb⟩ := hrel
    by_cases hlt : j < ls.length
    · obtain ⟨b, off, rfl, hB, hc⟩ := hA (by omega)
      obtain ⟨l, hl⟩ : ∃ l, ls[j]? = some l := ⟨_, List.getElem?_eq_getElem hlt⟩
      obtain ⟨ov, c0, c1, c2, hO⟩ := hc j l hl
      have d0 := (hb.cell (p := ⟨b, off + j * 3, none⟩) hB).trans c0
      have d1 := (hb.cell (p := ⟨b, off + j * 3 + 1, none⟩) hB).trans c1
      have d2 := (hb.cell (p := ⟨b, off + j * 3 + 2, none⟩) hB).trans c2
      have hgl := Lib.hid hl
      have HX := hcl l.m l.v ov l.o wr hb ((hO.below hb).more hb.size)
      unfold bvv at *
      clear hc hl hcl c0 c1 c2 hO hA
      cases hp : p ⟨l.m, l.v, l.o⟩
      · rw [hp] at HX
        have hp' := Lib.hid hp
        clear hp
        go_wp2_with fail
        refine HX.mono ?_
        rintro e w1 ⟨rfl, hb1⟩
        have hB1 := hb.trans (hb1.mono hb.size)
        clear hb1
        go_wp2
        go_roundw
        case rel => exact ⟨j + 1, by omega, by go_num, Lib.hid (any_take_succ hgl.out hH.out hp'.out), hB1⟩
        case measure => simp [intOf]; omega
      · rw [hp] at HX
        have hr := Lib.hid (hat.out j l hgl.out hH.out hp)
        clear hp
        go_wp2_with fail
        refine HX.mono ?_
        rintro e w1 ⟨rfl, hb1⟩
        have hB1 := hb.trans (hb1.mono hb.size)
        clear hb1
        go_wp2
        go_ret
        exact ⟨by rw [hr.out]; rfl, hB1⟩
    · have e : j = ls.length := by omega
      subst e
      have hr := Lib.hid (hno.out (by have := hH.out; rwa [List.take_length] at this))
      clear hA hcl hcf
      go_wp2
      go_ret
      exact ⟨by rw [hr.out]; rfl, hb⟩
theorem containsLines_any (K : Nat) (caps : Array Value) (p : Ln → Bool) (L : Value) (ls : List Ln) (w : World)
    (hcf : ∀ (args : Array Value) (w1 : World), (Sem.run Tryz.prog (callFunc K args) w1) = .ok (.enter K args) w1)
    (hcl : ∀ m v O o w1, Below w.heap.size w w1 → IntsAt w1 w1.heap.size O o → Calls Tryz.prog K (#[lv m v O] ++ caps) w1 fun e w' => e = .returned (.bool (p ⟨m, v, o⟩)) ∧ Below w1.heap.size w1 w')
    (hL : LinesAt w w.heap.size L ls) :
    Calls Tryz.prog 55 #[L, .func (.func K) #[] caps] w fun e w' => e = .returned (.bool (ls.any p)) ∧ Below w.heap.size w w' := by
  have H := indexLines_any K caps p L ls w hcf hcl hL
  have hr := Lib.hid (firstI_ge p ls)
  clear hL hcl hcf
  generalize firstI p ls = n at *
  go_enter Tryz.func55, Tryz.ntmps55
  go_wp2_with fail
  refine H.mono ?_
  rintro e w1 ⟨rfl, hb1⟩
  go_wp2
  go_ret
  exact ⟨by rw [← hr.out]; rfl, hb1⟩
end Go.Proofs.YtckmjampgeojbaaGreatDoor
namespace Go.Proofs.YtckmjampgeojbaaGreatDoor
open Go.RowKit Go.Joins

theorem right_split (k i n : Int) (ls : List Ln) : rightT ⟨k, i, n, ls⟩ = ((decide (0 ≤ k) && decide (k ≤ 3)) && ((decide (0 ≤ i) && decide (i ≤ 8)) && ((decide (1 ≤ n) && decide (n ≤ 4)) && (decide (ls.length ≤ 64) && !(ls.any fun l => !lineB l i n))))) := by
  unfold rightT headB
  rw [List.not_any_eq_all_not]
  simp [Bool.and_assoc]
set_option maxHeartbeats 1000000 in
set_option maxRecDepth 100000 in
theorem pright_any (k i n : Int) (L : Value) (ls : List Ln) (w : World) (hL : LinesAt w w.heap.size L ls) :
    Calls Tryz.prog 30 #[tv k i n L] w fun e w' => e = .returned (.bool (rightT ⟨k, i, n, ls⟩)) ∧ Below w.heap.size w w' := by
  have hmf : ∀ (fn : Fn) (first cap : Array Value) (w : World), (Instr.makeFunc fn first cap).run Tryz.prog w = .ok (.func fn first cap) w := fun _ _ _ _ => rfl
  have hs := right_split k i n ls
  have HK := fun w => between_any k 0 3 w
  have HI := fun w => between_any i 0 8 w
  have HN := fun w => between_any n 1 4 w
  have hL1 := (hL.below (below_alloc1 w (tb k i n L))).more (show w.heap.size ≤ (w.alloc (tb k i n L)).heap.size by simp)
  have HC := containsLines_any 56 #[.pointer (some ⟨w.heap.size, 0, none⟩)] (fun l => !lineB l i n) L ls (w.alloc (tb k i n L)) (fun _ _ => by kernel_rfl)
    (fun m v O o w1 hb hO => right1_any m v O o w.heap.size k i n L w1 hO (keep_blk hb (heap_alloc_new _ _))) hL1
  obtain ⟨A, c, rfl, hlen, -⟩ := hL
  have hA := below_alloc1 w (tb k i n (.slice A ls.length c))
  clear hL1
  unfold tv
  unfold tb at *
  generalize (decide (0 ≤ k) && decide (k ≤ 3)) = bk at *
  generalize (decide (0 ≤ i) && decide (i ≤ 8)) = bi at *
  generalize (decide (1 ≤ n) && decide (n ≤ 4)) = bn at *
  generalize (ls.any fun l => !lineB l i n) = bl at *
  generalize rightT ⟨k, i, n, ls⟩ = R at *
  cases bk
  · obtain rfl : R = false := by rw [hs]; rfl
    clear hs HI HN HC
    go_enter Tryz.func30, Tryz.ntmps30
    go_wp2_with fail
    refine (HK _).mono ?_
    rintro e w1 ⟨rfl, rfl⟩
    go_wp2
    go_ret
    exact ⟨rfl, hA⟩
  cases bi
  · obtain rfl : R = false := by rw [hs]; rfl
    clear hs HN HC
    go_enter Tryz.func30, Tryz.ntmps30
    go_wp2_with fail
    refine (HK _).mono ?_
    rintro e w1 ⟨rfl, rfl⟩
    go_wp2_with fail
    refine (HI _).mono ?_
    rintro e w1 ⟨rfl, rfl⟩
    go_wp2
    go_ret
    exact ⟨rfl, hA⟩
  cases bn
  · obtain rfl : R = false := by rw [hs]; rfl
    clear hs HC
    go_enter Tryz.func30, Tryz.ntmps30
    go_wp2_with fail
    refine (HK _).mono ?_
    rintro e w1 ⟨rfl, rfl⟩
    go_wp2_with fail
    refine (HI _).mono ?_
    rintro e w1 ⟨rfl, rfl⟩
    go_wp2_with fail
    refine (HN _).mono ?_
    rintro e w1 ⟨rfl, rfl⟩
    go_wp2
    go_ret
    exact ⟨rfl, hA⟩
  by_cases h64 : ls.length ≤ 64
  · obtain rfl : R = !bl := by rw [hs]; simp [h64]
    clear hs
    go_enter Tryz.func30, Tryz.ntmps30
    go_wp2_with fail
    refine (HK _).mono ?_
    rintro e w1 ⟨rfl, rfl⟩
    go_wp2_with fail
    refine (HI _).mono ?_
    rintro e w1 ⟨rfl, rfl⟩
    go_wp2_with fail
    refine (HN _).mono ?_
    rintro e w1 ⟨rfl, rfl⟩
    clear HK HI HN
    go_wp2_with fail
    refine HC.mono ?_
    rintro e w1 ⟨rfl, hb1⟩
    go_wp2
    go_ret
    exact ⟨rfl, hA.trans (hb1.mono (by simp))⟩
  · obtain rfl : R = false := by rw [hs]; simp [h64]
    clear hs HC
    go_enter Tryz.func30, Tryz.ntmps30
    go_wp2_with fail
    refine (HK _).mono ?_
    rintro e w1 ⟨rfl, rfl⟩
    go_wp2_with fail
    refine (HI _).mono ?_
    rintro e w1 ⟨rfl, rfl⟩
    go_wp2_with fail
    refine (HN _).mono ?_
    rintro e w1 ⟨rfl, rfl⟩
    go_wp2
    go_ret
    exact ⟨rfl, hA⟩
end Go.Proofs.YtckmjampgeojbaaGreatDoor
namespace Go.Proofs.YtckmjampgeojbaaGreatDoor
open Go.RowKit Go.Joins

theorem value_any (x : BitVec 8) (i : Nat) (hi : i < 8) (w : World) :
    Calls Tryz.prog 39 #[bvv x, .int .i64 i] w fun e w' => e = .returned (.int .i64 (bitI x i)) ∧ w = w' := by
  have hb := Lib.hid (bitI_eq x i)
  have hl : 0 ≤ bitI x i ∧ bitI x i ≤ 1 := by unfold bitI; split <;> omega
  unfold bvv
  go_enter Tryz.func39, Tryz.ntmps39
  go_wp2
  go_ret
  exact ⟨ret_int (by rw [hb.out]; unfold wrap64; omega), rfl⟩
theorem cubes1_any (x : Rw) (bi : Nat) (i : Int) (w : World) (hi : w.cell? ⟨bi, 0, none⟩ = some (.int .i64 i)) :
    Calls Tryz.prog 66 #[rwv x, .pointer (some ⟨bi, 0, none⟩)] w fun e w' => e = .returned (.bool (!rightB x.m x.v i)) ∧ Below w.heap.size w w' := by
  have HR := fun w => right_any x.m x.v i w
  have hb := block_lt_of_cell hi
  have hi1 : ∀ o, (w.alloc o).cell? ⟨bi, 0, none⟩ = some (.int .i64 i) := fun o => (World.cell?_alloc_lt _ _ _ hb).trans hi
  generalize rightB x.m x.v i = q at *
  unfold rwv cv bvv at *
  go_enter Tryz.func66, Tryz.ntmps66
  go_wp2_with fail
  refine (HR _).mono ?_
  rintro e w1 ⟨rfl, hb1⟩
  go_wp2
  go_ret
  exact ⟨rfl, (below_alloc1 w _).trans (hb1.mono (by simp))⟩
theorem outs1_any (x : Rw) (bi : Nat) (k : Nat) (hk : k ≤ 8) (w : World) (hi : w.cell? ⟨bi, 0, none⟩ = some (.int .i64 k)) :
    Calls Tryz.prog 68 #[rwv x, .pointer (some ⟨bi, 0, none⟩)] w fun e w' => e = .returned (.bool (!outsB x.o k)) ∧ Below w.heap.size w w' := by
  have hb := block_lt_of_cell hi
  have hi1 : ∀ o, (w.alloc o).cell? ⟨bi, 0, none⟩ = some (.int .i64 k) := fun o => (World.cell?_alloc_lt _ _ _ hb).trans hi
  have hq : (x.o.toNat : Int) / 2 ^ k = ((x.o.toNat / 2 ^ k : Nat) : Int) := by rw [Int.natCast_ediv]; simp
  by_cases h0 : x.o = 0
  · have hB : Hid (outsB x.o k = false) := Lib.hid (by unfold outsB; simp [h0])
    have hz : ((x.o.toNat : Int) == 0) = true := by rw [h0]; rfl
    unfold rwv bvv at *
    clear h0 hq
    go_enter Tryz.func68, Tryz.ntmps68
    go_wp2
    go_ret
    exact ⟨by rw [hB.out]; rfl, below_alloc1 w _⟩
  · have hz : ((x.o.toNat : Int) == 0) = false := by
      rw [beq_eq_false_iff_ne]; intro e; exact h0 (BitVec.eq_of_toNat_eq (by simpa using e))
    by_cases h1 : x.o.toNat / 2 ^ k = 0
    · have hB : Hid (outsB x.o k = true) := Lib.hid (by unfold outsB; rw [decide_eq_true h0, decide_eq_true h1]; rfl)
      have hz1 : ((x.o.toNat : Int) / 2 ^ k != 0) = false := by rw [hq, h1]; rfl
      unfold rwv bvv at *
      clear h0 h1 hq
      go_enter Tryz.func68, Tryz.ntmps68
      go_wp2
      go_ret
      exact ⟨by rw [hB.out]; rfl, below_alloc1 w _⟩
    · have hB : Hid (outsB x.o k = false) := Lib.hid (by unfold outsB; simp [h1])
      have hz1 : ((x.o.toNat : Int) / 2 ^ k != 0) = true := by rw [hq, bne_iff_ne]; intro e; exact h1 (by exact_mod_cast e)
      unfold rwv bvv at *
      clear h0 h1 hq
      go_enter Tryz.func68, Tryz.ntmps68
      go_wp2
      go_ret
      exact ⟨by rw [hB.out]; rfl, below_alloc1 w _⟩
set_option maxHeartbeats 1000000 in
set_option maxRecDepth 100000 in
theorem indexRows_any (K : Nat) (caps : Array Value) (p : Rw → Bool) (L : Value) (rs : List Rw) (w : World)
    (hcf : ∀ (args : Array Value) (w1 : World), (Sem.run Tryz.prog (callFunc K args) w1) = .ok (.enter K args) w1)
    (hcl : ∀ x w1, Below w.heap.size w w1 → Calls Tryz.prog K (#[rwv x] ++ caps) w1 fun e w' => e = .returned (.bool (p x)) ∧ Below w1.heap.size w1 w')
    (hL : RwsAt w w.heap.size L rs) :
    Calls Tryz.prog 84 #[L, .func (.func K) #[] caps] w fun e w' => e = .returned (.int .i64 (firstI p rs)) ∧ Below w.heap.size w w' := by
  have hat := Lib.hid (fun (j : Nat) (x : Rw) (h : rs[j]? = some x) (hn : (rs.take j).any p = false) (hp : p x = true) => firstI_at h hn hp)
  have hno := Lib.hid (fun (h : rs.any p = false) => firstI_none h)
  obtain ⟨A, c, rfl, hlen, hA⟩ := hL
  unfold rwv at hcl
  go_enter Tryz.func84, Tryz.ntmps84
  go_wp2
  go_loopw [5, 8] (fun _ t wr => ∃ j : Nat, j ≤ rs.length ∧ t = .int .i64 j ∧ Hid ((rs.take j).any p = false) ∧ Below w.heap.size w wr) (fun _ t _ => rs.length - (intOf t).toNat)
  case atStart => exact ⟨0, by omega, rfl, Lib.hid (by simp), Below.refl _ _⟩
  case round =>
    obtain ⟨j, hj, rfl, hH, hb⟩ := hrel
    by_cases hlt : j < rs.length
    · obtain ⟨b, off, rfl, hB, hc⟩ := hA (by omega)
      obtain ⟨l, hl⟩ : ∃ l, rs[j]? = some l := ⟨_, List.getElem?_eq_getElem hlt⟩
      obtain ⟨c0, c1, c2⟩ := hc j l hl
      have d0 := (hb.cell (p := ⟨b, off + j * 3, none⟩) hB).trans c0
      have d1 := (hb.cell (p := ⟨b, off + j * 3 + 1, none⟩) hB).trans c1
      have d2 := (hb.cell (p := ⟨b, off + j * 3 + 2, none⟩) hB).trans c2
      have hgl := Lib.hid hl
      have HX := hcl l wr hb
      unfold bvv at *
      clear hc hl hcl c0 c1 c2 hA
      cases hp : p l
      · rw [hp] at HX
        have hp' := Lib.hid hp
        clear hp
        go_wp2_with fail
        refine HX.mono ?_
        rintro e w1 ⟨rfl, hb1⟩
        have hB1 := hb.trans (hb1.mono hb.size)
        clear hb1
        go_wp2
        go_roundw
        case rel => exact ⟨j + 1, by omega, by go_num, Lib.hid (any_take_succ hgl.out hH.out hp'.out), hB1⟩
        case measure => simp [intOf]; omega
      · rw [hp] at HX
        have hr := Lib.hid (hat.out j l hgl.out hH.out hp)
        clear hp
        go_wp2_with fail
        refine HX.mono ?_
        rintro e w1 ⟨rfl, hb1⟩
        have hB1 := hb.trans (hb1.mono hb.size)
        clear hb1
        go_wp2
        go_ret
        exact ⟨by rw [hr.out]; rfl, hB1⟩
    · have e : j = rs.length := by omega
      subst e
      have hr := Lib.hid (hno.out (by have := hH.out; rwa [List.take_length] at this))
      clear hA hcl hcf
      go_wp2
      go_ret
      exact ⟨by rw [hr.out]; rfl, hb⟩
theorem containsRows_any (K : Nat) (caps : Array Value) (p : Rw → Bool) (L : Value) (rs : List Rw) (w : World)
    (hcf : ∀ (args : Array Value) (w1 : World), (Sem.run Tryz.prog (callFunc K args) w1) = .ok (.enter K args) w1)
    (hcl : ∀ x w1, Below w.heap.size w w1 → Calls Tryz.prog K (#[rwv x] ++ caps) w1 fun e w' => e = .returned (.bool (p x)) ∧ Below w1.heap.size w1 w')
    (hL : RwsAt w w.heap.size L rs) :
    Calls Tryz.prog 65 #[L, .func (.func K) #[] caps] w fun e w' => e = .returned (.bool (rs.any p)) ∧ Below w.heap.size w w' := by
  have H := indexRows_any K caps p L rs w hcf hcl hL
  have hr := Lib.hid (firstI_ge p rs)
  clear hL hcl hcf
  generalize firstI p rs = n at *
  go_enter Tryz.func65, Tryz.ntmps65
  go_wp2_with fail
  refine H.mono ?_
  rintro e w1 ⟨rfl, hb1⟩
  go_wp2
  go_ret
  exact ⟨by rw [← hr.out]; rfl, hb1⟩
theorem not_any_not {α : Type} (p : α → Bool) (l : List α) : (!(l.any fun x => !p x)) = l.all p := by
  rw [List.not_any_eq_all_not]; simp
theorem cubesRight_any (L : Value) (rs : List Rw) (i : Int) (w : World) (hL : RwsAt w w.heap.size L rs) :
    Calls Tryz.prog 37 #[L, .int .i64 i] w fun e w' => e = .returned (.bool (rs.all fun x => rightB x.m x.v i)) ∧ Below w.heap.size w w' := by
  have hmf : ∀ (fn : Fn) (first cap : Array Value) (w : World), (Instr.makeFunc fn first cap).run Tryz.prog w = .ok (.func fn first cap) w := fun _ _ _ _ => rfl
  have hA := below_alloc1 w (.cells #[Value.int IntKind.i64 i] 3)
  have H := containsRows_any 66 #[.pointer (some ⟨w.heap.size, 0, none⟩)] (fun x => !rightB x.m x.v i) L rs (w.alloc (.cells #[Value.int IntKind.i64 i] 3)) (fun _ _ => by kernel_rfl)
    (fun x w1 hb => cubes1_any x w.heap.size i w1 ((hb.cell (p := ⟨w.heap.size, 0, none⟩) (by simp)).trans (by rw [cell_of_block (heap_alloc_new _ _)]; rfl)))
    ((hL.below hA).more hA.size)
  have hr := Lib.hid (not_any_not (fun x : Rw => rightB x.m x.v i) rs)
  obtain ⟨A, c, rfl, -, -⟩ := hL
  generalize (rs.any fun x => !rightB x.m x.v i) = q at *
  go_enter Tryz.func37, Tryz.ntmps37
  go_wp2_with fail
  refine H.mono ?_
  rintro e w1 ⟨rfl, hb1⟩
  go_wp2
  go_ret
  exact ⟨by rw [← hr.out]; rfl, hA.trans (hb1.mono (by simp))⟩
theorem outsRight_any (L : Value) (rs : List Rw) (k : Nat) (hk : k ≤ 8) (w : World) (hL : RwsAt w w.heap.size L rs) :
    Calls Tryz.prog 38 #[L, .int .i64 k] w fun e w' => e = .returned (.bool (rs.all fun x => outsB x.o k)) ∧ Below w.heap.size w w' := by
  have hmf : ∀ (fn : Fn) (first cap : Array Value) (w : World), (Instr.makeFunc fn first cap).run Tryz.prog w = .ok (.func fn first cap) w := fun _ _ _ _ => rfl
  have hA := below_alloc1 w (.cells #[Value.int IntKind.i64 k] 3)
  have H := containsRows_any 68 #[.pointer (some ⟨w.heap.size, 0, none⟩)] (fun x => !outsB x.o k) L rs (w.alloc (.cells #[Value.int IntKind.i64 k] 3)) (fun _ _ => by kernel_rfl)
    (fun x w1 hb => outs1_any x w.heap.size k hk w1 ((hb.cell (p := ⟨w.heap.size, 0, none⟩) (by simp)).trans (by rw [cell_of_block (heap_alloc_new _ _)]; rfl)))
    ((hL.below hA).more hA.size)
  have hr := Lib.hid (not_any_not (fun x : Rw => outsB x.o k) rs)
  obtain ⟨A, c, rfl, -, -⟩ := hL
  generalize (rs.any fun x => !outsB x.o k) = q at *
  go_enter Tryz.func38, Tryz.ntmps38
  go_wp2_with fail
  refine H.mono ?_
  rintro e w1 ⟨rfl, hb1⟩
  go_wp2
  go_ret
  exact ⟨by rw [← hr.out]; rfl, hA.trans (hb1.mono (by simp))⟩
end Go.Proofs.YtckmjampgeojbaaGreatDoor
namespace Go.Proofs.YtckmjampgeojbaaGreatDoor
open Go.RowKit Go.Joins

/-- A box of three cells, in every world that has grown from here. -/
theorem box3 {w : World} {b : Nat} {T : TypeId} {C : Array Value} {x0 x1 x2 : Value} (h : w.heap[b]? = some (.cells C T (0, 0))) (hC : C = #[x0, x1, x2]) :
    (∀ x : After w, x.1.cell? ⟨b, 0, none⟩ = some x0) ∧ (∀ x : After w, x.1.cell? ⟨b, 1, none⟩ = some x1) ∧ (∀ x : After w, x.1.cell? ⟨b, 2, none⟩ = some x2) ∧ (∀ (x : After w) (j : Nat), x.1.frozen? ⟨b, j, none⟩ = false) := by
  subst hC
  have hz := size_of_block h
  exact ⟨fun x => After.cell x (by rw [cell_of_block h]; rfl), fun x => After.cell x (by rw [cell_of_block h]; rfl), fun x => After.cell x (by rw [cell_of_block h]; rfl), fun x j => After.frozen x hz (unfrozen_of_block h j)⟩
theorem getD_of {α : Type} {l : List α} {j : Nat} {x d : α} (h : l[j]? = some x) : l.getD j d = x := by
  rw [List.getD_eq_getElem?_getD, h]; rfl
theorem spB_head {s : Sp} (h : headS s = false) : spB s = false := by unfold spB; rw [h]; rfl
theorem spB_all {s : Sp} (h : headS s = true) (ha : ∀ j, j < s.on.length → sideB s j = true) : spB s = true := by
  unfold spB; rw [h, Bool.true_and]; exact range_all.2 ha
theorem spB_not {s : Sp} {j : Nat} (hj : j < s.on.length) (h : sideB s j = false) : spB s = false := by
  unfold spB; rw [range_not hj h, Bool.and_false]
set_option maxHeartbeats 1000000 in
set_option maxRecDepth 100000 in
theorem sright_in (i : Int) (A C : Value) (on may : List (BitVec 256)) (w : World) (hA : SetsAt w w.heap.size A on) (hC : SetsAt w w.heap.size C may) (hi : i < 0 ∨ 8 < i) :
    Calls Tryz.prog 7 #[spv i A C] w fun e w' => e = .returned (.bool false) ∧ Below w.heap.size w w' := by
  have HN := fun w => all_no i hi w
  obtain ⟨A, ac, rfl, -, -⟩ := hA
  obtain ⟨C, cc, rfl, -, -⟩ := hC
  unfold spv sv wv at *
  go_enter Tryz.func7, Tryz.ntmps7
  go_wp2_with fail
  refine (HN _).mono ?_
  rintro e w1 ⟨rfl, hb1⟩
  go_wp2
  go_ret
  exact ⟨rfl, ((below_alloc1 w _).trans (hb1.mono (by simp))).alloc (by have := hb1.size; simp at this; omega) _⟩
set_option maxHeartbeats 1000000 in
set_option maxRecDepth 100000 in
theorem sright_len (i : Nat) (A C : Value) (on may : List (BitVec 256)) (w : World) (hA : SetsAt w w.heap.size A on) (hC : SetsAt w w.heap.size C may) (hi : i ≤ 8) (hl : on.length < 1 ∨ 4 < on.length ∨ (1 ≤ on.length ∧ on.length ≤ 4 ∧ on.length ≠ may.length)) :
    Calls Tryz.prog 7 #[spv i A C] w fun e w' => e = .returned (.bool false) ∧ Below w.heap.size w w' := by
  have HN := fun w => all_any i hi w
  obtain ⟨A, ac, rfl, la, -⟩ := hA
  obtain ⟨C, cc, rfl, lc, -⟩ := hC
  unfold spv sv wv at *
  have hl' : (on.length : Int) < 1 ∨ (1 ≤ (on.length : Int) ∧ 4 < (on.length : Int)) ∨ (1 ≤ (on.length : Int) ∧ (on.length : Int) ≤ 4 ∧ (((on.length : Nat) : Int) != ((may.length : Nat) : Int)) = true) := by
    rw [bne_iff_ne]; omega
  clear hl
  rcases hl' with h | ⟨h1, h⟩ | ⟨h1, h2, h⟩
  all_goals
    go_enter Tryz.func7, Tryz.ntmps7
    go_wp2_with fail
    refine (HN _).mono ?_
    rintro e w1 ⟨rfl, hb1⟩
    have hs1 := keep_blk hb1 (heap_alloc_new w (.cells #[Value.int IntKind.i64 i, .slice A on.length ac, .slice C may.length cc] 24 (0, 0)))
    have hz1 := size_of_block hs1
    have hs2 := fun o => keep_alloc (x := o) hs1
    have d1 := fun o => (now3 (hs2 o) rfl).2.1
    have d2 := fun o => (now3 (hs2 o) rfl).2.2.1
    go_wp2
    go_ret
    exact ⟨rfl, ((below_alloc1 w _).trans (hb1.mono (by simp))).alloc (by have := hb1.size; simp at this; omega) _⟩
set_option maxHeartbeats 2000000 in
set_option maxRecDepth 100000 in
theorem sright_good (i : Nat) (A C : Value) (on may : List (BitVec 256)) (w : World) (hA : SetsAt w w.heap.size A on) (hC : SetsAt w w.heap.size C may) (hi : i ≤ 8) (h1 : 1 ≤ on.length) (h4 : on.length ≤ 4) (he : on.length = may.length) :
    Calls Tryz.prog 7 #[spv i A C] w fun e w' => e = .returned (.bool (spB ⟨i, on, may⟩)) ∧ Below w.heap.size w w' := by
  have HN := fun w => all_any i hi w
  have hyes := Lib.hid (spB_all (s := ⟨i, on, may⟩) ((headS_iff _).2 ⟨⟨Int.natCast_nonneg _, by show (i : Int) ≤ 8; omega⟩, ⟨h1, h4⟩, he⟩))
  have hno := Lib.hid (fun j hj h => spB_not (s := ⟨i, on, may⟩) (j := j) hj h)
  have hside : Hid (∀ j X Y, on[j]? = some X → may[j]? = some Y → sideB ⟨i, on, may⟩ j = (decide (X &&& ~~~Y = 0) && decide (Y &&& ~~~(allB i) = 0))) := Lib.hid (by
    intro j X Y hX hY
    unfold sideB
    simp only [getD_of hX, getD_of hY, Int.toNat_natCast])
  generalize allB i = all at *
  generalize spB ⟨i, on, may⟩ = R at *
  obtain ⟨A, ac, rfl, la, hA⟩ := hA
  obtain ⟨C, cc, rfl, lc, hC⟩ := hC
  have h1' : ¬ (on.length : Int) < 1 := by omega
  have h4' : ¬ 4 < (on.length : Int) := by omega
  have he' : (((on.length : Nat) : Int) != ((may.length : Nat) : Int)) = false := by rw [he]; simp
  have heN := Lib.hid he
  unfold spv at *
  unfold sv at HN
  clear h1 h4 he
  go_enter Tryz.func7, Tryz.ntmps7
  go_wp2_with fail
  refine (HN _).mono ?_
  rintro e w1 ⟨rfl, hb1⟩
  have hs1 := keep_blk hb1 (heap_alloc_new w (.cells #[Value.int IntKind.i64 i, .slice A on.length ac, .slice C may.length cc] 24 (0, 0)))
  have hB1 := (below_alloc1 w (.cells #[Value.int IntKind.i64 i, .slice A on.length ac, .slice C may.length cc] 24 (0, 0))).trans (hb1.mono (by simp))
  have hz1 := size_of_block hs1
  have hs2 := fun o => keep_alloc (x := o) hs1
  have d1 := fun o => (now3 (hs2 o) rfl).2.1
  have d2 := fun o => (now3 (hs2 o) rfl).2.2.1
  clear HN hb1
  have hal := heap_alloc_new w1 (.cells #[wv (wd all 0), wv (wd all 1), wv (wd all 2), wv (wd all 3)] 45 (0, 0))
  have hB2 := hB1.alloc (by omega) (.cells #[wv (wd all 0), wv (wd all 1), wv (wd all 2), wv (wd all 3)] 45 (0, 0))
  have hs2' := hs2 (.cells #[wv (wd all 0), wv (wd all 1), wv (wd all 2), wv (wd all 3)] 45 (0, 0))
  generalize hb1d : w1.heap.size = bl at *
  unfold wv at *
  go_wp2
  go_loopw [5, 6, 39] (fun _ _ t wr => ∃ j : Nat, j ≤ may.length ∧ t = .int .i64 j ∧ Hid (∀ q, q < j → sideB ⟨i, on, may⟩ q = true) ∧ Below w.heap.size w wr ∧ wr.heap[w.heap.size]? = some (.cells #[Value.int IntKind.i64 i, .slice A on.length ac, .slice C may.length cc] 24 (0, 0)) ∧
    wr.heap[bl]? = some (.cells #[.int .u64 (wd all 0).toNat, .int .u64 (wd all 1).toNat, .int .u64 (wd all 2).toNat, .int .u64 (wd all 3).toNat] 45 (0, 0))) (fun _ _ t _ => may.length - (intOf t).toNat)
  case atStart => exact ⟨0, by omega, rfl, Lib.hid (fun q hq => by omega), hB2, hs2', hal⟩
  case round =>
    clear hB2 hs2' hal hs1 hs2 d1 d2 hB1
    obtain ⟨j, hj, rfl, hH, hb, hsp, hal⟩ := hrel
    by_cases hlt : j < may.length
    · obtain ⟨b, off, rfl, hBb, hc⟩ := hA (by omega)
      obtain ⟨b2, off2, rfl, hBb2, hc2⟩ := hC (by omega)
      obtain ⟨X, hX⟩ : ∃ X, on[j]? = some X := ⟨_, List.getElem?_eq_getElem (by rw [heN.out]; exact hlt)⟩
      obtain ⟨Y, hY⟩ : ∃ Y, may[j]? = some Y := ⟨_, List.getElem?_eq_getElem hlt⟩
      obtain ⟨x0, x1, x2, x3⟩ := hc j X hX
      obtain ⟨y0, y1, y2, y3⟩ := hc2 j Y hY
      have hsd := Lib.hid (hside.out j X Y hX hY)
      have u0 := (hb.cell (p := ⟨b, off + j * 4, none⟩) hBb).trans x0
      have u1 := (hb.cell (p := ⟨b, off + j * 4 + 1, none⟩) hBb).trans x1
      have u2 := (hb.cell (p := ⟨b, off + j * 4 + 2, none⟩) hBb).trans x2
      have u3 := (hb.cell (p := ⟨b, off + j * 4 + 3, none⟩) hBb).trans x3
      have v0 := (hb.cell (p := ⟨b2, off2 + j * 4, none⟩) hBb2).trans y0
      have v1 := (hb.cell (p := ⟨b2, off2 + j * 4 + 1, none⟩) hBb2).trans y1
      have v2 := (hb.cell (p := ⟨b2, off2 + j * 4 + 2, none⟩) hBb2).trans y2
      have v3 := (hb.cell (p := ⟨b2, off2 + j * 4 + 3, none⟩) hBb2).trans y3
      clear hc hc2 hX hY x0 x1 x2 x3 y0 y1 y2 y3 hA hC
      unfold wv at *
      have HW1 := fun w => within_any X Y w
      have HW2 := fun w => within_any Y all w
      unfold sv wv at HW1 HW2
      have hjo : j < on.length := by rw [heN.out]; exact hlt
      cases e1 : decide (X &&& ~~~Y = 0)
      · rw [e1] at HW1
        have hR := Lib.hid (hno.out j hjo (by rw [hsd.out, e1]; rfl))
        clear e1 hsd hno hyes
        go_upto_region 7 with (fail)
        have hsp2 := keep_alloc (x := .cells #[.int .u64 (wd Y 0).toNat, .int .u64 (wd Y 1).toNat, .int .u64 (wd Y 2).toNat, .int .u64 (wd Y 3).toNat] 45 (0, 0)) hsp
        have hal2 := keep_alloc (x := .cells #[.int .u64 (wd Y 0).toNat, .int .u64 (wd Y 1).toNat, .int .u64 (wd Y 2).toNat, .int .u64 (wd Y 3).toNat] 45 (0, 0)) hal
        have hbY := heap_alloc_new wr (.cells #[.int .u64 (wd Y 0).toNat, .int .u64 (wd Y 1).toNat, .int .u64 (wd Y 2).toNat, .int .u64 (wd Y 3).toNat] 45 (0, 0))
        have hB3 := hb.alloc hb.size (.cells #[.int .u64 (wd Y 0).toNat, .int .u64 (wd Y 1).toNat, .int .u64 (wd Y 2).toNat, .int .u64 (wd Y 3).toNat] 45 (0, 0))
        have t0 := (World.cell?_alloc_lt wr (.cells #[.int .u64 (wd Y 0).toNat, .int .u64 (wd Y 1).toNat, .int .u64 (wd Y 2).toNat, .int .u64 (wd Y 3).toNat] 45 (0, 0)) _ (block_lt_of_cell u0)).trans u0
        have t1 := (World.cell?_alloc_lt wr (.cells #[.int .u64 (wd Y 0).toNat, .int .u64 (wd Y 1).toNat, .int .u64 (wd Y 2).toNat, .int .u64 (wd Y 3).toNat] 45 (0, 0)) _ (block_lt_of_cell u1)).trans u1
        have t2 := (World.cell?_alloc_lt wr (.cells #[.int .u64 (wd Y 0).toNat, .int .u64 (wd Y 1).toNat, .int .u64 (wd Y 2).toNat, .int .u64 (wd Y 3).toNat] 45 (0, 0)) _ (block_lt_of_cell u2)).trans u2
        have t3 := (World.cell?_alloc_lt wr (.cells #[.int .u64 (wd Y 0).toNat, .int .u64 (wd Y 1).toNat, .int .u64 (wd Y 2).toNat, .int .u64 (wd Y 3).toNat] 45 (0, 0)) _ (block_lt_of_cell u3)).trans u3
        generalize hW : wr.alloc (.cells #[.int .u64 (wd Y 0).toNat, .int .u64 (wd Y 1).toNat, .int .u64 (wd Y 2).toNat, .int .u64 (wd Y 3).toNat] 45 (0, 0)) = W at *
        generalize hzr : wr.heap.size = br at *
        clear hW u0 u1 u2 u3 v0 v1 v2 v3 hsp hal hb
        obtain ⟨Y0, Y1, Y2, Y3, -⟩ := box4 hbY rfl
        obtain ⟨L0, L1, L2, L3, -⟩ := box4 hal2 rfl
        obtain ⟨S0, S1, S2, -⟩ := box3 hsp2 rfl
        have T0 := fun x : After W => After.cell x t0
        have T1 := fun x : After W => After.cell x t1
        have T2 := fun x : After W => After.cell x t2
        have T3 := fun x : After W => After.cell x t3
        refine wp_region_after (by kernel_rfl) (by kernel_rfl) ?_
        repeat (first | go_big_quiet_step ((first | (go_at_call_of 18 (Value.agg #[.int .u64 (wd X 0).toNat, .int .u64 (wd X 1).toNat, .int .u64 (wd X 2).toNat, .int .u64 (wd X 3).toNat]); exact Calls.after_of (HW1 _)) | (go_at_call_of 18 (Value.agg #[.int .u64 (wd Y 0).toNat, .int .u64 (wd Y 1).toNat, .int .u64 (wd Y 2).toNat, .int .u64 (wd Y 3).toNat]); exact Calls.after_of (HW2 _)))))
        refine wpQuiet_nil ?_
        intro x
        clear T0 T1 T2 T3 t0 t1 t2 t3 Y0 Y1 Y2 Y3 L0 L1 L2 L3 S0 S1 S2 HW1 HW2 hside
        go_wp2
        go_ret
        exact ⟨by rw [hR.out]; rfl, hB3.trans (x.2.mono hB3.size)⟩
      · rw [e1] at HW1
        cases e2 : decide (Y &&& ~~~all = 0)
        · rw [e2] at HW2
          have hR := Lib.hid (hno.out j hjo (by rw [hsd.out, e1, e2]; rfl))
          clear e1 e2 hsd hno hyes
          go_upto_region 7 with (fail)
          have hsp2 := keep_alloc (x := .cells #[.int .u64 (wd Y 0).toNat, .int .u64 (wd Y 1).toNat, .int .u64 (wd Y 2).toNat, .int .u64 (wd Y 3).toNat] 45 (0, 0)) hsp
          have hal2 := keep_alloc (x := .cells #[.int .u64 (wd Y 0).toNat, .int .u64 (wd Y 1).toNat, .int .u64 (wd Y 2).toNat, .int .u64 (wd Y 3).toNat] 45 (0, 0)) hal
          have hbY := heap_alloc_new wr (.cells #[.int .u64 (wd Y 0).toNat, .int .u64 (wd Y 1).toNat, .int .u64 (wd Y 2).toNat, .int .u64 (wd Y 3).toNat] 45 (0, 0))
          have hB3 := hb.alloc hb.size (.cells #[.int .u64 (wd Y 0).toNat, .int .u64 (wd Y 1).toNat, .int .u64 (wd Y 2).toNat, .int .u64 (wd Y 3).toNat] 45 (0, 0))
          have t0 := (World.cell?_alloc_lt wr (.cells #[.int .u64 (wd Y 0).toNat, .int .u64 (wd Y 1).toNat, .int .u64 (wd Y 2).toNat, .int .u64 (wd Y 3).toNat] 45 (0, 0)) _ (block_lt_of_cell u0)).trans u0
          have t1 := (World.cell?_alloc_lt wr (.cells #[.int .u64 (wd Y 0).toNat, .int .u64 (wd Y 1).toNat, .int .u64 (wd Y 2).toNat, .int .u64 (wd Y 3).toNat] 45 (0, 0)) _ (block_lt_of_cell u1)).trans u1
          have t2 := (World.cell?_alloc_lt wr (.cells #[.int .u64 (wd Y 0).toNat, .int .u64 (wd Y 1).toNat, .int .u64 (wd Y 2).toNat, .int .u64 (wd Y 3).toNat] 45 (0, 0)) _ (block_lt_of_cell u2)).trans u2
          have t3 := (World.cell?_alloc_lt wr (.cells #[.int .u64 (wd Y 0).toNat, .int .u64 (wd Y 1).toNat, .int .u64 (wd Y 2).toNat, .int .u64 (wd Y 3).toNat] 45 (0, 0)) _ (block_lt_of_cell u3)).trans u3
          generalize hW : wr.alloc (.cells #[.int .u64 (wd Y 0).toNat, .int .u64 (wd Y 1).toNat, .int .u64 (wd Y 2).toNat, .int .u64 (wd Y 3).toNat] 45 (0, 0)) = W at *
          generalize hzr : wr.heap.size = br at *
          clear hW u0 u1 u2 u3 v0 v1 v2 v3 hsp hal hb
          obtain ⟨Y0, Y1, Y2, Y3, -⟩ := box4 hbY rfl
          obtain ⟨L0, L1, L2, L3, -⟩ := box4 hal2 rfl
          obtain ⟨S0, S1, S2, -⟩ := box3 hsp2 rfl
          have T0 := fun x : After W => After.cell x t0
          have T1 := fun x : After W => After.cell x t1
          have T2 := fun x : After W => After.cell x t2
          have T3 := fun x : After W => After.cell x t3
          refine wp_region_after (by kernel_rfl) (by kernel_rfl) ?_
          repeat (first | go_big_quiet_step ((first | (go_at_call_of 18 (Value.agg #[.int .u64 (wd X 0).toNat, .int .u64 (wd X 1).toNat, .int .u64 (wd X 2).toNat, .int .u64 (wd X 3).toNat]); exact Calls.after_of (HW1 _)) | (go_at_call_of 18 (Value.agg #[.int .u64 (wd Y 0).toNat, .int .u64 (wd Y 1).toNat, .int .u64 (wd Y 2).toNat, .int .u64 (wd Y 3).toNat]); exact Calls.after_of (HW2 _)))))
          refine wpQuiet_nil ?_
          intro x
          clear T0 T1 T2 T3 t0 t1 t2 t3 Y0 Y1 Y2 Y3 L0 L1 L2 L3 S0 S1 S2 HW1 HW2 hside
          go_wp2
          go_ret
          exact ⟨by rw [hR.out]; rfl, hB3.trans (x.2.mono hB3.size)⟩
        · rw [e2] at HW2
          have hR := Lib.hid (show sideB ⟨i, on, may⟩ j = true by rw [hsd.out, e1, e2]; rfl)
          clear e1 e2 hsd hno hyes
          go_upto_region 7 with (fail)
          have hsp2 := keep_alloc (x := .cells #[.int .u64 (wd Y 0).toNat, .int .u64 (wd Y 1).toNat, .int .u64 (wd Y 2).toNat, .int .u64 (wd Y 3).toNat] 45 (0, 0)) hsp
          have hal2 := keep_alloc (x := .cells #[.int .u64 (wd Y 0).toNat, .int .u64 (wd Y 1).toNat, .int .u64 (wd Y 2).toNat, .int .u64 (wd Y 3).toNat] 45 (0, 0)) hal
          have hbY := heap_alloc_new wr (.cells #[.int .u64 (wd Y 0).toNat, .int .u64 (wd Y 1).toNat, .int .u64 (wd Y 2).toNat, .int .u64 (wd Y 3).toNat] 45 (0, 0))
          have hB3 := hb.alloc hb.size (.cells #[.int .u64 (wd Y 0).toNat, .int .u64 (wd Y 1).toNat, .int .u64 (wd Y 2).toNat, .int .u64 (wd Y 3).toNat] 45 (0, 0))
          have t0 := (World.cell?_alloc_lt wr (.cells #[.int .u64 (wd Y 0).toNat, .int .u64 (wd Y 1).toNat, .int .u64 (wd Y 2).toNat, .int .u64 (wd Y 3).toNat] 45 (0, 0)) _ (block_lt_of_cell u0)).trans u0
          have t1 := (World.cell?_alloc_lt wr (.cells #[.int .u64 (wd Y 0).toNat, .int .u64 (wd Y 1).toNat, .int .u64 (wd Y 2).toNat, .int .u64 (wd Y 3).toNat] 45 (0, 0)) _ (block_lt_of_cell u1)).trans u1
          have t2 := (World.cell?_alloc_lt wr (.cells #[.int .u64 (wd Y 0).toNat, .int .u64 (wd Y 1).toNat, .int .u64 (wd Y 2).toNat, .int .u64 (wd Y 3).toNat] 45 (0, 0)) _ (block_lt_of_cell u2)).trans u2
          have t3 := (World.cell?_alloc_lt wr (.cells #[.int .u64 (wd Y 0).toNat, .int .u64 (wd Y 1).toNat, .int .u64 (wd Y 2).toNat, .int .u64 (wd Y 3).toNat] 45 (0, 0)) _ (block_lt_of_cell u3)).trans u3
          generalize hW : wr.alloc (.cells #[.int .u64 (wd Y 0).toNat, .int .u64 (wd Y 1).toNat, .int .u64 (wd Y 2).toNat, .int .u64 (wd Y 3).toNat] 45 (0, 0)) = W at *
          generalize hzr : wr.heap.size = br at *
          clear hW u0 u1 u2 u3 v0 v1 v2 v3 hsp hal hb
          obtain ⟨Y0, Y1, Y2, Y3, -⟩ := box4 hbY rfl
          obtain ⟨L0, L1, L2, L3, -⟩ := box4 hal2 rfl
          obtain ⟨S0, S1, S2, -⟩ := box3 hsp2 rfl
          have T0 := fun x : After W => After.cell x t0
          have T1 := fun x : After W => After.cell x t1
          have T2 := fun x : After W => After.cell x t2
          have T3 := fun x : After W => After.cell x t3
          refine wp_region_after (by kernel_rfl) (by kernel_rfl) ?_
          repeat (first | go_big_quiet_step ((first | (go_at_call_of 18 (Value.agg #[.int .u64 (wd X 0).toNat, .int .u64 (wd X 1).toNat, .int .u64 (wd X 2).toNat, .int .u64 (wd X 3).toNat]); exact Calls.after_of (HW1 _)) | (go_at_call_of 18 (Value.agg #[.int .u64 (wd Y 0).toNat, .int .u64 (wd Y 1).toNat, .int .u64 (wd Y 2).toNat, .int .u64 (wd Y 3).toNat]); exact Calls.after_of (HW2 _)))))
          refine wpQuiet_nil ?_
          intro x
          clear T0 T1 T2 T3 t0 t1 t2 t3 Y0 Y1 Y2 Y3 L0 L1 L2 L3 S0 S1 S2 HW1 HW2 hside
          go_wp2
          go_roundw
          case rel => exact ⟨j + 1, by omega, by go_num, Lib.hid (fun q hq => by
            by_cases e : q = j
            · subst e; exact hR.out
            · exact hH.out q (by omega)), hB3.trans (x.2.mono hB3.size), x.same hsp2, x.same hal2⟩
          case measure => simp [intOf]; omega
    · have e : j = may.length := by omega
      have hR := Lib.hid (hyes.out (fun q hq => hH.out q (by have := heN.out; omega)))
      clear hyes hno hside hA hC
      go_wp2
      go_ret
      exact ⟨by rw [hR.out]; rfl, hb⟩
theorem sright_any (i : Int) (A C : Value) (on may : List (BitVec 256)) (w : World) (hA : SetsAt w w.heap.size A on) (hC : SetsAt w w.heap.size C may) :
    Calls Tryz.prog 7 #[spv i A C] w fun e w' => e = .returned (.bool (spB ⟨i, on, may⟩)) ∧ Below w.heap.size w w' := by
  by_cases hi : i < 0 ∨ 8 < i
  · rw [spB_head (s := ⟨i, on, may⟩) (Bool.eq_false_iff.2 fun h => by have := ((headS_iff _).1 h).1; simp only at this; omega)]
    exact sright_in i A C on may w hA hC hi
  · obtain ⟨k, rfl⟩ := Int.eq_ofNat_of_zero_le (show 0 ≤ i by omega)
    by_cases hl : on.length < 1 ∨ 4 < on.length ∨ (1 ≤ on.length ∧ on.length ≤ 4 ∧ on.length ≠ may.length)
    · rw [spB_head (s := ⟨k, on, may⟩) (Bool.eq_false_iff.2 fun h => by have := ((headS_iff _).1 h).2; simp only at this; omega)]
      exact sright_len k A C on may w hA hC (by omega) hl
    · exact sright_good k A C on may w hA hC (by omega) (by omega) (by omega) (by omega)
end Go.Proofs.YtckmjampgeojbaaGreatDoor
