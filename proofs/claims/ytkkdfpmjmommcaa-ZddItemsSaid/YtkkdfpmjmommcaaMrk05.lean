/- What is come to from an id is marked: mark, for every arena, by induction on the levels above. -/
import Derived.Test.YtkkdfpmjmommcaaFnd05
namespace Go.Proofs.Ytkkdfpmjmommcaa
open Go.RowKit Go.Joins

/-- n flags, as cells. -/
def seenA (n : Nat) (f : Nat → Bool) : Array Value := ((List.range n).map fun p => Value.bool (f p)).toArray
theorem seenA_get {n p : Nat} (f : Nat → Bool) (h : p < n) : (seenA n f)[p]? = some (.bool (f p)) := by
  unfold seenA; simp [h]
theorem seenA_set {n p : Nat} {f g : Nat → Bool} {u : Bool} (hp : g p = u) (h : ∀ j, j ≠ p → g j = f j) : (seenA n f).setIfInBounds p (.bool u) = seenA n g := by
  unfold seenA
  rw [List.setIfInBounds_toArray]
  congr 1
  apply List.ext_getElem?
  intro j
  rw [List.getElem?_set]
  by_cases hj : j < n
  · by_cases e : p = j
    · subst e
      simp [hj, hp]
    · simp [e, hj, h j (Ne.symm e)]
  · by_cases e : p = j
    · subst e
      simp [hj]
    · simp [e, hj]
theorem seenA_ext {n : Nat} {f g : Nat → Bool} (h : ∀ j, j < n → f j = g j) : seenA n f = seenA n g := by
  unfold seenA
  congr 1
  apply List.map_congr_left
  intro j hj
  rw [h j (by simpa using hj)]
def seenO (n : Nat) (f : Nat → Bool) : Obj := .cells (seenA n f) 4 (0, 0)
theorem seen_cell {w : World} {sbk n p : Nat} {f : Nat → Bool} (h : w.heap[sbk]? = some (seenO n f)) (hp : p < n) : w.cell? ⟨sbk, p, none⟩ = some (.bool (f p)) ∧ w.frozen? ⟨sbk, p, none⟩ = false := by
  unfold seenO at h
  exact ⟨by rw [cell_of_block h]; exact seenA_get f hp, unfrozen_of_block h p⟩
/-- Marked: what was, and what is come to from id. -/
def MarkDone (w : World) (sbk : Nat) (S : St) (f : Nat → Bool) (id : Int) (e : Ending) (w' : World) : Prop :=
  e = .returned (.tuple #[]) ∧ ∃ g : Nat → Bool, (∀ j, j < S.length → (g j = true ↔ f j = true ∨ Rch S [id] j)) ∧ w'.heap[sbk]? = some (seenO S.length g) ∧ w.grownBy w' (some sbk)
theorem ArAt.grown {w w' : World} {B ab bm : Nat} {v : Value} {room full : Nat} {S : St} (h : ArAt w B ab bm v room full S) {sbk : Nat} {C : Array Value} {T : TypeId} {z : Nat × Nat} (hs : w.heap[sbk]? = some (.cells C T z)) (h1 : T ≠ 79) (h2 : T ≠ 113) (hg : w.grownBy w' (some sbk)) : ArAt w' B ab bm v room full S := by
  have hn := h.not_fp hs h1 h2
  have hk : ∀ k, k < w.heap.size → Fp ab bm v k → w'.heap[k]? = w.heap[k]? := fun k hk hf => hg.block k hk (by intro e; injection e with e; subst e; exact hn hf)
  exact ⟨h.base, (hk ab h.lt.2.1 (.inl rfl)).trans h.head, own_keep h.rows (fun g hv _ hl => hk g hl (.inr (.inr hv))), h.ids.keep (hk bm h.lt.2.2 (.inr (.inl rfl)))⟩
theorem Try.neBoolA : (4 : TypeId) ≠ 79 := by decide
theorem Try.neBoolS : (4 : TypeId) ≠ 113 := by decide
theorem own_some {w : World} {base size n : Nat} {e : TypeId} {v : Value} {xs : List Value} (h : w.ownsRow base e size v n xs) (hn : 0 < n) : ∃ g c, v = .slice (some ⟨g, 0, none⟩) n c := by
  rcases h.2 with ⟨hv, h0⟩ | ⟨g, cap, cur, hv, _⟩
  · omega
  · exact ⟨g, cap, hv⟩
theorem grown_any {w w1 : World} (h : Below w.heap.size w w1) (r : Option Nat) : w.grownBy w1 r := ⟨h.os, h.tape, h.output, h.size, fun k hk _ => h.block k hk⟩
theorem grown_then {a b c : World} {sbk : Nat} (h : a.grownBy b (some sbk)) (k : b.grownBy c (some sbk)) : a.grownBy c (some sbk) :=
  ⟨k.os.trans h.os, k.tape.trans h.tape, k.output.trans h.output, Nat.le_trans h.size k.size, fun i hi hn => (k.block i (Nat.lt_of_lt_of_le hi h.size) hn).trans (h.block i hi hn)⟩
theorem mark_none {B ab bm : Nat} {v : Value} {room full : Nat} {S : St} (hl : S.length ≤ 20000) (sbk : Nat) (id : Int) (f : Nat → Bool) (w : World) (hn : ndAt S id = none) (h : ArAt w B ab bm v room full S) (hs : w.heap[sbk]? = some (seenO S.length f)) :
    Calls Try.prog 65 #[.pointer (some ⟨ab, 0, none⟩), .slice (some ⟨sbk, 0, none⟩) S.length S.length, .int .i64 id] w (MarkDone w sbk S f id) := by
  have HF := find_any h hl id
  rw [hn] at HF
  unfold fndV at HF
  have hno := Lib.hid (fun j => Rch.nobody hn (i := j))
  clear hn
  go_enter Try.func65, Try.ntmps65
  go_wp2_with fail
  refine HF.mono ?_
  rintro e w1 ⟨rfl, hb1⟩
  clear HF
  go_wp2
  go_end0
  have hB := hb1.alloc hb1.size (.cells #[.int .i64 0, .int .i64 0, .int .i64 0] 98 (0, 0))
  exact ⟨rfl, f, fun j _ => ⟨.inl, fun o => o.elim (fun x => x) fun r => absurd r (hno.out j)⟩, keep_blk hB hs, grown_any hB _⟩
set_option maxHeartbeats 1000000 in
theorem mark_any {B ab bm : Nat} {v : Value} {room full : Nat} {S : St} (hV : VSt S) (hl : S.length ≤ 20000) (sbk : Nat) (k : Nat) :
    ∀ (id : Int) (f : Nat → Bool) (w : World) (l : Int), (∀ n, ndAt S id = some n → 24 ≤ n.1 + k ∧ l < n.1) → ArAt w B ab bm v room full S → w.heap[sbk]? = some (seenO S.length f) → Clo S f l →
    Calls Try.prog 65 #[.pointer (some ⟨ab, 0, none⟩), .slice (some ⟨sbk, 0, none⟩) S.length S.length, .int .i64 id] w (MarkDone w sbk S f id) := by
  induction k with
  | zero =>
    intro id f w l hid h hs hc
    cases hn : ndAt S id with
    | none => exact mark_none hl sbk id f w hn h hs
    | some n =>
      have h1 := ((okN_iff _ _).1 (hV.ok _ n (ndAt_some.1 hn).2)).2.1
      have h2 := (hid n hn).1
      omega
  | succ k ih =>
    intro id f w l hid h hs hc
    cases hn : ndAt S id with
    | none => exact mark_none hl sbk id f w hn h hs
    | some n =>
      obtain ⟨hk, hlt⟩ := hid n hn
      obtain ⟨h2, hi⟩ := ndAt_some.1 hn
      obtain ⟨i, rfl⟩ : ∃ i : Nat, id = (i : Int) + 2 := ⟨(id - 2).toNat, by omega⟩
      rw [show (((i : Int) + 2 - 2).toNat) = i by omega] at hi
      have hil := (List.getElem?_eq_some_iff.1 hi).1
      have HF := find_any h hl ((i : Int) + 2)
      rw [hn] at HF
      unfold fndV at HF
      have hlow := fun (j : Nat) m => kid_level hV (j := j) (m := m) hi
      obtain ⟨x, y, z⟩ := n
      dsimp only at *
      cases hfi : f i
      · have hkid : ∀ id : Int, (id = y ∨ id = z) → ∀ n', ndAt S id = some n' → 24 ≤ n'.1 + k ∧ x < n'.1 := fun id he n' hn' => by
          obtain ⟨a, b⟩ := ndAt_some.1 hn'
          have := hlow (id - 2).toNat n' (by rcases he with rfl | rfl; exact .inl (by omega); exact .inr (by omega)) b
          omega
        have hlo := hkid y (.inl rfl)
        have hhi := hkid z (.inr rfl)
        have hc1 : Clo S (fun j => f j || decide (j = i)) x := hc.one hi hlt fun _ => rfl
        have hall := Lib.hid (fun g2 g3 => mark_all (S := S) (f := f) (g1 := fun j => f j || decide (j = i)) (g2 := g2) (g3 := g3) hi fun _ => rfl)
        have hcl := Lib.hid hc1
        clear hc hid hn hlow hkid hk
        go_enter Try.func65, Try.ntmps65
        go_wp2_with fail
        refine HF.mono ?_
        rintro e w1 ⟨rfl, hb1⟩
        have hB := hb1.alloc hb1.size (.cells #[.int .i64 x, .int .i64 y, .int .i64 z] 98 (0, 0))
        have hn1 := heap_alloc_new w1 (.cells #[.int .i64 x, .int .i64 y, .int .i64 z] 98 (0, 0))
        have hs1 := keep_blk hB hs
        have h1 := h.below hB
        have hil' : (i : Int) < S.length := by omega
        obtain ⟨q, qf⟩ := seen_cell hs1 hil
        rw [hfi] at q
        have hne : w1.heap.size ≠ sbk := by have := size_of_block hs; have := hb1.size; omega
        have hG2 : w.grownBy ((w1.alloc (.cells #[.int .i64 x, .int .i64 y, .int .i64 z] 98 (0, 0))).setCell ⟨sbk, i, none⟩ (.bool true)) (some sbk) := grown_set (grown_any hB _)
        have hs2 : ((w1.alloc (.cells #[.int .i64 x, .int .i64 y, .int .i64 z] 98 (0, 0))).setCell ⟨sbk, i, none⟩ (.bool true)).heap[sbk]? = some (seenO S.length fun j => f j || decide (j = i)) := by
          unfold seenO at hs1 ⊢
          rw [block_setCell hs1, seenA_set (g := fun j => f j || decide (j = i)) (by simp) (fun j hj => by simp [hj])]
        have hn2 := keep_set (a := ⟨sbk, i, none⟩) (u := .bool true) hne hn1
        have h2 := h.grown (w' := (w1.alloc (.cells #[.int .i64 x, .int .i64 y, .int .i64 z] 98 (0, 0))).setCell ⟨sbk, i, none⟩ (.bool true)) hs Try.neBoolA Try.neBoolS hG2
        have HL := ih y _ _ x hlo h2 hs2 hc1
        obtain ⟨p0, p1, p2, -⟩ := now3 hn2 rfl
        clear HF hn1 hs1 h1 hfi hlo hc1
        go_wp2_with fail
        refine HL.mono ?_
        rintro e w3 ⟨rfl, g2, hg2, hs3, hG3⟩
        have hn3 := (grown_at hG3 (size_of_block hn2) hne).trans hn2
        have h3 := h2.grown hs2 Try.neBoolA Try.neBoolS hG3
        have HH := ih z g2 w3 x hhi h3 hs3 (hcl.out.two hg2)
        obtain ⟨r0, r1, r2, -⟩ := now3 hn3 rfl
        clear HL hn2 h2 p0 p1 p2 ih
        go_wp2_with fail
        refine HH.mono ?_
        rintro e w4 ⟨rfl, g3, hg3, hs4, hG4⟩
        clear HH
        go_wp2
        go_end0
        exact ⟨rfl, g3, hall.out g2 g3 hg2 hg3, hs4, grown_then hG2 (grown_then hG3 hG4)⟩
      · have hdone := Lib.hid (fun j => mark_seen hV hc hfi hi hlt j)
        clear ih hc hid hn hlow
        go_enter Try.func65, Try.ntmps65
        go_wp2_with fail
        refine HF.mono ?_
        rintro e w1 ⟨rfl, hb1⟩
        have hB := hb1.alloc hb1.size (.cells #[.int .i64 x, .int .i64 y, .int .i64 z] 98 (0, 0))
        have hs1 := keep_blk hB hs
        have hil' : (i : Int) < S.length := by omega
        obtain ⟨q, qf⟩ := seen_cell hs1 hil
        rw [hfi] at q
        clear HF
        go_wp2
        go_end0
        exact ⟨rfl, f, fun j _ => hdone.out j, hs1, grown_any hB _⟩
end Go.Proofs.Ytkkdfpmjmommcaa
