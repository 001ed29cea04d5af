/- The statements of layer 11, walked over what the package answers: what the family of a set's primes has. -/
import Derived.Test.YtehpccanjlaokaaGreatGQ08
import Derived.Test.YtehpccanjlaokaaGreatGQ34
import Derived.Test.YtehpccanjlaokaaGreatGQ21
import Derived.Test.YtehpccanjlaokaaGreatGQ17
namespace Go.Proofs.YtehpccanjlaokaaGreat
open Go.RowKit Go.Joins

/-- The primes of a set as rows without outputs. -/
def rowsC (X : BitVec 256) (n : Int) : List Rw := (prims X n).map fun c => ⟨c.m, c.v, 0⟩
/-- The family of its primes' members. -/
def famC (X : BitVec 256) (n : Int) : Nat → Bool := rowF (memsR (rowsC X n))
theorem memB_inj {m v m' v' : BitVec 8} (h1 : v &&& m = v) (h2 : v' &&& m' = v') (h : memB m v 0 = memB m' v' 0) : m = m' ∧ v = v' := by
  have e1 := row_m m v 0
  have e2 := row_v m v 0
  rw [h, row_m] at e1
  rw [h, row_v] at e2
  refine ⟨e1.symm, ?_⟩
  rw [BitVec.and_comm m' v', h2, BitVec.and_comm m v, h1] at e2
  exact e2.symm
theorem map_nodup {α β : Type} {f : α → β} : ∀ {l : List α}, (∀ a ∈ l, ∀ b ∈ l, f a = f b → a = b) → l.Nodup → (l.map f).Nodup
  | [], _, _ => List.nodup_nil
  | x :: l, hf, hn => by
    rw [List.nodup_cons] at hn
    rw [List.map_cons, List.nodup_cons]
    refine ⟨fun hx => ?_, map_nodup (fun a ha b hb => hf a (List.mem_cons_of_mem _ ha) b (List.mem_cons_of_mem _ hb)) hn.2⟩
    obtain ⟨y, hy, e⟩ := List.mem_map.1 hx
    have := hf y (List.mem_cons_of_mem _ hy) x List.mem_cons_self e
    rw [this] at hy
    exact hn.1 hy
theorem mems_small (X : BitVec 256) (n : Int) : ∀ x ∈ memsR (rowsC X n), x < 16777216 := by
  intro x hx
  unfold memsR at hx
  obtain ⟨y, -, rfl⟩ := List.mem_map.1 hx
  have := memB_lt y.m y.v y.o
  omega
theorem srt_nodup {r : List Nat} (h : srtN r) : r.Nodup := h.imp fun h e => by omega
theorem fam_row {l r : List Nat} (hl : ∀ x ∈ l, x < 16777216) (hs : srtN r) (hm : ∀ x, x ∈ r ↔ x ∈ l) : famL 24 (rowF l) = r :=
  famL_eq hs fun x => by unfold rowF; rw [decide_eq_true_iff, ← hm]; exact ⟨fun hx => ⟨hl x ((hm x).1 hx), hx⟩, fun hx => hx.2⟩
theorem row_count {l r : List Nat} (hn : l.Nodup) (hs : srtN r) (hm : ∀ x, x ∈ r ↔ x ∈ l) : r.length = l.length :=
  ((List.perm_ext_iff_of_nodup (srt_nodup hs) hn).2 hm).length_eq
/-- There are few primes of six inputs. -/
theorem few6 : ((List.range 16384).filter fun k => rightB (kM k) (kV k) 6).length = 729 := by decide +kernel
/-- What is asked of a diagram, and of what makes families of primes in it: fresh ones, and ones that hold a family. -/
structure DgOk (Fr : Nat → World → Nat → Prop) (Dg : Nat → World → Nat → Int → (Nat → Bool) → Prop) : Prop where
  frB : ∀ {B w w' zb}, Fr B w zb → Below w.heap.size w w' → Fr B w' zb
  dgB : ∀ {B w w' zb f F}, Dg B w zb f F → Below w.heap.size w w' → Dg B w' zb f F
  new : ∀ w, Calls Tryz.prog 5 #[.int .i64 20000] w fun e w' => ∃ zb : Nat, e = .returned (.tuple #[.pointer (some ⟨zb, 0, none⟩), .int .i64 0]) ∧ Fr w.heap.size w' zb ∧ Below w.heap.size w w'
  list : ∀ {B w zb f F}, Dg B w zb f F → cF 24 F ≤ 100000 → Calls Tryz.prog 11 #[.pointer (some ⟨zb, 0, none⟩), .int .i64 f] w fun e w' => ∃ u, e = .returned (.tuple #[u, .int .i64 0]) ∧ IntsAt w' w'.heap.size u (nI (famL 24 F)) ∧ Below w.heap.size w w'
  count : ∀ {B w zb f F}, Dg B w zb f F → Calls Tryz.prog 14 #[.pointer (some ⟨zb, 0, none⟩), .int .i64 f] w fun e w' => e = .returned (.int .i64 (cF 24 F : Int)) ∧ Below w.heap.size w w'
def PrimesGood (Fr : Nat → World → Nat → Prop) (Dg : Nat → World → Nat → Int → (Nat → Bool) → Prop) : Prop := ∀ {B w zb} (X : BitVec 256) (n : Nat), ofB X n = true → n ≤ 6 → Fr B w zb → Calls Tryz.prog 19 #[.pointer (some ⟨zb, 0, none⟩), sv X, .int .i64 n] w fun e w' => ∃ id : Int, e = .returned (.tuple #[.int .i64 id, .int .i64 0]) ∧ Dg B w' zb id (famC X n) ∧ Below B w w'
end Go.Proofs.YtehpccanjlaokaaGreat
