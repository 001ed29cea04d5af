/- append([]T{}, xs...), at a step of a region that draws its order: whatever the row, nil and empty too. -/
import Derived.Test.YtkcchdaadajjcaaRar05
import Derived.Deep.RegionLaw
import Derived.Deep.AppendSrc
import Derived.Deep.AppendLies
namespace Go.Proofs.Ytkcchdaadajjcaa
open Go.RowKit Go.Joins

theorem run_copy_row {P : Program} {w5 w : World} {b B : Nat} {T E ty : TypeId} {i : TypeInfo} {z : Value} {size bytes n c : Nat} {A : Option Addr} {xs : List Value} (ht : P.underlying T = some (.slice E)) (hi : P.info? E = some i) (hz : i.zero = some z) (hsize : i.size = size) (hby : i.bytes = bytes) (hzs : z.cells.size = size) (hsz : 0 < size)
    (hb : Below w5.heap.size w5 w) (hblk : w.heap[b]? = some (.cells #[] E (0, 0))) (hbn : w5.heap.size ≤ b) (hown : w5.ownsRow B E size (.slice A n c) n xs) (h1 : ∀ u ∈ xs, u.oneCell' = true) (h63 : n ≤ maxLen) (hbytes : n * bytes ≤ 140737488355328) :
    ∃ A2 c2 w', (Builtin.append_ #[T, T] ty #[.slice (some ⟨b, 0, none⟩) 0 0, .slice A n c]).run P w = .ok (.slice A2 n c2) w' ∧ w'.ownsRow w5.heap.size E size (.slice A2 n c2) n xs ∧ w.grownBy w' (some b) := by
  have hown' := owns_below hown hb
  have hlen := hown.1
  by_cases hn : n = 0
  · subst hn
    have hxs : xs = [] := by simpa using hlen
    subst hxs
    have hsrc : Src P i.size T (.slice A 0 c) 0 [] w := by
      rcases hown.2 with ⟨hv, _⟩ | ⟨g, cap, cur, hv, _⟩
      · injection hv with e1 _ e2; subst e1; subst e2; exact Src.ofNil w ht 0
      · injection hv with e1 _ e2; subst e1; subst e2; exact Src.ofSlice w ht _ _ _ _ (by simp) (by simp) (by simp)
    have hr := run_append_room_src (P := P) w T T ty E i ht hi b 0 0 0 (.slice A 0 c) 0 [] hsrc (by omega) (by simp) (by simp)
    exact ⟨some ⟨b, 0, none⟩, 0, _, hr, ⟨by simp, .inr ⟨b, 0, #[], rfl, hbn, hblk, Nat.le_refl _, by unfold maxLen; omega, by simp, by simp⟩⟩, ⟨rfl, rfl, rfl, Nat.le_refl _, fun _ _ _ => rfl⟩⟩
  · obtain ⟨g, cg, hA⟩ := own_some hown (by omega)
    obtain rfl : A = some ⟨g, 0, none⟩ := by injection hA
    have hd : w.ownsRow w5.heap.size E size (.slice (some ⟨b, 0, none⟩) 0 0) 0 [] := ⟨by simp, .inr ⟨b, 0, #[], rfl, hbn, hblk, Nat.le_refl _, by unfold maxLen; omega, by simp, by simp⟩⟩
    obtain ⟨g2, cap, w', hr, h2, h3, h4, _⟩ := run_append_lies (P := P) w T ty w5.heap.size E i z size bytes ht hi hz hsize hby hzs hsz _ 0 [] hd ⟨g, 0, none⟩ n c xs hlen (hown'.cells rfl) h1 (by omega) (by omega) (by rw [Nat.zero_add]; exact hbytes) hb.size _ rfl
    simp only [Nat.zero_add, List.nil_append] at hr h2
    exact ⟨_, cap, w', hr, h2, h3⟩
theorem step_copy_row {P : Program} {ops : Array Oper} {o : Oper} {a : Act} {K : Act → World → Prop} {Q : Exit → Act → World → Prop} {F : Prop} {w5 w : World} {b B : Nat} {E : TypeId} {i : TypeInfo} {z : Value} {size bytes n c : Nat} {A : Option Addr} {xs : List Value}
    (hgd : o.guard = none) (s x : Operand) (T : TypeId) (ho : o.op = .call { callee := .builtin .append, args := #[s, x], argTypes := #[T, T] })
    (ht : P.underlying T = some (.slice E)) (hi : P.info? E = some i) (hz : i.zero = some z) (hsize : i.size = size) (hby : i.bytes = bytes) (hzs : z.cells.size = size) (hsz : 0 < size)
    (hs : a.eval s = .slice (some ⟨b, 0, none⟩) 0 0) (hx : a.eval x = .slice A n c) (hb : Below w5.heap.size w5 w) (hblk : w.heap[b]? = some (.cells #[] E (0, 0))) (hbn : w5.heap.size ≤ b) (hown : w5.ownsRow B E size (.slice A n c) n xs) (h1 : ∀ u ∈ xs, u.oneCell' = true) (h63 : n ≤ maxLen) (hbytes : n * bytes ≤ 140737488355328)
    (h : ∀ A2 c2 w', w'.ownsRow w5.heap.size E size (.slice A2 n c2) n xs → w.grownBy w' (some b) → K (a.put o.dst (.slice A2 n c2)) w') :
    if Region.wanted o (yielded ops a.tmps) = true then Oper.wp P o a w K Q else F := by
  have hw : Region.wanted o (yielded ops a.tmps) = true := by simp [Region.wanted, hgd]
  rw [if_pos hw]
  obtain ⟨A2, c2, w', hr, h2, h3⟩ := run_copy_row (P := P) (ty := o.type) ht hi hz hsize hby hzs hsz hb hblk hbn hown h1 h63 hbytes
  unfold Oper.wp execOp
  simp only [ho, resolve, invoke, builtin, Sem.run_bind, Sem.run_pure, Result.andThen_ok, List.map_toArray, List.map_cons, List.map_nil, hs, hx, hr]
  exact h A2 c2 w' h2 h3
theorem later2 {w : World} {b : Nat} {T : TypeId} {x0 x1 : Value} (h : w.heap[b]? = some (.cells #[x0, x1] T (0, 0))) : (∀ o, (w.alloc o).cell? ⟨b, 0, none⟩ = some x0) ∧ ∀ o, (w.alloc o).cell? ⟨b, 1, none⟩ = some x1 :=
  ⟨fun _ => (now2 (keep_alloc h) rfl).1, fun _ => (now2 (keep_alloc h) rfl).2.1⟩
theorem later3 {w : World} {b : Nat} {T : TypeId} {x0 x1 : Value} (h : w.heap[b]? = some (.cells #[x0, x1] T (0, 0))) : (∀ o o', ((w.alloc o).alloc o').cell? ⟨b, 0, none⟩ = some x0) ∧ ∀ o o', ((w.alloc o).alloc o').cell? ⟨b, 1, none⟩ = some x1 :=
  ⟨fun _ _ => (now2 (keep_alloc (keep_alloc h)) rfl).1, fun _ _ => (now2 (keep_alloc (keep_alloc h)) rfl).2.1⟩
end Go.Proofs.Ytkcchdaadajjcaa
