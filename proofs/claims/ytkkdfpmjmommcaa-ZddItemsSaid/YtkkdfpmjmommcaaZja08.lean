/- Several joins put together. -/
import Derived.Test.YtkkdfpmjmommcaaZcp08
namespace Go.Proofs.Ytkkdfpmjmommcaa
open Go.RowKit Go.Joins

def cJ : Nat → Nat
  | 0 => 0
  | k + 1 => cJ k + (k + 1)
def uJ (k : Nat) (S : St) (L : List (Int × Int)) : Nat → Bool := fun n => L.any fun p => joinF k (zf S k p.1) (zf S k p.2) n
noncomputable def bJ (k : Nat) (S : St) (L : List (Int × Int)) : Nat := (L.map fun p => (cJ k + k) * (zn S p.1 * zn S p.2)).sum
theorem bJ_split (k : Nat) (S : St) (L : List (Int × Int)) (K : Nat) : bJ k S (L.take K) + bJ k S (L.drop K) = bJ k S L := by
  unfold bJ
  rw [← List.sum_append, ← List.map_append, List.take_append_drop]
theorem bJ_succ {k : Nat} {S : St} {L : List (Int × Int)} {K : Nat} {p : Int × Int} (h : L[K]? = some p) : bJ k S (L.take (K + 1)) = bJ k S (L.take K) + (cJ k + k) * (zn S p.1 * zn S p.2) := by
  unfold bJ
  rw [List.take_add_one, h, List.map_append, List.sum_append]
  simp
theorem uJ_succ {k : Nat} {S : St} {L : List (Int × Int)} {K : Nat} {p : Int × Int} (h : L[K]? = some p) : uJ k S (L.take (K + 1)) = fun n => uJ k S (L.take K) n || joinF k (zf S k p.1) (zf S k p.2) n := by
  funext n
  unfold uJ
  rw [List.take_add_one, h, List.any_append]
  simp
def JoinOk (k : Nat) : Prop := ∀ {N : Nat → Prop} {w : World} {zb ab bm wk mm : Nat} {v : Value} {room full : Nat} {S0 S : St} {c : Nat}, ZdAt w N zb ab bm v room full S → WkAt w wk zb mm → RemZ w mm S0 S c → mm ≠ bm → ¬ N mm →
  ∀ (f g : Int), 0 ≤ lvl S f → 0 ≤ lvl S g → 24 ≤ lvl S f + k → 24 ≤ lvl S g + k → k ≤ 24 → c + cJ k * (zn S f * zn S g) ≤ 1000000 →
  Calls Try.prog 57 #[.pointer (some ⟨wk, 0, none⟩), .int .i64 f, .int .i64 g] w
    (MadeZ no8 (MZ bm mm) N w zb ab bm room fun w' T id er => OutZ k room S (joinF k (zf S k f) (zf S k g)) (cJ k * (zn S f * zn S g)) T id er ∧ RemZ w' mm S0 T (c + cJ k * (zn S f * zn S g)))
theorem OutZ.plus {k room B B1 B2 : Nat} {S T U V : St} {F0 F1 : Nat → Bool} {all id1 id e : Int} (hk : k ≤ 24) (h0 : OutZ k room S F0 B T all 0) (h1 : OutZ k room T F1 B1 U id1 0) (h2 : OutZ k room U (op2F 0 (zf U k all) (zf U k id1)) B2 V id e) :
    OutZ k room S (fun n => F0 n || F1 n) (B + B1 + B2) V id e := by
  obtain ⟨a0, a1, a2⟩ := h0.ok
  obtain ⟨b0, b1, b2⟩ := h1.ok
  have e1 := h1.ext.zf h0.zst.vst k all hk a0 a1
  rw [e1, a2, b2] at h2
  exact (h0.then h1).then h2
theorem zn_join {k : Nat} {S U : St} {f g id : Int} (hk : k ≤ 24) (fk : 24 ≤ lvl S f + k) (gk : 24 ≤ lvl S g + k) (ik : 24 ≤ lvl U id + k) (h : zf U k id = joinF k (zf S k f) (zf S k g)) : zn U id ≤ zn S f * zn S g := by
  rw [← zn_cF hk ik, ← zn_cF hk fk, ← zn_cF hk gk, h]
  exact cF_join k _ _
set_option maxHeartbeats 4000000 in
set_option maxRecDepth 100000 in
theorem zjoinAll_any {k : Nat} (IH : JoinOk k) {N : Nat → Prop} {w : World} {zb ab bm wk mm pb cap : Nat} {v : Value} {room full : Nat} {S0 S : St} {c : Nat} (hd : ZdAt w N zb ab bm v room full S) (hw : WkAt w wk zb mm) (hr : RemZ w mm S0 S c) (hne : mm ≠ bm) (hN : ¬ N mm)
    (L : List (Int × Int)) (hL3 : L.length ≤ 3) (hL : ∀ p ∈ L, 0 ≤ lvl S p.1 ∧ 0 ≤ lvl S p.2 ∧ 24 ≤ lvl S p.1 + k ∧ 24 ≤ lvl S p.2 + k) (hk : k ≤ 24) {PC : Array Value} (hpb : w.heap[pb]? = some (.cells PC 96 (0, 0))) (hPC : ∀ (j : Nat) (p : Int × Int), L[j]? = some p → PC[j * 2]? = some (.int .i64 p.1) ∧ PC[j * 2 + 1]? = some (.int .i64 p.2)) (hc : c + bJ k S L ≤ 1000000) :
    Calls Try.prog 83 #[.pointer (some ⟨wk, 0, none⟩), .slice (some ⟨pb, 0, none⟩) L.length cap] w
      (MadeZ no8 (MZ bm mm) N w zb ab bm room fun w' T id er => OutZ k room S (uJ k S L) (bJ k S L) T id er ∧ RemZ w' mm S0 T (c + bJ k S L)) := by
  have hT : Hid (∀ K, K = L.length → L.take K = L) := Lib.hid (fun K h => by rw [h, List.take_length])
  have hsp := fun K => Lib.hid (bJ_split k S L K)
  have h24 : lvl S 0 = 24 := lvl_end (.inl rfl)
  have hstart : Hid (OutZ k room S (uJ k S (L.take 0)) (bJ k S (L.take 0)) S 0 0) := Lib.hid (OutZ.stay hd.zst (by omega) (by omega) (funext fun n => by rw [zf_zero _ _ _ hk]; rfl) _)
  have hV := hd.zst.vst
  go_enter Try.func83, Try.ntmps83
  go_wp2
  go_loopw [6, 13] (fun s t wr => ∃ (K : Nat) (all : Int) (v' : Value) (full' : Nat) (T : St), K ≤ L.length ∧ s = .int .i64 all ∧ t = .int .i64 K ∧ ZdAt wr N zb ab bm v' room full' T ∧ Kz no8 (MZ bm mm) N w wr ∧ Hid (OutZ k room S (uJ k S (L.take K)) (bJ k S (L.take K)) T all 0) ∧ RemZ wr mm S0 T (c + bJ k S (L.take K))) (fun _ t _ => L.length - (intOf t).toNat)
  case atStart => exact ⟨0, 0, v, full, S, by omega, rfl, rfl, hd, Kz.refl _ _ _ _, hstart, hr.more (Nat.le_add_right _ _)⟩
  case round =>
    obtain ⟨K, all, v1, full1, T, hK, rfl, rfl, hd1, hk1, hO, hr1⟩ := hrel
    by_cases hlt : K < L.length
    · obtain ⟨p, hp⟩ : ∃ p, L[K]? = some p := ⟨_, List.getElem?_eq_getElem hlt⟩
      obtain ⟨p0, p1, p2, p3⟩ := hL p (List.mem_of_getElem? hp)
      obtain ⟨c0, c1⟩ := hPC K p hp
      have hpb1 := hk1.cells _ _ _ _ hpb (by decide) (by decide) (fun h => h)
      have q0 : wr.cell? ⟨pb, K * 2, none⟩ = some (.int .i64 p.1) := by rw [cell_of_block hpb1]; exact c0
      have q1 : wr.cell? ⟨pb, K * 2 + 1, none⟩ = some (.int .i64 p.2) := by rw [cell_of_block hpb1]; exact c1
      go_upto_region 5 with (fail)
      have hsK := hsp (K + 1)
      have hsu := Lib.hid (bJ_succ (k := k) (S := S) hp)
      have huu := Lib.hid (uJ_succ (k := k) (S := S) hp)
      have hB1 := below_alloc1 wr (.cells #[.int .i64 p.1, .int .i64 p.2] 96 (0, 0))
      have hbx := heap_alloc_new wr (.cells #[.int .i64 p.1, .int .i64 p.2] 96 (0, 0))
      have hd2 := hd1.below hB1
      have hw2 := (hw.kz hk1 (fun h => h)).below hB1
      have hr2 := hr1.below hB1
      have hx := hO.out.ext
      have e1 := hx.lvl p0
      have e2 := hx.lvl p1
      have e3 := hx.zn hV p0
      have e4 := hx.zn hV p1
      have e5 := hx.zf hV k _ hk p0 p2
      have e6 := hx.zf hV k _ hk p1 p3
      have hmul : cJ k * (zn S p.1 * zn S p.2) + k * (zn S p.1 * zn S p.2) = (cJ k + k) * (zn S p.1 * zn S p.2) := (Nat.add_mul _ _ _).symm
      have hbnd : c + bJ k S (L.take K) + (cJ k * (zn S p.1 * zn S p.2) + k * (zn S p.1 * zn S p.2)) ≤ 1000000 := by
        have h1 := hsK.out
        have h2 := hsu.out
        omega
      have HJ := IH hd2 hw2 hr2 hne hN p.1 p.2 (by omega) (by omega) (by omega) (by omega) hk (by rw [e3, e4]; omega)
      rw [e3, e4, e5, e6] at HJ
      have hk2 := hk1.more hB1
      generalize wr.alloc (.cells #[.int .i64 p.1, .int .i64 p.2] 96 (0, 0)) = W at *
      obtain ⟨x0, x1, -⟩ := now2 hbx rfl
      clear hd1 hr1 q0 q1 hpb1 hp hB1 hk1
      go_wp2_with fail
      refine HJ.mono ?_
      rintro e w3 ⟨v3, full3, U, id1, er1, rfl, hd3, hk3, hO3, hr3⟩
      clear HJ x0 x1 hbx hd2 hr2 hw2
      have hk4 := hk2.trans hk3
      rcases hO3.kind with rfl | ⟨rfl, rfl⟩
      · obtain ⟨a0, a1, a2⟩ := hO.out.ok
        obtain ⟨b0, b1, b2⟩ := hO3.ok
        have f1 := hO3.ext.lvl a0
        have hle := zn_join (S := S) hk p2 p3 b1 b2
        have hmin : k * min (zn U all) (zn U id1) ≤ k * (zn S p.1 * zn S p.2) := Nat.mul_le_mul_left _ (by omega)
        have HU := zunion_any k hd3 (hw.kz hk4 (fun h => h)) hr3 hne hN all id1 (by omega) b0 (by omega) b1 hk (by omega)
        have hOP := fun V id er (h2 : OutZ k room U (op2F 0 (zf U k all) (zf U k id1)) (k * min (zn U all) (zn U id1)) V id er) => Lib.hid (((hO.out.plus hk hO3 h2).same huu.out.symm).more (B' := bJ k S (L.take (K + 1))) (by have := hsu.out; omega))
        have hrm : c + bJ k S (L.take K) + cJ k * (zn S p.1 * zn S p.2) + k * min (zn U all) (zn U id1) ≤ c + bJ k S (L.take (K + 1)) := by have := hsu.out; omega
        clear hO3 hO hmin hle f1 a0 a1 a2 b0 b1 b2 hr3 e1 e2 e3 e4 e5 e6 hx hk2 hk3 hd3 hbnd hmul
        go_wp2_with fail
        refine HU.mono ?_
        rintro e w5 ⟨v5, full5, V, id2, er2, rfl, hd5, hk5, hO5, hr5⟩
        clear HU
        have hO6 := hOP _ _ _ hO5
        have hk6 := hk4.trans hk5
        have hr6 := hr5.more hrm
        clear hOP hr5 hrm
        rcases hO5.kind with rfl | ⟨rfl, rfl⟩
        · clear hO5
          go_wp2
          go_roundw
          case rel => exact ⟨K + 1, id2, v5, full5, V, by omega, rfl, by go_num, hd5, hk6, hO6, hr6⟩
          case measure => simp [intOf]; omega
        · clear hO5
          have hO7 := Lib.hid (hO6.out.fail0 (D' := k) (G := uJ k S L) (B' := bJ k S L) (by decide) (by have := hsK.out; omega))
          have hr7 := hr6.more (C' := c + bJ k S L) (by have := hsK.out; omega)
          go_wp2
          go_ret2
          exact ⟨v5, full5, V, 0, 5, rfl, hd5, hk6, hO7.out, hr7⟩
      · have hO7 := Lib.hid (hO.out.fail1 (D' := k) (G := uJ k S L) (B' := bJ k S L) hO3 (by decide) (by have := hsK.out; have := hsu.out; omega))
        have hr7 := hr3.more (C' := c + bJ k S L) (by have := hsK.out; have := hsu.out; omega)
        clear hO3 hO e1 e2 e3 e4 e5 e6 hx
        go_wp2
        go_ret2
        exact ⟨v3, full3, U, 0, 5, rfl, hd3, hk4, hO7.out, hr7⟩
    · have hh := Lib.hid (hT.out K (by omega))
      go_wp2
      go_ret2
      refine ⟨v1, full1, T, all, 0, rfl, hd1, hk1, ?_, ?_⟩
      · have := hO.out; rw [hh.out] at this; exact this
      · rw [hh.out] at hr1; exact hr1
end Go.Proofs.Ytkkdfpmjmommcaa
