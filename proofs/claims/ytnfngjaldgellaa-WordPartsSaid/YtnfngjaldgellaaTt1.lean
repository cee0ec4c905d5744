/- Merged: WoPl2. -/
import Derived.Test.YtnfngjaldgellaaTt0
import Derived.Lib.Bytealg
namespace Go.Proofs.Ytnfngjaldgellaa.Wo
open Go.RowKit
open Go.Proofs.Ytnfngjaldgellaa.Utf
open Go.Proofs.Ytnfngjaldgellaa.Nu

def hdP (c : UInt8) : List UInt8 → List UInt8
  | [] => []
  | x :: r => if x = c then [] else x :: hdP c r
def tlP (c : UInt8) : List UInt8 → List UInt8
  | [] => []
  | x :: r => if x = c then r else tlP c r
theorem hd_no (c : UInt8) : ∀ l, c ∉ hdP c l
  | [] => by simp [hdP]
  | x :: r => by
    rw [hdP]
    split
    · simp
    · rename_i h
      intro hm
      rcases List.mem_cons.1 hm with e | hm
      · exact h e.symm
      · exact hd_no c r hm
theorem cut_app {c : UInt8} : ∀ {l : List UInt8}, c ∈ l → l = hdP c l ++ c :: tlP c l
  | x :: r, h => by
    rw [hdP, tlP]
    by_cases hx : x = c
    · rw [if_pos hx, if_pos hx, hx]; rfl
    · rw [if_neg hx, if_neg hx, List.cons_append]
      rcases List.mem_cons.1 h with e | h
      · exact absurd e.symm hx
      · rw [← cut_app h]
theorem hd_all {c : UInt8} : ∀ {l : List UInt8}, c ∉ l → hdP c l = l
  | [], _ => rfl
  | x :: r, h => by rw [hdP, if_neg (fun e => h (by rw [e]; exact List.mem_cons_self)), hd_all (fun h2 => h (List.mem_cons_of_mem _ h2))]
theorem tl_all {c : UInt8} : ∀ {l : List UInt8}, c ∉ l → tlP c l = []
  | [], _ => rfl
  | x :: r, h => by rw [tlP, if_neg (fun e => h (by rw [e]; exact List.mem_cons_self)), tl_all (fun h2 => h (List.mem_cons_of_mem _ h2))]
theorem spl_cut {c : UInt8} {l : List UInt8} (h : c ∈ l) : spl c l = hdP c l :: spl c (tlP c l) := by
  conv => lhs; rw [cut_app h]
  rw [spl_app, spl_no (hd_no c l)]; rfl
theorem cut_len {c : UInt8} {l : List UInt8} (h : c ∈ l) : (hdP c l).length + 1 + (tlP c l).length = l.length := by
  conv => rhs; rw [cut_app h]
  simp; omega
theorem hd_le (c : UInt8) (l : List UInt8) : (hdP c l).length ≤ l.length := by
  by_cases h : c ∈ l
  · have := cut_len h; omega
  · rw [hd_all h]; exact Nat.le_refl _
theorem tl_le (c : UInt8) (l : List UInt8) : (tlP c l).length ≤ l.length := by
  by_cases h : c ∈ l
  · have := cut_len h; omega
  · rw [tl_all h]; exact Nat.zero_le _
theorem idx_cases (c : UInt8) : ∀ l : List UInt8, (Lib.indexByte l c = -1 ∧ c ∉ l) ∨ ∃ i : Nat, Lib.indexByte l c = i ∧ c ∈ l ∧ i + 1 ≤ l.length ∧ hdP c l = l.take i ∧ tlP c l = l.drop (i + 1)
  | [] => .inl ⟨rfl, by simp⟩
  | x :: r => by
    unfold Lib.indexByte
    by_cases hx : x = c
    · right
      subst hx
      exact ⟨0, by simp, by simp, by simp, by rw [hdP, if_pos rfl]; rfl, by rw [tlP, if_pos rfl]; rfl⟩
    · have hx' : (x == c) = false := beq_eq_false_iff_ne.2 hx
      rw [hx', hdP, tlP, if_neg hx, if_neg hx]
      rcases idx_cases c r with ⟨h1, h2⟩ | ⟨i, h1, h2, h3, h4, h5⟩
      · left
        rw [h1]
        refine ⟨rfl, fun hm => ?_⟩
        rcases List.mem_cons.1 hm with e | hm
        · exact hx e.symm
        · exact h2 hm
      · right
        have : ((i : Int) == -1) = false := beq_eq_false_iff_ne.2 (by omega)
        rw [h1, this]
        exact ⟨i + 1, by simp, List.mem_cons_of_mem _ h2, by simp; omega, by rw [h4]; rfl, by rw [h5]; rfl⟩
theorem idx_mem (l : List UInt8) (c : UInt8) : decide (0 ≤ Lib.indexByte l c) = decide (c ∈ l) := by
  rcases idx_cases c l with ⟨h1, h2⟩ | ⟨i, h1, h2, _⟩
  · rw [h1, decide_eq_false h2]; rfl
  · rw [h1, decide_eq_true h2]; exact decide_eq_true (by omega)

def holdS (f g : Int → Bool) : List UInt8 → Bool
  | [] => false
  | x :: r => f (x.toNat : Int) && r.all fun y => g (y.toNat : Int)
def alB (b : Int) : Bool := ltr b || isD b
theorem ltr_al {b : Int} (h : ltr b = true) : alB b = true := by unfold alB; rw [h]; rfl
theorem al_nm {b : Int} (h : alB b = true) : nmB b = true := by
  unfold alB at h
  unfold nmB
  rw [h]; rfl
theorem al_sch {b : Int} (h : alB b = true) : schB b = true := by
  unfold alB at h
  unfold schB
  rw [h]; rfl
theorem sch_uri {b : Int} (h : schB b = true) : uriB b = true := by
  unfold schB ltr isD at h
  unfold uriB
  simp only [Bool.or_eq_true, decide_eq_true_eq] at h
  simp only [Bool.and_eq_true, Bool.not_eq_true', decide_eq_true_eq, decide_eq_false_iff_not]
  omega
theorem ltr_sch {b : Int} (h : ltr b = true) : schB b = true := al_sch (ltr_al h)
theorem nmB_47 : nmB 47 = false := by decide
theorem uriB_58 : uriB 58 = true := by decide
theorem nm_eq (l : List UInt8) : (decide (l.length ≤ 127) && holdS alB nmB l) = nmS l := by
  unfold nmS
  cases l with
  | nil => rfl
  | cons x r =>
    show (decide ((x :: r).length ≤ 127) && (alB (x.toNat : Int) && r.all fun y => nmB (y.toNat : Int))) = (decide (1 ≤ (x :: r).length ∧ (x :: r).length ≤ 127) && alB (byt (x :: r) 0) && (nmB (x.toNat : Int) && r.all fun y => nmB (y.toNat : Int)))
    rw [byt_cons_0, Bool.eq_iff_iff]
    simp only [Bool.and_eq_true, decide_eq_true_eq, List.length_cons]
    constructor
    · rintro ⟨h1, h2, h3⟩
      exact ⟨⟨⟨by omega, h1⟩, h2⟩, al_nm h2, h3⟩
    · rintro ⟨⟨⟨h0, h1⟩, h2⟩, _, h3⟩
      exact ⟨h1, h2, h3⟩
theorem nm_47 {l : List UInt8} (h : nmS l = true) : (47 : UInt8) ∉ l := by
  unfold nmS at h
  rw [Bool.and_eq_true, List.all_eq_true] at h
  intro hm
  have := h.2 _ hm
  rw [show (((47 : UInt8).toNat : Nat) : Int) = 47 from rfl, nmB_47] at this
  cases this
theorem media_eq (l : List UInt8) : (nmS (hdP 47 l) && nmS (tlP 47 l)) = mediaS l := by
  unfold mediaS
  by_cases h : (47 : UInt8) ∈ l
  · rw [spl_cut h]
    by_cases h2 : (47 : UInt8) ∈ tlP 47 l
    · rw [spl_cut h2]
      have h3 : nmS (tlP 47 l) = false := Bool.eq_false_iff.2 fun e => nm_47 e h2
      rw [h3, Bool.and_false]
      cases hs : spl 47 (tlP 47 (tlP 47 l)) with
      | nil => exact absurd hs (spl_ne _ _)
      | cons a b => rfl
    · rw [spl_no h2]
  · rw [spl_no h, tl_all h]
    show (_ && false) = false
    rw [Bool.and_false]

def tgS (first : Bool) (l : List UInt8) : Bool := if first then tag1 l else tagS l
def lanS (first : Bool) (l : List UInt8) : Bool := if first then langS l else (spl 45 l).all tagS
theorem lan_cut {first : Bool} {l : List UInt8} (h : (45 : UInt8) ∈ l) : lanS first l = (tgS first (hdP 45 l) && lanS false (tlP 45 l)) := by
  unfold lanS tgS langS
  rw [spl_cut h]
  cases first <;> rfl
theorem lan_no {first : Bool} {l : List UInt8} (h : (45 : UInt8) ∉ l) : lanS first l = tgS first l := by
  unfold lanS tgS langS
  rw [spl_no h]
  cases first
  · show (tagS l && true) = tagS l
    rw [Bool.and_true]
  · show (tag1 l && true) = tag1 l
    rw [Bool.and_true]
theorem holdS_all {f : Int → Bool} {l : List UInt8} (h : l ≠ []) : holdS f f l = l.all fun y => f (y.toNat : Int) := by
  cases l with
  | nil => exact absurd rfl h
  | cons x r => rfl
theorem tag_eq (l : List UInt8) : (decide (1 ≤ l.length) && decide (l.length ≤ 8) && holdS alB alB l) = tagS l := by
  unfold tagS
  by_cases h : l = []
  · subst h; rfl
  · rw [holdS_all h, Bool.decide_and]; rfl
theorem tag1_eq (l : List UInt8) : (decide (2 ≤ l.length) && decide (l.length ≤ 8) && holdS ltr ltr l) = tag1 l := by
  unfold tag1
  by_cases h : l = []
  · subst h; rfl
  · rw [holdS_all h, Bool.decide_and]

theorem col_eq : ∀ {l : List UInt8}, (58 : UInt8) ∈ l → colN l = (hdP 58 l).length
  | x :: r, h => by
    unfold colN
    rw [List.findIdx_cons, hdP]
    by_cases hx : x = 58
    · rw [if_pos hx, beq_iff_eq.2 hx]; rfl
    · rw [if_neg hx, beq_eq_false_iff_ne.2 hx]
      rcases List.mem_cons.1 h with e | h
      · exact absurd e.symm hx
      · have := col_eq h
        unfold colN at this
        show (List.findIdx (fun x => x == 58) r) + 1 = _
        rw [this]; rfl
theorem col_no {l : List UInt8} (h : (58 : UInt8) ∉ l) : colN l = l.length := by
  unfold colN
  exact List.findIdx_eq_length.2 fun x hx => beq_eq_false_iff_ne.2 fun e => h (by rw [← e]; exact hx)
theorem oth_eq (l : List UInt8) : (decide (hdP 58 l ≠ []) && decide (tlP 58 l ≠ [])) = othS l := by
  unfold othS
  by_cases h : (58 : UInt8) ∈ l
  · have h1 := cut_len h
    rw [col_eq h, ← Bool.decide_and]
    have e1 : hdP 58 l ≠ [] ↔ 1 ≤ (hdP 58 l).length := List.length_pos_iff.symm
    have e2 : tlP 58 l ≠ [] ↔ 1 ≤ (tlP 58 l).length := List.length_pos_iff.symm
    exact decide_eq_decide.2 (by rw [e1, e2]; omega)
  · rw [tl_all h, col_no h]
    rw [decide_eq_false (show ¬ (([] : List UInt8) ≠ []) from fun h => h rfl), Bool.and_false]
    exact (decide_eq_false (by omega)).symm
theorem uri_eq (l : List UInt8) : (holdS ltr schB (hdP 58 l) && holdS uriB uriB (tlP 58 l)) = uriS l := by
  unfold uriS
  by_cases h : (58 : UInt8) ∈ l
  · have h1 := cut_len h
    have hl := cut_app h
    rw [col_eq h]
    generalize hdP 58 l = a at *
    generalize tlP 58 l = b at *
    subst hl
    cases a with
    | nil => rfl
    | cons x r =>
      have e1 : ((x :: r) ++ 58 :: b).take (x :: r).length = x :: r := List.take_left
      have e2 : (58 :: b).all (fun x => uriB (x.toNat : Int)) = b.all (fun x => uriB (x.toNat : Int)) := by
        rw [List.all_cons]
        show (uriB 58 && _) = _
        rw [uriB_58, Bool.true_and]
      have e3 : (x :: r).all (fun x => schB (x.toNat : Int)) = (schB (x.toNat : Int) && r.all fun x => schB (x.toNat : Int)) := rfl
      rw [e1, e3, show byt (x :: r ++ 58 :: b) 0 = (x.toNat : Int) from rfl, List.all_append, e2]
      cases b with
      | nil => rw [decide_eq_false (by simp)]; show (_ && false) = _; rw [Bool.and_false]; rfl
      | cons y t =>
        rw [decide_eq_true (by simp), Bool.eq_iff_iff]
        show ((ltr (x.toNat : Int) && r.all fun y => schB (y.toNat : Int)) && (uriB (y.toNat : Int) && t.all fun y => uriB (y.toNat : Int))) = true ↔ (((true && ltr (x.toNat : Int)) && (schB (x.toNat : Int) && r.all fun y => schB (y.toNat : Int))) && ((uriB (x.toNat : Int) && r.all fun y => uriB (y.toNat : Int)) && (uriB (y.toNat : Int) && t.all fun y => uriB (y.toNat : Int)))) = true
        simp only [Bool.and_eq_true, List.all_eq_true]
        constructor
        · rintro ⟨⟨p1, p2⟩, p3, p4⟩
          exact ⟨⟨⟨trivial, p1⟩, ltr_sch p1, p2⟩, ⟨sch_uri (ltr_sch p1), fun z hz => sch_uri (p2 z hz)⟩, p3, p4⟩
        · rintro ⟨⟨⟨_, p1⟩, _, p2⟩, _, p3, p4⟩
          exact ⟨⟨p1, p2⟩, p3, p4⟩
  · rw [tl_all h, col_no h, decide_eq_false (by omega)]
    show (_ && false) = _
    rw [Bool.and_false]; rfl
theorem in_cut {l s : List UInt8} (hs : s ≠ []) (h : (32 : UInt8) ∈ l) : inS l s = (decide (hdP 32 l = s) || inS (tlP 32 l) s) := by
  unfold inS
  rw [spl_cut h, decide_eq_true hs, Bool.true_and, Bool.true_and, List.contains_cons]
  congr 1
  rw [Bool.eq_iff_iff, beq_iff_eq, decide_eq_true_eq]
  exact eq_comm
theorem in_no {l s : List UInt8} (hs : s ≠ []) (h : (32 : UInt8) ∉ l) : inS l s = decide (hdP 32 l = s) := by
  unfold inS
  rw [spl_no h, hd_all h, decide_eq_true hs, Bool.true_and, List.contains_cons, Bool.eq_iff_iff, Bool.or_eq_true, beq_iff_eq, decide_eq_true_eq]
  constructor
  · rintro (h1 | h1)
    · exact h1.symm
    · cases h1
  · exact fun h1 => .inl h1.symm
end Go.Proofs.Ytnfngjaldgellaa.Wo
