/- Merged: Base PoPl NuPl. -/
import Derived.Test.YtbfogkcnfnjcaaaProg
import Derived.Below
import Derived.Laws.OwnMore
import Derived.Laws.BytesArg
import Derived.Deep.Draws
import Derived.Lib.UnsafeStr
import Derived.Lib.Hide
import Derived.WalkKit
import Derived.Laws.AppendOwn
import Derived.Laws.BytesString
import Derived.Lib.Strings
import Derived.OpenShut
namespace Go.Proofs.Ytbfogkcnfnjcaaa
open Go.RowKit

theorem blk_add (a : Addr) (n : Nat) : (a.add n).block = a.block := by unfold Addr.add; split <;> rfl

def Rd (w : World) (B : Nat) (v : Value) (xs : List Value) : Prop :=
  ∃ A c, v = .slice A xs.length c ∧ (0 < xs.length → ∃ ad, A = some ad ∧ ad.block < B ∧ ∀ j u, xs[j]? = some u → w.cell? (ad.add j) = some u)

section
variable {w w' : World} {B B' : Nat} {v : Value} {xs : List Value}

theorem Rd.nil_ (w : World) (B : Nat) (c : Nat) : Rd w B (.slice none 0 c) [] := ⟨none, c, rfl, fun h => absurd h (by simp)⟩
theorem Rd.of_own {base E n : Nat} (h : w.ownsRow base E 1 v n xs) : Rd w w.heap.size v xs := by
  obtain ⟨hl, h⟩ := h
  rw [Nat.mul_one] at hl
  rcases h with ⟨rfl, rfl⟩ | ⟨g, cap, cur, rfl, _, hh, hn, _, hcur, htake⟩
  · have : xs = [] := List.eq_nil_of_length_eq_zero hl
    subst this
    exact Rd.nil_ w _ 0
  · refine ⟨some ⟨g, 0, none⟩, cap, by rw [hl], fun _ => ⟨_, rfl, ?_, fun j u hu => ?_⟩⟩
    · show g < w.heap.size
      rcases Nat.lt_or_ge g w.heap.size with hlt | hge
      · exact hlt
      · rw [Array.getElem?_eq_none hge] at hh; cases hh
    · have hp : (⟨g, 0, none⟩ : Addr).add j = ⟨g, j, none⟩ := by unfold Addr.add; split <;> simp_all
      rw [hp, ← htake] at *
      have hcj : cur[j]? = some u := by
        rw [List.getElem?_take] at hu
        split at hu
        · simpa using hu
        · cases hu
      simp [World.cell?, hh, hcj]

theorem Rd.conv {P : Program} {S E D : TypeId} {l : List UInt8} (h : Rd w B v (Lib.byteCells l)) (hs : P.underlying S = some (.slice E)) (he : P.underlying E = some (.int .u8)) (hd : P.underlying D = some .string) :
    (convert S D v).run P w = .ok (.string ⟨l.toArray⟩) w := by
  obtain ⟨A, c, rfl, hc⟩ := h
  by_cases h0 : 0 < (Lib.byteCells l).length
  · obtain ⟨ad, rfl, _, hx⟩ := hc h0
    have hl : (loadCells ad (Lib.byteCells l).length).run P w = .ok ((l.map fun b => (b.toNat : Int)).map (Value.int .u8)).toArray w := by
      have := run_loadCells_list (P := P) w ad (Lib.byteCells l) hx
      rw [List.map_map]; simpa [Lib.byteCells, Function.comp_def] using this
    rw [run_convert_bytes_string w S D E _ _ c hs he hd, run_bytesToString w _ _ c _ hl, foldl_push_bytes]
    have e : (l.map fun b => (b.toNat : Int)).map (fun n => UInt8.ofNat n.toNat) = l := by
      rw [List.map_map]; conv => rhs; rw [← List.map_id l]
      exact List.map_congr_left fun x _ => by simp
    rw [e]
    simp [ByteArray.empty, ByteArray.emptyWithCapacity]
    rfl
  · have : l = [] := by
      cases l with
      | nil => rfl
      | cons a r => exact absurd (by simp [Lib.byteCells]) h0
    subst this
    cases A with
    | none => exact run_convert_bytes_nil w S E hs he _ c D hd
    | some ad =>
      have hl : (loadCells ad 0).run P w = .ok (([] : List Int).map (Value.int .u8)).toArray w := by
        simpa using run_loadCells_list (P := P) w ad [] (by simp)
      rw [run_convert_bytes_string w S D E _ _ c hs he hd, show (Lib.byteCells []).length = 0 from rfl, run_bytesToString w _ _ c [] hl]
      rfl
end

end Go.Proofs.Ytbfogkcnfnjcaaa
namespace Go.Proofs.Ytbfogkcnfnjcaaa
open Go.RowKit
theorem cell_lt {w : World} {a : Addr} {v : Value} (h : w.cell? a = some v) : a.block < w.heap.size := by
  rcases Nat.lt_or_ge a.block w.heap.size with hlt | hge
  · exact hlt
  · simp [World.cell?, Array.getElem?_eq_none hge] at h
theorem Rd.of_ints {w : World} {k : IntKind} {x : Addr} {len cap : Nat} {zs : List Int} (hz : zs.length = cap) (hl : len ≤ cap) (hcell : ∀ i, i < zs.length → w.cell? (x.add i) = some (.int k (zs.getD i 0))) :
    Rd w w.heap.size (.slice (some x) len cap) ((zs.take len).map (Value.int k)) := by
  refine ⟨some x, cap, by simp [List.length_take, hz, Nat.min_eq_left hl], fun h0 => ⟨x, rfl, ?_, fun j u hu => ?_⟩⟩
  · have h1 : 0 < zs.length := by simp at h0; omega
    have := cell_lt (hcell 0 h1)
    rw [blk_add] at this
    exact this
  · rw [List.getElem?_map, List.getElem?_take] at hu
    split at hu
    · rename_i hj
      have hj2 : j < zs.length := by omega
      rw [List.getElem?_eq_getElem hj2] at hu
      simp at hu
      rw [hcell j hj2, List.getD_eq_getElem?_getD, List.getElem?_eq_getElem hj2]
      simp [hu]
    · cases hu

end Go.Proofs.Ytbfogkcnfnjcaaa
namespace Go.Proofs.Ytbfogkcnfnjcaaa.Utf
open Go.RowKit

def byt (l : List UInt8) (k : Nat) : Int := ((l.getD k 0).toNat : Int)
theorem byt_lo (l : List UInt8) (k : Nat) : 0 ≤ byt l k := by unfold byt; omega
theorem byt_hi (l : List UInt8) (k : Nat) : byt l k ≤ 255 := by unfold byt; have := (l.getD k 0).toNat_lt; omega
theorem len_data (s : ByteArray) : s.data.toList.length = s.size := rfl
theorem byt_get (s : ByteArray) (k : Nat) (h : k < s.size) : byt s.data.toList k = (s[k].toNat : Int) := by
  unfold byt
  rw [List.getD_eq_getElem?_getD, List.getElem?_eq_getElem (by simpa using h)]
  rfl

theorem ret_bool {a b : Bool} (h : a = b) : Ending.returned (.bool a) = .returned (.bool b) := by rw [h]
theorem ret_int {k : IntKind} {a b : Int} (h : a = b) : Ending.returned (.int k a) = .returned (.int k b) := by rw [h]

def strOf (l : List UInt8) : ByteArray := ⟨l.toArray⟩
theorem strOf_data (l : List UInt8) : (strOf l).data.toList = l := rfl
theorem strOf_list (l : List UInt8) : (strOf l).toList = l := by rw [ByteArray.toList_eq]; rfl
theorem strOf_size (l : List UInt8) : (strOf l).size = l.length := rfl

def Gives (v : Value) (w : World) (e : Ending) (w' : World) : Prop := e = .returned v ∧ Below w.heap.size w w'
def GivesOn (E : TypeId) (B : Nat) (xs : List Value) (w : World) (e : Ending) (w' : World) : Prop :=
  ∃ v, e = .returned v ∧ w'.ownsRow B E 1 v xs.length xs ∧ Below B w w'

theorem infoU8 : (Try.prog.info? 5).map (fun i => (i.zero, i.size, i.bytes)) = some (some (.int .u8 0), 1, 1) := by kernel_rfl
theorem cells_new (w : World) (E : TypeId) (cs : Array Value) : ∀ j u, cs.toList[j]? = some u → (w.alloc (.cells cs E)).cell? ((⟨w.heap.size, 0, none⟩ : Addr).add j) = some u := by
  intro j u hu
  have hp : (⟨w.heap.size, 0, none⟩ : Addr).add j = ⟨w.heap.size, j, none⟩ := by unfold Addr.add; split <;> simp_all
  rw [hp]
  unfold World.cell?
  rw [heap_alloc_new]
  simpa using hu

theorem take_succ' {α : Type} (xs : List α) (k : Nat) (h : k < xs.length) : xs.take (k + 1) = xs.take k ++ [xs[k]] := by
  rw [List.take_succ_eq_append_getElem h]
theorem own_below {w w' : World} {base E size n : Nat} {v : Value} {xs : List Value} (h : w.ownsRow base E size v n xs) (hb : Below w.heap.size w w') : w'.ownsRow base E size v n xs := by
  have hlt := h.lt
  obtain ⟨hl, h⟩ := h
  refine ⟨hl, ?_⟩
  rcases h with h | ⟨g, cap, cur, rfl, h1, h2, h3⟩
  · exact .inl h
  · exact .inr ⟨g, cap, cur, rfl, h1, (hb.block g (hlt g rfl).2).trans h2, h3⟩
end Go.Proofs.Ytbfogkcnfnjcaaa.Utf
namespace Go.Proofs.Ytbfogkcnfnjcaaa.Po

def pgo : Bool → List UInt8 → List UInt8 → Option (List (List UInt8))
  | true, _, [] => none
  | false, part, [] => some [part]
  | true, part, c :: r => if c = 48 then pgo false (part ++ [126]) r else if c = 49 then pgo false (part ++ [47]) r else none
  | false, part, c :: r => if c = 126 then pgo true part r else if c = 47 then (pgo false [] r).map fun ps => part :: ps else pgo false (part ++ [c]) r
def prts : List UInt8 → Option (List (List UInt8))
  | [] => some []
  | c :: r => if c = 47 then pgo false [] r else none
def esc : List UInt8 → List UInt8
  | [] => []
  | c :: r => (if c = 126 then [126, 48] else if c = 47 then [126, 49] else [c]) ++ esc r
def ptxt : List (List UInt8) → List UInt8
  | [] => []
  | p :: r => 47 :: (esc p ++ ptxt r)

theorem pgo_f_nil (part : List UInt8) : pgo false part [] = some [part] := by rw [pgo]
theorem pgo_t_nil (part : List UInt8) : pgo true part [] = none := by rw [pgo]
theorem pgo_f_cons (part : List UInt8) (c : UInt8) (r : List UInt8) : pgo false part (c :: r) = if c = 126 then pgo true part r else if c = 47 then (pgo false [] r).map (fun ps => part :: ps) else pgo false (part ++ [c]) r := by rw [pgo]
theorem pgo_t_cons (part : List UInt8) (c : UInt8) (r : List UInt8) : pgo true part (c :: r) = if c = 48 then pgo false (part ++ [126]) r else if c = 49 then pgo false (part ++ [47]) r else none := by rw [pgo]
theorem esc_app : ∀ a b : List UInt8, esc (a ++ b) = esc a ++ esc b
  | [], b => by rw [esc]; rfl
  | c :: r, b => by rw [List.cons_append, esc, esc, esc_app r b, List.append_assoc]
theorem ptxt_app : ∀ a b : List (List UInt8), ptxt (a ++ b) = ptxt a ++ ptxt b
  | [], b => by rw [ptxt]; rfl
  | p :: r, b => by rw [List.cons_append, ptxt, ptxt, ptxt_app r b]; simp
theorem pgo_len : ∀ (r : List UInt8) (b : Bool) (part : List UInt8) (ps : List (List UInt8)), pgo b part r = some ps → ps.length ≤ r.length + 1 ∧ (ps.map List.length).sum ≤ part.length + r.length
  | [], false, part, ps, h => by rw [pgo_f_nil] at h; injection h with h; subst h; simp
  | [], true, part, ps, h => by rw [pgo_t_nil] at h; cases h
  | c :: r, true, part, ps, h => by
    rw [pgo_t_cons] at h
    split at h
    · have := pgo_len r _ _ _ h; simp at this ⊢; omega
    · split at h
      · have := pgo_len r _ _ _ h; simp at this ⊢; omega
      · cases h
  | c :: r, false, part, ps, h => by
    rw [pgo_f_cons] at h
    split at h
    · have := pgo_len r _ _ _ h; simp at this ⊢; omega
    · split at h
      · obtain ⟨qs, hq, rfl⟩ := Option.map_eq_some_iff.1 h
        have := pgo_len r _ _ _ hq; simp at this ⊢; omega
      · have := pgo_len r _ _ _ h; simp at this ⊢; omega
theorem prts_len {p : List UInt8} {ps : List (List UInt8)} (h : prts p = some ps) : ps.length ≤ p.length ∧ (ps.map List.length).sum ≤ p.length := by
  cases p with
  | nil => rw [prts] at h; injection h with h; subst h; simp
  | cons c r =>
    rw [prts] at h
    split at h
    · have := pgo_len r _ _ _ h; simp at this ⊢; omega
    · cases h
theorem len_sum {q : List UInt8} : ∀ {ps : List (List UInt8)}, q ∈ ps → q.length ≤ (ps.map List.length).sum
  | p :: r, h => by
    rw [List.map_cons, List.sum_cons]
    rcases List.mem_cons.1 h with rfl | h
    · omega
    · have := len_sum h; omega
theorem prts_each {p : List UInt8} {ps : List (List UInt8)} (h : prts p = some ps) : ∀ q ∈ ps, q.length ≤ p.length := fun q hq => by
  have h1 := (prts_len h).2
  have h2 := len_sum hq
  omega
theorem pgo_app : ∀ (r : List UInt8) (b : Bool) (part t : List UInt8) (ps : List (List UInt8)), pgo b part r = some ps → pgo b part (r ++ 47 :: t) = (pgo false [] t).map fun qs => ps ++ qs
  | [], false, part, t, ps, h => by
    rw [pgo_f_nil] at h; injection h with h; subst h
    rw [List.nil_append, pgo_f_cons, if_neg (by decide), if_pos rfl]; rfl
  | [], true, part, t, ps, h => by rw [pgo_t_nil] at h; cases h
  | c :: r, true, part, t, ps, h => by
    rw [List.cons_append, pgo_t_cons]
    rw [pgo_t_cons] at h
    by_cases h1 : c = 48
    · rw [if_pos h1] at h ⊢
      exact pgo_app r _ _ t _ h
    · rw [if_neg h1] at h ⊢
      by_cases h2 : c = 49
      · rw [if_pos h2] at h ⊢
        exact pgo_app r _ _ t _ h
      · rw [if_neg h2] at h
        cases h
  | c :: r, false, part, t, ps, h => by
    rw [List.cons_append, pgo_f_cons]
    rw [pgo_f_cons] at h
    by_cases h1 : c = 126
    · rw [if_pos h1] at h ⊢
      exact pgo_app r _ _ t _ h
    · rw [if_neg h1] at h ⊢
      by_cases h2 : c = 47
      · rw [if_pos h2] at h ⊢
        obtain ⟨qs, hq, rfl⟩ := Option.map_eq_some_iff.1 h
        rw [pgo_app r _ _ t _ hq, Option.map_map]
        rfl
      · rw [if_neg h2] at h ⊢
        exact pgo_app r _ _ t _ h
theorem prts_app {h t : List UInt8} {ph : List (List UInt8)} (hh : prts h = some ph) : prts (h ++ 47 :: t) = (pgo false [] t).map fun qs => ph ++ qs := by
  cases h with
  | nil =>
    rw [prts] at hh; injection hh with hh; subst hh
    rw [List.nil_append, prts, if_pos rfl]
    simp
  | cons c r =>
    rw [List.cons_append, prts]
    rw [prts] at hh
    split at hh
    · rename_i hc
      rw [if_pos hc]
      exact pgo_app r _ _ t _ hh
    · cases hh
end Go.Proofs.Ytbfogkcnfnjcaaa.Po
namespace Go.Proofs.Ytbfogkcnfnjcaaa.Nu
open Go.RowKit
open Go.Proofs.Ytbfogkcnfnjcaaa.Utf

def dg (m : Nat) : UInt8 := UInt8.ofNat (48 + m % 10)
theorem dg_nat (m : Nat) : (dg m).toNat = 48 + m % 10 := by unfold dg; simp; omega
def digF : Nat → Nat → List UInt8
  | 0, _ => []
  | f + 1, m => if m < 10 then [dg m] else digF f (m / 10) ++ [dg m]
def digN (m : Nat) : List UInt8 := digF 20 m
def digZ (m : Nat) : List UInt8 := if m = 0 then [] else digN m
def putL (n : Int) : List UInt8 := if n < 0 then 45 :: digN n.natAbs else digN n.natAbs

theorem digF_more (f : Nat) : ∀ m, m < 10 ^ f → 0 < f → digF (f + 1) m = digF f m := by
  induction f with
  | zero => intro m _ h; omega
  | succ f ih =>
    intro m hm _
    rw [digF]
    conv => rhs; rw [digF]
    by_cases h10 : m < 10
    · rw [if_pos h10, if_pos h10]
    · rw [if_neg h10, if_neg h10]
      have h1 : m / 10 < 10 ^ f := by
        rw [Nat.pow_succ] at hm
        omega
      have hf : 0 < f := by
        rcases Nat.eq_zero_or_pos f with rfl | h
        · simp at hm; omega
        · exact h
      rw [ih _ h1 hf]
theorem digN_one {m : Nat} (h : m < 10) : digN m = [dg m] := by rw [digN, digF, if_pos h]
theorem digN_step {m : Nat} (h : ¬ m < 10) (hm : m < 10 ^ 20) : digN m = digN (m / 10) ++ [dg m] := by
  rw [digN, digF, if_neg h, digN, digF_more 19 (m / 10) (by omega) (by omega)]
theorem digN_Z {m : Nat} (hm : m < 10 ^ 20) : digN m = digZ (m / 10) ++ [dg m] := by
  by_cases h : m < 10
  · rw [digN_one h, digZ, if_pos (by omega)]; rfl
  · rw [digN_step h hm, digZ, if_neg (by omega)]
theorem digZ_pos {m : Nat} (h : m ≠ 0) : digZ m = digN m := by rw [digZ, if_neg h]

def isD (b : Int) : Bool := decide (48 ≤ b ∧ b ≤ 57)
theorem isD_yes {b : Int} (h : isD b = true) : 48 ≤ b ∧ b ≤ 57 := by simpa [isD] using h
theorem byt_out {l : List UInt8} {k : Nat} (h : l.length ≤ k) : byt l k = 0 := by
  unfold byt; rw [List.getD_eq_getElem?_getD, List.getElem?_eq_none h]; rfl
theorem isD_in {l : List UInt8} {k : Nat} (h : isD (byt l k) = true) : k < l.length := by
  rcases Nat.lt_or_ge k l.length with h1 | h1
  · exact h1
  · rw [byt_out h1] at h; exact absurd h (by decide)

def accD (l : List UInt8) (p : Nat) : Nat → Nat
  | 0 => 0
  | k + 1 => accD l p k * 10 + (byt l (p + k) - 48).toNat
def digsK (l : List UInt8) (p : Nat) : Nat → Bool
  | 0 => true
  | k + 1 => digsK l p k && isD (byt l (p + k))
theorem digsK_iff (l : List UInt8) (p k : Nat) : digsK l p k = true ↔ ∀ j, j < k → isD (byt l (p + j)) = true := by
  induction k with
  | zero => simp [digsK]
  | succ k ih =>
    rw [digsK, Bool.and_eq_true, ih]
    constructor
    · intro ⟨h1, h2⟩ j hj
      rcases Nat.lt_or_ge j k with h | h
      · exact h1 j h
      · obtain rfl : j = k := by omega
        exact h2
    · intro h
      exact ⟨fun j hj => h j (by omega), h k (by omega)⟩
theorem digsK_in {l : List UInt8} {p k : Nat} (h : digsK l p k = true) (hk : 0 < k) : p + k ≤ l.length := by
  have := isD_in ((digsK_iff l p k).1 h (k - 1) (by omega))
  omega

def runD : List UInt8 → Nat
  | [] => 0
  | b :: r => if isD (b.toNat : Int) = true then runD r + 1 else 0
theorem runD_spec (l : List UInt8) : ∀ p, digsK l p (runD (l.drop p)) = true ∧ isD (byt l (p + runD (l.drop p))) = false := by
  have key : ∀ (m : List UInt8), digsK m 0 (runD m) = true ∧ isD (byt m (runD m)) = false := by
    intro m
    induction m with
    | nil => exact ⟨rfl, by decide⟩
    | cons b r ih =>
      have hb : byt (b :: r) 0 = (b.toNat : Int) := rfl
      have hs : ∀ k, byt (b :: r) (k + 1) = byt r k := fun k => rfl
      rw [runD]
      by_cases h : isD (b.toNat : Int) = true
      · rw [if_pos h, hs]
        refine ⟨?_, ih.2⟩
        rw [digsK_iff]
        intro j hj
        rw [Nat.zero_add]
        cases j with
        | zero => rw [hb]; exact h
        | succ j =>
          rw [hs]
          have := (digsK_iff _ _ _).1 ih.1 j (by omega)
          rwa [Nat.zero_add] at this
      · rw [if_neg h]
        exact ⟨rfl, by rw [hb]; simpa using h⟩
  intro p
  obtain ⟨h1, h2⟩ := key (l.drop p)
  have hd : ∀ k, byt (l.drop p) k = byt l (p + k) := by
    intro k; unfold byt; rw [List.getD_eq_getElem?_getD, List.getElem?_drop, List.getD_eq_getElem?_getD]
  rw [hd] at h2
  refine ⟨?_, h2⟩
  rw [digsK_iff] at h1 ⊢
  intro j hj
  have := h1 j hj
  rwa [hd, Nat.zero_add] at this
def runL (l : List UInt8) (p : Nat) : Nat := runD (l.drop p)
theorem runL_eq {l : List UInt8} {p k : Nat} (h : digsK l p k = true) (hn : isD (byt l (p + k)) = false) : runL l p = k := by
  obtain ⟨h1, h2⟩ := runD_spec l p
  unfold runL
  rcases Nat.lt_trichotomy (runD (l.drop p)) k with h3 | h3 | h3
  · have := (digsK_iff _ _ _).1 h _ h3
    rw [h2] at this
    cases this
  · exact h3
  · have := (digsK_iff _ _ _).1 h1 _ h3
    rw [hn] at this
    cases this
theorem runL_digs (l : List UInt8) (p : Nat) : digsK l p (runL l p) = true := (runD_spec l p).1
theorem runL_le (l : List UInt8) (p : Nat) (h : p ≤ l.length) : p + runL l p ≤ l.length := by
  rcases Nat.eq_zero_or_pos (runL l p) with h0 | h0
  · omega
  · exact digsK_in (runL_digs l p) h0

def maxN : Nat := 9007199254740991
def fstN (l : List UInt8) (p : Nat) : Nat := if byt l p = 45 then p + 1 else p
def badN (l : List UInt8) (f r : Nat) : Prop := r = 0 ∨ maxN < accD l f r ∨ (1 < r ∧ byt l f = 48) ∨ (byt l (f + r) = 46 ∨ byt l (f + r) = 101 ∨ byt l (f + r) = 69)
instance (l : List UInt8) (f r : Nat) : Decidable (badN l f r) := by unfold badN; infer_instance
def rdN (l : List UInt8) (p : Nat) : Int × Int × Int :=
  if badN l (fstN l p) (runL l (fstN l p)) then (0, p, 30)
  else ((if byt l p = 45 then -(accD l (fstN l p) (runL l (fstN l p)) : Int) else (accD l (fstN l p) (runL l (fstN l p)) : Int)), (fstN l p + runL l (fstN l p) : Nat), 0)
def rdS (l : List UInt8) (a : Int) : Int × Int × Int := if a < 0 ∨ (l.length : Int) ≤ a then (0, a, 30) else rdN l a.toNat

theorem fst_le (l : List UInt8) (p : Nat) (h : p < l.length) : p ≤ fstN l p ∧ fstN l p ≤ l.length := by unfold fstN; split <;> omega

theorem rdS_bounds (l : List UInt8) (a : Int) : -(maxN : Int) ≤ (rdS l a).1 ∧ (rdS l a).1 ≤ maxN := by
  have hm : maxN = 9007199254740991 := rfl
  unfold rdS
  split
  · simp [hm]
  · unfold rdN
    split
    · simp [hm]
    · rename_i h1 h2
      have h3 : ¬ maxN < accD l (fstN l a.toNat) (runL l (fstN l a.toNat)) := fun h => h2 (.inr (.inl h))
      show -(maxN : Int) ≤ (if byt l a.toNat = 45 then _ else _) ∧ (if byt l a.toNat = 45 then _ else _) ≤ (maxN : Int)
      split <;> omega
theorem rdS_why (l : List UInt8) (a : Int) : (rdS l a).2.2 = 0 ∨ (rdS l a).2.2 = 30 ∧ (rdS l a).1 = 0 ∧ (rdS l a).2.1 = a := by
  unfold rdS
  split
  · exact .inr ⟨rfl, rfl, rfl⟩
  · unfold rdN
    split
    · exact .inr ⟨rfl, rfl, by show ((a.toNat : Nat) : Int) = a; omega⟩
    · exact .inl rfl
end Go.Proofs.Ytbfogkcnfnjcaaa.Nu
namespace Go.Proofs.Ytbfogkcnfnjcaaa.Nu
open Go.RowKit
open Go.Proofs.Ytbfogkcnfnjcaaa.Utf

theorem digN_len (m : Nat) : 1 ≤ (digN m).length := by
  unfold digN
  rw [digF]
  by_cases h : m < 10
  · rw [if_pos h]; exact Nat.le_refl _
  · rw [if_neg h, List.length_append]; exact Nat.le_add_left _ _
theorem digF_len (f : Nat) : ∀ m, (digF f m).length ≤ f := by
  induction f with
  | zero => intro m; simp [digF]
  | succ f ih =>
    intro m
    rw [digF]
    split
    · simp
    · have := ih (m / 10); simp; omega
theorem digN_le (m : Nat) : (digN m).length ≤ 20 := digF_len 20 m
theorem putL_len (n : Int) : 1 ≤ (putL n).length ∧ (putL n).length ≤ 21 := by
  have := digN_len n.natAbs
  have := digN_le n.natAbs
  unfold putL
  split
  · rw [List.length_cons]; omega
  · omega

def allS (l : List UInt8) : Int × Bool := if (rdS l 0).2.2 = 0 ∧ putL (rdS l 0).1 = l then ((rdS l 0).1, true) else (0, false)
end Go.Proofs.Ytbfogkcnfnjcaaa.Nu
