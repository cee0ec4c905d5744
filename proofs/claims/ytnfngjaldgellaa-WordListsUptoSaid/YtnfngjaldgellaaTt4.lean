/- Merged: WoF WoW1 WoW5. -/
import Derived.Test.YtnfngjaldgellaaTt3
import Derived.Deep.AppendLies
namespace Go.Proofs.Ytnfngjaldgellaa.Wo
open Go.Proofs Go.RowKit
open Go.Proofs.Ytnfngjaldgellaa.Utf
open Go.Proofs.Ytnfngjaldgellaa.Nu

theorem infoSt : (Try.prog.info? 9).map (fun i => (i.zero, i.size, i.bytes)) = some (some (.string ⟨#[]⟩), 1, 16) := by kernel_rfl
def strK (ps : List (List UInt8)) : List Value := ps.map fun p => .string (strOf p)
theorem strK_len (ps : List (List UInt8)) : (strK ps).length = ps.length := by unfold strK; simp
theorem mem_no {l : List UInt8} {c : UInt8} (h : ∀ j, j < l.length → byt l j ≠ (c.toNat : Int)) : c ∉ l := by
  intro hm
  obtain ⟨j, hj, e⟩ := List.getElem_of_mem hm
  exact h j hj (by rw [byt_in hj, e])
theorem byt_dr (l : List UInt8) (q k : Nat) : byt (l.drop q) k = byt l (q + k) := by unfold byt; simp [List.getD_eq_getElem?_getD]
structure SpI (c : UInt8) (l : List UInt8) (k f : Nat) (ps : List (List UInt8)) : Prop where
  fk : f ≤ k
  kl : k ≤ l.length
  eq : spl c l = ps ++ spl c (l.drop f)
  no : ∀ j, f ≤ j → j < k → byt l j ≠ (c.toNat : Int)
section
variable {c : UInt8} {l : List UInt8} {k f : Nat} {ps : List (List UInt8)}
theorem SpI.start : SpI c l 0 0 [] := ⟨Nat.le_refl _, Nat.zero_le _, by rw [List.drop_zero]; rfl, fun j h1 h2 => by omega⟩
theorem SpI.more (h : SpI c l k f ps) (hk : k < l.length) (hc : byt l k ≠ (c.toNat : Int)) : SpI c l (k + 1) f ps :=
  ⟨Nat.le_succ_of_le h.fk, hk, h.eq, fun j h1 h2 => by
    by_cases hjk : j = k
    · subst hjk; exact hc
    · exact h.no j h1 (by omega)⟩
theorem SpI.mid (h : SpI c l k f ps) : c ∉ (l.drop f).take (k - f) := mem_no fun j hj => by
  have hj2 : j < k - f := by
    rw [List.length_take] at hj
    omega
  have hkl := h.kl
  have hj3 : j < (l.drop f).length := by rw [List.length_drop]; omega
  rw [byt_in hj, List.getElem_take, ← byt_in (l := l.drop f) hj3, byt_dr]
  exact h.no _ (by omega) (by omega)
theorem SpI.cut (h : SpI c l k f ps) (hk : k < l.length) (hc : byt l k = (c.toNat : Int)) : SpI c l (k + 1) (k + 1) (ps ++ [(l.drop f).take (k - f)]) := by
  refine ⟨Nat.le_refl _, hk, ?_, fun j h1 h2 => by omega⟩
  have hfk := h.fk
  have e : l.drop f = (l.drop f).take (k - f) ++ c :: l.drop (k + 1) := by
    conv => lhs; rw [← List.take_append_drop (k - f) (l.drop f)]
    rw [List.drop_drop, show f + (k - f) = k by omega, List.drop_eq_getElem_cons hk]
    rw [byt_in hk] at hc
    rw [show l[k] = c from UInt8.toNat_inj.1 (by omega)]
  rw [h.eq]
  conv => lhs; rw [e]
  rw [spl_app, spl_no h.mid, List.append_assoc]
theorem SpI.end_ (h : SpI c l k f ps) (hk : k = l.length) : spl c l = ps ++ [l.drop f] := by
  rw [h.eq, spl_no]
  have := h.mid
  rwa [List.take_of_length_le (by rw [List.length_drop]; omega)] at this
theorem SpI.room (h : SpI c l k f ps) : ps.length + 1 ≤ (spl c l).length := by
  rw [h.eq, List.length_append]
  have := List.length_pos_iff.2 (spl_ne c (l.drop f))
  omega
end
def GivesPs (ps : List (List UInt8)) (w : World) (e : Ending) (w' : World) : Prop :=
  ∃ v, e = .returned v ∧ w'.ownsRow w.heap.size 9 1 v ps.length (strK ps) ∧ Below w.heap.size w w'
theorem ext_mid (s : ByteArray) (f k : Nat) : s.extract f k = strOf ((s.data.toList.drop f).take (k - f)) := by
  apply ByteArray.ext
  rw [ByteArray.data_extract]
  apply Array.toList_inj.1
  simp [strOf, Array.toList_extract, List.extract]

set_option maxRecDepth 100000 in
set_option maxHeartbeats 2000000 in
theorem Split_any (s : ByteArray) (c : UInt8) (w : World) (hs : s.size ≤ 9223372036854775807) (hn : (spl c s.data.toList).length ≤ 4398046511104) :
    Calls Try.prog 19 #[.string s, .int .u8 (c.toNat : Int)] w (GivesPs (spl c s.data.toList) w) := by
  obtain ⟨i1, hj, hy0, hy1, hy2⟩ := info_parts infoSt
  have HLEN := Lib.hid (len_data s)
  have HN := Lib.hid hn
  clear hn
  go_enter Try.func19, Try.ntmps19
  go_wp2_with fail
  go_loopw [5, 6, 7] (fun v fv i wr => ∃ (k f : Nat) (ps : List (List UInt8)), i = .int .i64 (k : Int) ∧ fv = .int .i64 (f : Int) ∧ k ≤ s.size ∧ f ≤ k ∧ ps.length + 1 ≤ 4398046511104 ∧ Aside (SpI c s.data.toList k f ps) ∧ Aside (wr.ownsRow w.heap.size 9 1 v ps.length (strK ps)) ∧ Aside (Below w.heap.size w wr)) (fun _ _ i _ => s.size - (intOf i).toNat)
  case atStart => exact ⟨0, 0, [], rfl, rfl, by omega, by omega, by simp, (show SpI _ _ _ _ _ from SpI.start), (show World.ownsRow _ _ _ _ _ _ _ from World.ownsRow_nil _ _ _ _), (show Below _ _ _ from Below.refl _ _)⟩
  case round =>
    obtain ⟨k, f, ps, rfl, rfl, hk, hfk, hps, hsp, hrow, hbel⟩ := hrel
    have HSP := Lib.hid hsp.out
    have hown := hrow.out
    have HB := Lib.hid hbel.out
    have HBS := Lib.hid hbel.out.size
    clear hsp hrow hbel
    by_cases hlt : k < s.size
    · have t1 : decide ((k : Int) < (s.size : Int)) = true := decide_eq_true (by omega)
      have t2 : decide (k < s.size) = true := decide_eq_true hlt
      have k0 : (0 : Int) ≤ (k : Int) := by omega
      have k1 : (k : Int) < (s.size : Int) := by omega
      have k2 : ((k : Int)).toNat = k := by omega
      have HG := Lib.hid (byt_get s k hlt)
      by_cases hc : (s[k].toNat : Int) = (c.toNat : Int)
      · have u1 : ((s[k].toNat : Int) == (c.toNat : Int)) = true := by rw [hc]; exact beq_self_eq_true _
        have HSP2 := Lib.hid (HSP.out.cut (by rw [HLEN.out]; exact hlt) (by rw [HG.out]; exact hc))
        have HROOM := Lib.hid HSP2.out.room
        have HX := Lib.hid (ext_mid s f k)
        generalize (s.data.toList.drop f).take (k - f) = q at *
        have f0 : (0 : Int) ≤ (f : Int) := by omega
        have f1 : (f : Int) ≤ (k : Int) := by omega
        have f2 : ((f : Int)).toNat = f := by omega
        have f3 : (k : Int) ≤ (s.size : Int) := by omega
        clear hc
        go_wp2_with (at_builtin; refine wpList_append_lies _ rfl _ _ 25 rfl w.heap.size 9 i1 _ 1 16 Try.underlying25 hj hy0 hy1 hy2 (by rfl) (by decide) u5 ps.length (strK ps) rfl (hown.alloc _) ⟨wr.heap.size, 0, none⟩ 1 1 [.string (s.extract f k)] rfl rfl (cells_new _ _ _) ?_ ?_ ?_ ?_ ?_ _ rfl ?_; (intro u hu; simp at hu; subst hu; rfl); omega; (unfold maxLen; omega); omega; (have := HBS.out; simp; omega); intro g cap w2 hown2 hg2 hat hgl)
        have HO2 := Lib.hid (show w2.ownsRow w.heap.size 9 1 (.slice (some ⟨g, 0, none⟩) (ps.length + 1) cap) (ps ++ [q]).length (strK (ps ++ [q])) by
          rw [HX.out] at hown2
          rw [List.length_append, strK, List.map_append]; exact hown2)
        have HB2 := Lib.hid (show Below w.heap.size w w2 from (HB.out.alloc HBS.out _).grown hg2 (by have := HBS.out; simp; omega) (fun k hk => (hown.lt k hk).1))
        clear hown hown2 hg2 hat
        go_wp2_with fail
        go_roundw
        case rel => exact ⟨k + 1, k + 1, ps ++ [q], by go_num, by go_num, by omega, by omega, by have h1 := HROOM.out; have h2 := HN.out; omega, HSP2.out, HO2.out, HB2.out⟩
        case measure => simp [intOf]; omega
      · have u1 : ((s[k].toNat : Int) == (c.toNat : Int)) = false := beq_eq_false_iff_ne.2 hc
        have HSP2 := Lib.hid (HSP.out.more (by rw [HLEN.out]; exact hlt) (by rw [HG.out]; exact hc))
        have HO2 := Lib.hid hown
        clear hc hown
        go_wp2_with fail
        go_roundw
        case rel => exact ⟨k + 1, f, ps, by go_num, rfl, by omega, by omega, hps, HSP2.out, HO2.out, HB.out⟩
        case measure => simp [intOf]; omega
    · have t1 : decide ((k : Int) < (s.size : Int)) = false := decide_eq_false (by omega)
      have t2 : decide (k < s.size) = false := decide_eq_false hlt
      have HE := Lib.hid (HSP.out.end_ (by rw [HLEN.out]; omega))
      have HX := Lib.hid (ext_drop s f)
      generalize s.data.toList.drop f = q at *
      have f0 : (0 : Int) ≤ (f : Int) := by omega
      have f1 : (f : Int) ≤ (s.size : Int) := by omega
      have f2 : ((f : Int)).toNat = f := by omega
      go_wp2_with (at_builtin; refine wpList_append_lies _ rfl _ _ 25 rfl w.heap.size 9 i1 _ 1 16 Try.underlying25 hj hy0 hy1 hy2 (by rfl) (by decide) u5 ps.length (strK ps) rfl (hown.alloc _) ⟨wr.heap.size, 0, none⟩ 1 1 [.string (s.extract f s.size)] rfl rfl (cells_new _ _ _) ?_ ?_ ?_ ?_ ?_ _ rfl ?_; (intro u hu; simp at hu; subst hu; rfl); omega; (unfold maxLen; omega); omega; (have := HBS.out; simp; omega); intro g cap w2 hown2 hg2 hat hgl)
      have HO2 := Lib.hid (show w2.ownsRow w.heap.size 9 1 (.slice (some ⟨g, 0, none⟩) (ps.length + 1) cap) (spl c s.data.toList).length (strK (spl c s.data.toList)) by
        rw [HX.out] at hown2
        rw [HE.out, List.length_append, strK, List.map_append]; exact hown2)
      have HB2 := Lib.hid (show Below w.heap.size w w2 from (HB.out.alloc HBS.out _).grown hg2 (by have := HBS.out; simp; omega) (fun k hk => (hown.lt k hk).1))
      clear hown hown2 hg2 hat
      go_wp2_with fail
      go_ret
      exact ⟨_, rfl, HO2.out, HB2.out⟩
end Go.Proofs.Ytnfngjaldgellaa.Wo
namespace Go.Proofs.Ytnfngjaldgellaa.Wo
open Go.Proofs Go.RowKit
open Go.Proofs.Ytnfngjaldgellaa.Utf
open Go.Proofs.Ytnfngjaldgellaa.Nu

theorem spl_count (c : UInt8) : ∀ l : List UInt8, (spl c l).length ≤ l.length + 1
  | [] => by simp [spl]
  | x :: r => by
    have h := spl_count c r
    rw [spl]
    split
    · simp; omega
    · cases hr : spl c r with
      | nil => exact absurd hr (spl_ne c r)
      | cons p t =>
        rw [hr] at h
        simp at h ⊢; omega

end Go.Proofs.Ytnfngjaldgellaa.Wo
namespace Go.Proofs.Ytnfngjaldgellaa.Wo
open Go.Proofs Go.RowKit
open Go.Proofs.Ytnfngjaldgellaa.Utf
open Go.Proofs.Ytnfngjaldgellaa.Nu

theorem app_32 (a b : List UInt8) : a ++ [32] ++ b = a ++ 32 :: b := by simp

set_option maxRecDepth 100000 in
set_option maxHeartbeats 2000000 in
theorem lists_walk (a b s : ByteArray) (w : World) (ha : a.size ≤ 1048576) (hb : b.size ≤ 1048576) (hs : s.size ≤ 1048576) :
    Calls Try.prog 7 #[.string a, .string b, .string s] w fun e w' => e = .returned (.bool true) ∧ Below w.heap.size w w' := by
  have hn : (spl 32 s.data.toList).length ≤ 4398046511104 := by
    have := spl_count 32 s.data.toList
    rw [len_data] at this
    omega
  have C0 := Lib.hid (fun wx => awake_any12 wx)
  have CS := Lib.hid (fun wx => Split_any s 32 wx (by omega) hn)
  rw [show ((32 : UInt8).toNat : Int) = 32 from rfl] at CS
  have CA := Lib.hid (fun wx => In_any a s wx (by omega))
  have CB := Lib.hid (fun wx => In_any b s wx (by omega))
  have CSS := Lib.hid (fun wx => In_any s s wx (by omega))
  obtain ⟨A, hA⟩ : ∃ A, a.data.toList = A := ⟨_, rfl⟩
  obtain ⟨B, hB⟩ : ∃ B, b.data.toList = B := ⟨_, rfl⟩
  obtain ⟨S, hS⟩ : ∃ S, s.data.toList = S := ⟨_, rfl⟩
  have lA : A.length = a.size := by rw [← hA, len_data]
  have lB : B.length = b.size := by rw [← hB, len_data]
  have lS : S.length = s.size := by rw [← hS, len_data]
  have ea : a = strOf A := by rw [← hA]; rfl
  have eb : b = strOf B := by rw [← hB]; rfl
  have es : s = strOf S := by rw [← hS]; rfl
  have hsl : s.toList = S := by rw [ByteArray.toList_eq]; exact hS
  rw [hA, hS] at CA
  rw [hB, hS] at CB
  rw [hS] at CSS CS
  have add := fun (X Y : List UInt8) (h : X.length + Y.length ≤ 9223372036854775807) (w : World) => addS (strOf X) (strOf Y) h w
  have d1 := add A [32] (by rw [lA]; simp; omega)
  have d2 := add (A ++ [32]) S (by rw [List.length_append, lA, lS]; simp; omega)
  have d3 := add S [32] (by rw [lS]; simp; omega)
  have d4 := add (S ++ [32]) B (by rw [List.length_append, lB, lS]; simp; omega)
  have d5 := add (A ++ [32] ++ S) [32] (by rw [List.length_append, List.length_append, lA, lS]; simp; omega)
  have d6 := add (A ++ [32] ++ S ++ [32]) B (by rw [List.length_append, List.length_append, List.length_append, lA, lS, lB]; simp; omega)
  have d7 := add (A ++ [32]) B (by rw [List.length_append, lA, lB]; simp; omega)
  simp only [strOf_data] at d1 d2 d3 d4 d5 d6 d7
  have C2 := Lib.hid (fun wx => In_any (strOf (A ++ [32] ++ S)) s wx (by rw [strOf_size, List.length_append, List.length_append, lA, lS]; simp; omega))
  have C4 := Lib.hid (fun wx => In_any (strOf (S ++ [32] ++ B)) s wx (by rw [strOf_size, List.length_append, List.length_append, lB, lS]; simp; omega))
  have C6 := Lib.hid (fun wx => In_any (strOf (A ++ [32] ++ S ++ [32] ++ B)) s wx (by rw [strOf_size, List.length_append, List.length_append, List.length_append, List.length_append, lA, lB, lS]; simp; omega))
  have C7 := Lib.hid (fun wx => In_any (strOf (A ++ [32] ++ B)) s wx (by rw [strOf_size, List.length_append, List.length_append, lA, lB]; simp; omega))
  rw [strOf_data, hS] at C2 C4 C6 C7
  clear add hn
  by_cases h0 : S = []
  · have t0 : (s.toList == []) = true := by rw [hsl, h0]; rfl
    have t1 : s.toList = [] := by rw [hsl, h0]
    rw [h0, in_nil] at CA
    clear hA hB hS ea eb es hsl d1 d2 d3 d4 d5 d6 d7 C2 C4 C6 C7 CB CSS lA lB lS h0
    go_enter Try.func7, Try.ntmps7
    go_wp2_with fail
    refine (C0.out _).mono ?_
    rintro e x1 ⟨rfl, hb⟩
    have HB1 := Lib.hid hb
    clear hb
    go_wp2_with fail
    refine (C0.out _).mono ?_
    rintro e x2 ⟨rfl, hb⟩
    have HB2 := Lib.hid (HB1.out.trans (hb.mono HB1.out.size))
    clear hb
    go_wp2_with fail
    refine (CA.out _).mono ?_
    rintro e x3 ⟨rfl, hb⟩
    have HB3 := Lib.hid (HB2.out.trans (hb.mono HB2.out.size))
    clear hb
    go_wp2_with fail
    go_ret
    exact ⟨rfl, HB3.out⟩
  · have t0 : (s.toList == []) = false := by rw [hsl]; exact beq_eq_false_iff_ne.2 h0
    have t1 : ¬ s.toList = [] := by rw [hsl]; exact h0
    have t2 : (s.toList != []) = true := by rw [hsl, bne_iff_ne]; exact h0
    have t3 : s.toList.isEmpty = false := by
      rw [hsl]
      cases S with
      | nil => exact absurd rfl h0
      | cons x y => rfl
    by_cases h1 : (spl 32 S).length = 1
    · have hno := spl_one h1
      have HS1 := Lib.hid (in_self h0 hno)
      have HN1 := Lib.hid h1
      have HI : ∀ X Y, inS (X ++ [32] ++ Y) S = (inS X S || inS Y S) := fun X Y => by rw [app_32, in_app]
      rw [HS1.out] at CSS
      rw [HI, HS1.out, Bool.or_true] at C2
      rw [HI, HS1.out, Bool.true_or] at C4
      rw [HI, HI, HS1.out, Bool.or_true, Bool.true_or] at C6
      rw [HI] at C7
      generalize inS A S = x at *
      generalize inS B S = y at *
      have sA : strOf A = a := ea.symm
      have sB : strOf B = b := eb.symm
      have sS : strOf S = s := es.symm
      rw [sA] at d1
      rw [sS] at d2 d3
      rw [sB] at d4 d6 d7
      clear HI h0 h1 hno hA hB hS ea eb es hsl sA sB sS lA lB lS
      have HD := Lib.hid (And.intro d1 (And.intro d2 (And.intro d3 (And.intro d4 (And.intro d5 (And.intro d6 d7))))))
      have HK : strOf [32] = (⟨#[32]⟩ : ByteArray) := rfl
      rw [HK] at d1 d3 d5
      clear HK HD
      generalize strOf (A ++ [32] ++ S ++ [32] ++ B) = X6 at *
      generalize strOf (A ++ [32] ++ S ++ [32]) = X5 at *
      generalize strOf (A ++ [32] ++ S) = X2 at *
      generalize strOf (A ++ [32] ++ B) = X7 at *
      generalize strOf (A ++ [32]) = X1 at *
      generalize strOf (S ++ [32] ++ B) = X4 at *
      generalize strOf (S ++ [32]) = X3 at *
      have fin : ((x || y) == (x || y)) = true := beq_self_eq_true _
      go_enter Try.func7, Try.ntmps7
      go_wp2_with fail
      refine (C0.out _).mono ?_
      rintro e x1 ⟨rfl, hb⟩
      have HB1 := Lib.hid hb
      clear hb
      go_wp2_with fail
      refine (CS.out _).mono ?_
      rintro e x2 ⟨v, rfl, hown, hb⟩
      have HB2 := Lib.hid (HB1.out.trans (hb.mono HB1.out.size))
      obtain ⟨g, c, rfl, hx⟩ := Rd.of_own hown
      rw [strK_len, HN1.out]
      clear hb hown hx
      go_wp2_with fail
      refine (CSS.out _).mono ?_
      rintro e x3 ⟨rfl, hb⟩
      have HB3 := Lib.hid (HB2.out.trans (hb.mono HB2.out.size))
      clear hb
      go_wp2_with fail
      refine (C2.out _).mono ?_
      rintro e x4 ⟨rfl, hb⟩
      have HB4 := Lib.hid (HB3.out.trans (hb.mono HB3.out.size))
      clear hb
      go_wp2_with fail
      refine (C4.out _).mono ?_
      rintro e x5 ⟨rfl, hb⟩
      have HB5 := Lib.hid (HB4.out.trans (hb.mono HB4.out.size))
      clear hb
      go_wp2_with fail
      refine (C6.out _).mono ?_
      rintro e x6 ⟨rfl, hb⟩
      have HB6 := Lib.hid (HB5.out.trans (hb.mono HB5.out.size))
      clear hb
      go_wp2_with fail
      refine (C7.out _).mono ?_
      rintro e x7 ⟨rfl, hb⟩
      have HB7 := Lib.hid (HB6.out.trans (hb.mono HB6.out.size))
      clear hb
      cases x with
      | true =>
        go_wp2_with fail
        refine (CA.out _).mono ?_
        rintro e x8 ⟨rfl, hb⟩
        have HB8 := Lib.hid (HB7.out.trans (hb.mono HB7.out.size))
        clear hb
        go_wp2_with fail
        go_ret
        exact ⟨by first | rfl | simp, HB8.out⟩
      | false =>
        go_wp2_with fail
        refine (CA.out _).mono ?_
        rintro e x8 ⟨rfl, hb⟩
        have HB8 := Lib.hid (HB7.out.trans (hb.mono HB7.out.size))
        clear hb
        go_wp2_with fail
        refine (CB.out _).mono ?_
        rintro e x9 ⟨rfl, hb⟩
        have HB9 := Lib.hid (HB8.out.trans (hb.mono HB8.out.size))
        clear hb
        go_wp2_with fail
        go_ret
        exact ⟨by first | rfl | simp, HB9.out⟩
    · obtain ⟨n, hn⟩ : ∃ n, (spl 32 S).length = n := ⟨_, rfl⟩
      have HN1 := Lib.hid hn
      rw [hn] at h1
      have u1 : ((n : Int) != 1) = true := by rw [bne_iff_ne]; omega
      clear hn hA hB hS ea eb es hsl d1 d2 d3 d4 d5 d6 d7 C2 C4 C6 C7 CA CB CSS lA lB lS h0
      go_enter Try.func7, Try.ntmps7
      go_wp2_with fail
      refine (C0.out _).mono ?_
      rintro e x1 ⟨rfl, hb⟩
      have HB1 := Lib.hid hb
      clear hb
      go_wp2_with fail
      refine (CS.out _).mono ?_
      rintro e x2 ⟨v, rfl, hown, hb⟩
      have HB2 := Lib.hid (HB1.out.trans (hb.mono HB1.out.size))
      obtain ⟨g, c, rfl, hx⟩ := Rd.of_own hown
      rw [strK_len, HN1.out]
      clear hb hown hx
      go_wp2_with fail
      refine (C0.out _).mono ?_
      rintro e x3 ⟨rfl, hb⟩
      have HB3 := Lib.hid (HB2.out.trans (hb.mono HB2.out.size))
      clear hb
      go_wp2_with fail
      go_ret
      exact ⟨rfl, HB3.out⟩
end Go.Proofs.Ytnfngjaldgellaa.Wo
