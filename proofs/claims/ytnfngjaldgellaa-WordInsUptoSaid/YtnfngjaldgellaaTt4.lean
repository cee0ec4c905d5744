/- Merged: WoF WoH WoW1 WoW2. -/
import Derived.Test.YtnfngjaldgellaaTt3
import Derived.Deep.AppendLies
namespace Go.Proofs.Ytnfngjaldgellaa.Wo
open Go.Proofs Go.RowKit
open Go.Proofs.Ytnfngjaldgellaa.Utf
open Go.Proofs.Ytnfngjaldgellaa.Nu

theorem infoSt : (Try.prog.info? 9).map (fun i => (i.zero, i.size, i.bytes)) = some (some (.string ⟨#[]⟩), 1, 16) := by kernel_rfl
def strK (ps : List (List UInt8)) : List Value := ps.map fun p => .string (strOf p)
theorem strK_len (ps : List (List UInt8)) : (strK ps).length = ps.length := by unfold strK; simp
theorem strK_at (ps : List (List UInt8)) (k : Nat) (h : k < ps.length) : (strK ps)[k]? = some (.string (strOf ps[k])) := by
  unfold strK
  rw [List.getElem?_map, List.getElem?_eq_getElem h]; rfl
theorem mem_no {l : List UInt8} {c : UInt8} (h : ∀ j, j < l.length → byt l j ≠ (c.toNat : Int)) : c ∉ l := by
  intro hm
  obtain ⟨j, hj, e⟩ := List.getElem_of_mem hm
  exact h j hj (by rw [byt_in hj, e])
theorem byt_dr (l : List UInt8) (q k : Nat) : byt (l.drop q) k = byt l (q + k) := by unfold byt; simp [List.getD_eq_getElem?_getD]
structure SpI (c : UInt8) (l : List UInt8) (k f : Nat) (ps : List (List UInt8)) : Prop where
  fk : f ≤ k
  kl : k ≤ l.length
  eq : spl c l = ps ++ spl c (l.drop f)
  no : ∀ j, f ≤ j → j < k → byt l j ≠ (c.toNat : Int)
section
variable {c : UInt8} {l : List UInt8} {k f : Nat} {ps : List (List UInt8)}
theorem SpI.start : SpI c l 0 0 [] := ⟨Nat.le_refl _, Nat.zero_le _, by rw [List.drop_zero]; rfl, fun j h1 h2 => by omega⟩
theorem SpI.more (h : SpI c l k f ps) (hk : k < l.length) (hc : byt l k ≠ (c.toNat : Int)) : SpI c l (k + 1) f ps :=
  ⟨Nat.le_succ_of_le h.fk, hk, h.eq, fun j h1 h2 => by
    by_cases hjk : j = k
    · subst hjk; exact hc
    · exact h.no j h1 (by omega)⟩
theorem SpI.mid (h : SpI c l k f ps) : c ∉ (l.drop f).take (k - f) := mem_no fun j hj => by
  have hj2 : j < k - f := by
    rw [List.length_take] at hj
    omega
  have hkl := h.kl
  have hj3 : j < (l.drop f).length := by rw [List.length_drop]; omega
  rw [byt_in hj, List.getElem_take, ← byt_in (l := l.drop f) hj3, byt_dr]
  exact h.no _ (by omega) (by omega)
theorem SpI.cut (h : SpI c l k f ps) (hk : k < l.length) (hc : byt l k = (c.toNat : Int)) : SpI c l (k + 1) (k + 1) (ps ++ [(l.drop f).take (k - f)]) := by
  refine ⟨Nat.le_refl _, hk, ?_, fun j h1 h2 => by omega⟩
  have hfk := h.fk
  have e : l.drop f = (l.drop f).take (k - f) ++ c :: l.drop (k + 1) := by
    conv => lhs; rw [← List.take_append_drop (k - f) (l.drop f)]
    rw [List.drop_drop, show f + (k - f) = k by omega, List.drop_eq_getElem_cons hk]
    rw [byt_in hk] at hc
    rw [show l[k] = c from UInt8.toNat_inj.1 (by omega)]
  rw [h.eq]
  conv => lhs; rw [e]
  rw [spl_app, spl_no h.mid, List.append_assoc]
theorem SpI.end_ (h : SpI c l k f ps) (hk : k = l.length) : spl c l = ps ++ [l.drop f] := by
  rw [h.eq, spl_no]
  have := h.mid
  rwa [List.take_of_length_le (by rw [List.length_drop]; omega)] at this
theorem SpI.room (h : SpI c l k f ps) : ps.length + 1 ≤ (spl c l).length := by
  rw [h.eq, List.length_append]
  have := List.length_pos_iff.2 (spl_ne c (l.drop f))
  omega
end
def GivesPs (ps : List (List UInt8)) (w : World) (e : Ending) (w' : World) : Prop :=
  ∃ v, e = .returned v ∧ w'.ownsRow w.heap.size 9 1 v ps.length (strK ps) ∧ Below w.heap.size w w'
theorem ext_mid (s : ByteArray) (f k : Nat) : s.extract f k = strOf ((s.data.toList.drop f).take (k - f)) := by
  apply ByteArray.ext
  rw [ByteArray.data_extract]
  apply Array.toList_inj.1
  simp [strOf, Array.toList_extract, List.extract]

set_option maxRecDepth 100000 in
set_option maxHeartbeats 2000000 in
theorem Split_any (s : ByteArray) (c : UInt8) (w : World) (hs : s.size ≤ 9223372036854775807) (hn : (spl c s.data.toList).length ≤ 4398046511104) :
    Calls Try.prog 19 #[.string s, .int .u8 (c.toNat : Int)] w (GivesPs (spl c s.data.toList) w) := by
  obtain ⟨i1, hj, hy0, hy1, hy2⟩ := info_parts infoSt
  have HLEN := Lib.hid (len_data s)
  have HN := Lib.hid hn
  clear hn
  go_enter Try.func19, Try.ntmps19
  go_wp2_with fail
  go_loopw [5, 6, 7] (fun v fv i wr => ∃ (k f : Nat) (ps : List (List UInt8)), i = .int .i64 (k : Int) ∧ fv = .int .i64 (f : Int) ∧ k ≤ s.size ∧ f ≤ k ∧ ps.length + 1 ≤ 4398046511104 ∧ Aside (SpI c s.data.toList k f ps) ∧ Aside (wr.ownsRow w.heap.size 9 1 v ps.length (strK ps)) ∧ Aside (Below w.heap.size w wr)) (fun _ _ i _ => s.size - (intOf i).toNat)
  case atStart => exact ⟨0, 0, [], rfl, rfl, by omega, by omega, by simp, (show SpI _ _ _ _ _ from SpI.start), (show World.ownsRow _ _ _ _ _ _ _ from World.ownsRow_nil _ _ _ _), (show Below _ _ _ from Below.refl _ _)⟩
  case round =>
    obtain ⟨k, f, ps, rfl, rfl, hk, hfk, hps, hsp, hrow, hbel⟩ := hrel
    have HSP := Lib.hid hsp.out
    have hown := hrow.out
    have HB := Lib.hid hbel.out
    have HBS := Lib.hid hbel.out.size
    clear hsp hrow hbel
    by_cases hlt : k < s.size
    · have t1 : decide ((k : Int) < (s.size : Int)) = true := decide_eq_true (by omega)
      have t2 : decide (k < s.size) = true := decide_eq_true hlt
      have k0 : (0 : Int) ≤ (k : Int) := by omega
      have k1 : (k : Int) < (s.size : Int) := by omega
      have k2 : ((k : Int)).toNat = k := by omega
      have HG := Lib.hid (byt_get s k hlt)
      by_cases hc : (s[k].toNat : Int) = (c.toNat : Int)
      · have u1 : ((s[k].toNat : Int) == (c.toNat : Int)) = true := by rw [hc]; exact beq_self_eq_true _
        have HSP2 := Lib.hid (HSP.out.cut (by rw [HLEN.out]; exact hlt) (by rw [HG.out]; exact hc))
        have HROOM := Lib.hid HSP2.out.room
        have HX := Lib.hid (ext_mid s f k)
        generalize (s.data.toList.drop f).take (k - f) = q at *
        have f0 : (0 : Int) ≤ (f : Int) := by omega
        have f1 : (f : Int) ≤ (k : Int) := by omega
        have f2 : ((f : Int)).toNat = f := by omega
        have f3 : (k : Int) ≤ (s.size : Int) := by omega
        clear hc
        go_wp2_with (at_builtin; refine wpList_append_lies _ rfl _ _ 25 rfl w.heap.size 9 i1 _ 1 16 Try.underlying25 hj hy0 hy1 hy2 (by rfl) (by decide) u5 ps.length (strK ps) rfl (hown.alloc _) ⟨wr.heap.size, 0, none⟩ 1 1 [.string (s.extract f k)] rfl rfl (cells_new _ _ _) ?_ ?_ ?_ ?_ ?_ _ rfl ?_; (intro u hu; simp at hu; subst hu; rfl); omega; (unfold maxLen; omega); omega; (have := HBS.out; simp; omega); intro g cap w2 hown2 hg2 hat hgl)
        have HO2 := Lib.hid (show w2.ownsRow w.heap.size 9 1 (.slice (some ⟨g, 0, none⟩) (ps.length + 1) cap) (ps ++ [q]).length (strK (ps ++ [q])) by
          rw [HX.out] at hown2
          rw [List.length_append, strK, List.map_append]; exact hown2)
        have HB2 := Lib.hid (show Below w.heap.size w w2 from (HB.out.alloc HBS.out _).grown hg2 (by have := HBS.out; simp; omega) (fun k hk => (hown.lt k hk).1))
        clear hown hown2 hg2 hat
        go_wp2_with fail
        go_roundw
        case rel => exact ⟨k + 1, k + 1, ps ++ [q], by go_num, by go_num, by omega, by omega, by have h1 := HROOM.out; have h2 := HN.out; omega, HSP2.out, HO2.out, HB2.out⟩
        case measure => simp [intOf]; omega
      · have u1 : ((s[k].toNat : Int) == (c.toNat : Int)) = false := beq_eq_false_iff_ne.2 hc
        have HSP2 := Lib.hid (HSP.out.more (by rw [HLEN.out]; exact hlt) (by rw [HG.out]; exact hc))
        have HO2 := Lib.hid hown
        clear hc hown
        go_wp2_with fail
        go_roundw
        case rel => exact ⟨k + 1, f, ps, by go_num, rfl, by omega, by omega, hps, HSP2.out, HO2.out, HB.out⟩
        case measure => simp [intOf]; omega
    · have t1 : decide ((k : Int) < (s.size : Int)) = false := decide_eq_false (by omega)
      have t2 : decide (k < s.size) = false := decide_eq_false hlt
      have HE := Lib.hid (HSP.out.end_ (by rw [HLEN.out]; omega))
      have HX := Lib.hid (ext_drop s f)
      generalize s.data.toList.drop f = q at *
      have f0 : (0 : Int) ≤ (f : Int) := by omega
      have f1 : (f : Int) ≤ (s.size : Int) := by omega
      have f2 : ((f : Int)).toNat = f := by omega
      go_wp2_with (at_builtin; refine wpList_append_lies _ rfl _ _ 25 rfl w.heap.size 9 i1 _ 1 16 Try.underlying25 hj hy0 hy1 hy2 (by rfl) (by decide) u5 ps.length (strK ps) rfl (hown.alloc _) ⟨wr.heap.size, 0, none⟩ 1 1 [.string (s.extract f s.size)] rfl rfl (cells_new _ _ _) ?_ ?_ ?_ ?_ ?_ _ rfl ?_; (intro u hu; simp at hu; subst hu; rfl); omega; (unfold maxLen; omega); omega; (have := HBS.out; simp; omega); intro g cap w2 hown2 hg2 hat hgl)
      have HO2 := Lib.hid (show w2.ownsRow w.heap.size 9 1 (.slice (some ⟨g, 0, none⟩) (ps.length + 1) cap) (spl c s.data.toList).length (strK (spl c s.data.toList)) by
        rw [HX.out] at hown2
        rw [HE.out, List.length_append, strK, List.map_append]; exact hown2)
      have HB2 := Lib.hid (show Below w.heap.size w w2 from (HB.out.alloc HBS.out _).grown hg2 (by have := HBS.out; simp; omega) (fun k hk => (hown.lt k hk).1))
      clear hown hown2 hg2 hat
      go_wp2_with fail
      go_ret
      exact ⟨_, rfl, HO2.out, HB2.out⟩
end Go.Proofs.Ytnfngjaldgellaa.Wo
namespace Go.Proofs.Ytnfngjaldgellaa.Wo
open Go.Proofs Go.RowKit
open Go.Proofs.Ytnfngjaldgellaa.Utf
open Go.Proofs.Ytnfngjaldgellaa.Nu

theorem in_idx {l t : List UInt8} (h : t ≠ []) : inS l t = decide (t ∈ spl 32 l) := by
  unfold inS
  rw [decide_eq_true h, Bool.true_and, Bool.eq_iff_iff, List.contains_iff_mem, decide_eq_true_eq]

set_option maxRecDepth 100000 in
set_option maxHeartbeats 1000000 in
theorem rIn_any (s t : ByteArray) (w : World) (hs : s.size ≤ 9223372036854775807) (hn : (spl 32 s.data.toList).length ≤ 4398046511104) :
    Calls Try.prog 18 #[.string s, .string t] w (Tl (inS s.data.toList t.data.toList) w) := by
  have HC := Lib.hid (fun W => Split_any s 32 W hs hn)
  rw [show ((32 : UInt8).toNat : Int) = 32 from rfl] at HC
  obtain ⟨tl, htl⟩ : ∃ tl, t.data.toList = tl := ⟨_, rfl⟩
  have HTT := Lib.hid (show t.toList = tl by rw [ByteArray.toList_eq]; exact htl)
  have HI := Lib.hid (fun h => in_idx (l := s.data.toList) (t := tl) h)
  have HZ := Lib.hid (show tl = [] → inS s.data.toList tl = false from fun h => by rw [h]; rfl)
  rw [htl]
  clear htl
  generalize inS s.data.toList tl = Z at *
  generalize spl 32 s.data.toList = ps at *
  obtain ⟨n, hnn⟩ : ∃ n, ps.length = n := ⟨_, rfl⟩
  have HN := Lib.hid hnn
  rw [hnn] at hn
  clear hnn
  unfold Tl
  go_enter Try.func18, Try.ntmps18
  go_wp2_with fail
  refine (HC.out _).mono ?_
  rintro e w1 ⟨v, rfl, hown, hb⟩
  have HBE := Lib.hid hb
  obtain ⟨A, c, rfl, hx⟩ := Rd.of_own hown
  have HX := Lib.hid hx
  rw [strK_len, HN.out]
  clear hown hb hx
  go_wp2_with fail
  go_loopw [6] (fun i wr => ∃ k : Nat, i = .int .i64 (k : Int) ∧ k ≤ n ∧ Aside (∀ j (h : j < ps.length), j < k → tl ≠ [] → ps[j] ≠ tl) ∧ Aside (w1 = wr)) (fun i _ => n - (intOf i).toNat)
  case atStart => exact ⟨0, rfl, by omega, (show ∀ _ _ _ _, _ from fun j h hj => by omega), (show _ = _ from rfl)⟩
  case round =>
    obtain ⟨k, rfl, hk, hno, hw⟩ := hrel
    have HNO := Lib.hid hno.out
    obtain rfl : w1 = wr := hw.out
    clear hno hw
    by_cases hlt : k < n
    · have t1 : decide ((k : Int) < (n : Int)) = true := decide_eq_true (by omega)
      have t2 : decide (k < n) = true := decide_eq_true hlt
      have k0 : (0 : Int) ≤ (k : Int) := by omega
      have k1 : (k : Int) < (n : Int) := by omega
      have k2 : ((k : Int)).toNat = k := by omega
      have hkl : k < ps.length := by rw [HN.out]; exact hlt
      obtain ⟨ad, rfl, _, hc⟩ := HX.out (by rw [strK_len]; omega)
      have ap := hc k _ (strK_at ps k hkl)
      clear hc
      by_cases he : ps[k] = tl
      · have u1 : ((strOf ps[k]).toList == t.toList) = true := by rw [strOf_list, HTT.out, he]; simp
        have u2 : (strOf ps[k]).toList = t.toList := by rw [strOf_list, HTT.out, he]
        by_cases h0 : tl = []
        · have v1 : (t.toList != []) = false := by rw [HTT.out, h0]; rfl
          have v2 : t.toList = [] := by rw [HTT.out, h0]
          have HN2 := Lib.hid (show ∀ j (h : j < ps.length), j < k + 1 → tl ≠ [] → ps[j] ≠ tl from fun j h hj h1 => absurd h0 h1)
          generalize strOf ps[k] = X at *
          clear he h0
          go_wp2_with fail
          go_roundw
          case rel => exact ⟨k + 1, by go_num, by omega, HN2.out, (show True from trivial)⟩
          case measure => simp [intOf]; omega
        · have v1 : (t.toList != []) = true := by rw [HTT.out, bne_iff_ne]; exact h0
          have v2 : ¬ t.toList = [] := by rw [HTT.out]; exact h0
          have v3 : t.toList.isEmpty = false := by
            rw [HTT.out]
            cases tl with
            | nil => exact absurd rfl h0
            | cons a b => rfl
          have HY := Lib.hid (show Z = true by rw [HI.out h0, ← he]; exact decide_eq_true (List.getElem_mem hkl))
          generalize strOf ps[k] = X at *
          clear he h0
          go_wp2_with fail
          go_ret
          exact ⟨by rw [HY.out]; rfl, HBE.out⟩
      · have u1 : ((strOf ps[k]).toList == t.toList) = false := by rw [strOf_list, HTT.out]; exact beq_eq_false_iff_ne.2 he
        have u2 : ¬ (strOf ps[k]).toList = t.toList := by rw [strOf_list, HTT.out]; exact he
        have HN2 := Lib.hid (show ∀ j (h : j < ps.length), j < k + 1 → tl ≠ [] → ps[j] ≠ tl from fun j h hj h1 => by
          by_cases hjk : j = k
          · subst hjk; exact he
          · exact HNO.out j h (by omega) h1)
        generalize strOf ps[k] = X at *
        clear he
        go_wp2_with fail
        go_roundw
        case rel => exact ⟨k + 1, by go_num, by omega, HN2.out, (show True from trivial)⟩
        case measure => simp [intOf]; omega
    · have t1 : decide ((k : Int) < (n : Int)) = false := decide_eq_false (by omega)
      have t2 : decide (k < n) = false := decide_eq_false hlt
      have HY := Lib.hid (show Z = false by
        by_cases h0 : tl = []
        · exact HZ.out h0
        · rw [HI.out h0]
          exact decide_eq_false fun hm => by
            obtain ⟨j, hj, e⟩ := List.getElem_of_mem hm
            exact HNO.out j hj (by rw [HN.out] at hj; omega) h0 e)
      go_wp2_with fail
      go_ret
      exact ⟨by rw [HY.out]; rfl, HBE.out⟩
end Go.Proofs.Ytnfngjaldgellaa.Wo
namespace Go.Proofs.Ytnfngjaldgellaa.Wo
open Go.Proofs Go.RowKit
open Go.Proofs.Ytnfngjaldgellaa.Utf
open Go.Proofs.Ytnfngjaldgellaa.Nu

theorem spl_count (c : UInt8) : ∀ l : List UInt8, (spl c l).length ≤ l.length + 1
  | [] => by simp [spl]
  | x :: r => by
    have h := spl_count c r
    rw [spl]
    split
    · simp; omega
    · cases hr : spl c r with
      | nil => exact absurd hr (spl_ne c r)
      | cons p t =>
        rw [hr] at h
        simp at h ⊢; omega

end Go.Proofs.Ytnfngjaldgellaa.Wo
namespace Go.Proofs.Ytnfngjaldgellaa.Wo
open Go.Proofs Go.RowKit
open Go.Proofs.Ytnfngjaldgellaa.Utf
open Go.Proofs.Ytnfngjaldgellaa.Nu

set_option maxRecDepth 100000 in
set_option maxHeartbeats 1000000 in
theorem ins_walk (s t : ByteArray) (w : World) (hs : s.size ≤ 1048576) (_ht : t.size ≤ 1048576) :
    Calls Try.prog 4 #[.string s, .string t] w fun e w' => e = .returned (.bool true) ∧ Below w.heap.size w w' := by
  have hs2 : s.size ≤ 9223372036854775807 := by omega
  have hn : ∀ c, (spl c s.data.toList).length ≤ 4398046511104 := fun c => by
    have := spl_count c s.data.toList
    rw [len_data] at this
    omega
  have C0 := Lib.hid (fun wx => awake_any12 wx)
  have C1 := Lib.hid (fun wx => In_any s t wx hs2)
  have C2 := Lib.hid (fun wx => rIn_any s t wx hs2 (hn 32))
  clear hn
  generalize inS s.data.toList t.data.toList = m1 at *
  go_enter Try.func4, Try.ntmps4
  go_wp2_with fail
  refine (C0.out _).mono ?_
  rintro e x0 ⟨rfl, hb⟩
  have HB0 := Lib.hid hb
  clear hb
  go_wp2_with fail
  refine (C1.out _).mono ?_
  rintro e x1 ⟨rfl, hb⟩
  have HB1 := Lib.hid (HB0.out.trans (hb.mono HB0.out.size))
  clear hb
  go_wp2_with fail
  refine (C2.out _).mono ?_
  rintro e x2 ⟨rfl, hb⟩
  have HB2 := Lib.hid (HB1.out.trans (hb.mono HB1.out.size))
  clear hb
  have e1 : (m1 == m1) = true := beq_self_eq_true _
  go_wp2_with fail
  go_ret
  exact ⟨by first | rfl | (rw [e1]), HB2.out⟩
end Go.Proofs.Ytnfngjaldgellaa.Wo
