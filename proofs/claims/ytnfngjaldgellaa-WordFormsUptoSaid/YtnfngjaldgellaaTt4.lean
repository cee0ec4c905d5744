/- Merged: WoF WoG WoH WoI WoJ WoW1. -/
import Derived.Test.YtnfngjaldgellaaTt3
import Derived.Deep.AppendLies
namespace Go.Proofs.Ytnfngjaldgellaa.Wo
open Go.Proofs Go.RowKit
open Go.Proofs.Ytnfngjaldgellaa.Utf
open Go.Proofs.Ytnfngjaldgellaa.Nu

theorem infoSt : (Try.prog.info? 9).map (fun i => (i.zero, i.size, i.bytes)) = some (some (.string ⟨#[]⟩), 1, 16) := by kernel_rfl
def strK (ps : List (List UInt8)) : List Value := ps.map fun p => .string (strOf p)
theorem strK_len (ps : List (List UInt8)) : (strK ps).length = ps.length := by unfold strK; simp
theorem strK_at (ps : List (List UInt8)) (k : Nat) (h : k < ps.length) : (strK ps)[k]? = some (.string (strOf ps[k])) := by
  unfold strK
  rw [List.getElem?_map, List.getElem?_eq_getElem h]; rfl
theorem mem_no {l : List UInt8} {c : UInt8} (h : ∀ j, j < l.length → byt l j ≠ (c.toNat : Int)) : c ∉ l := by
  intro hm
  obtain ⟨j, hj, e⟩ := List.getElem_of_mem hm
  exact h j hj (by rw [byt_in hj, e])
theorem mem_yes {l : List UInt8} {c : UInt8} {k : Nat} (hk : k < l.length) (h : byt l k = (c.toNat : Int)) : c ∈ l := by
  rw [byt_in hk] at h
  have : l[k] = c := UInt8.toNat_inj.1 (by omega)
  rw [← this]; exact List.getElem_mem hk
theorem byt_dr (l : List UInt8) (q k : Nat) : byt (l.drop q) k = byt l (q + k) := by unfold byt; simp [List.getD_eq_getElem?_getD]
theorem u8_of {c : Int} (h0 : 0 ≤ c) (h1 : c ≤ 255) : ((c.toNat.toUInt8).toNat : Int) = c := by
  obtain ⟨n, rfl⟩ := Int.eq_ofNat_of_zero_le h0
  have : n < 256 := by omega
  simp [Nat.mod_eq_of_lt this]

set_option maxRecDepth 100000 in
set_option maxHeartbeats 1000000 in
theorem has_any (s : ByteArray) (c : Int) (w : World) (hs : s.size ≤ 4398046511104) (c0 : 0 ≤ c) (c1 : c ≤ 255) :
    Calls Try.prog 30 #[.string s, .int .u8 c] w fun e w' => e = .returned (.bool (decide (0 ≤ Lib.indexByte s.data.toList c.toNat.toUInt8))) ∧ w = w' := by
  rw [idx_mem]
  have HU := Lib.hid (u8_of c0 c1)
  generalize c.toNat.toUInt8 = d at *
  go_enter Try.func30, Try.ntmps30
  go_wp2_with fail
  go_loopw [5] (fun i wr => ∃ k : Nat, i = .int .i64 (k : Int) ∧ k ≤ s.size ∧ Aside (∀ j, j < k → byt s.data.toList j ≠ c) ∧ Aside (w = wr)) (fun i _ => s.size - (intOf i).toNat)
  case atStart => exact ⟨0, rfl, by omega, (show ∀ _ _, _ from fun j h => by omega), (show _ = _ from rfl)⟩
  case round =>
    obtain ⟨k, rfl, hk, hno, hw⟩ := hrel
    have HNO := Lib.hid hno.out
    have HW := Lib.hid hw.out
    clear hno hw
    by_cases hlt : k < s.size
    · have t1 : decide ((k : Int) < (s.size : Int)) = true := decide_eq_true (by omega)
      have t2 : decide (k < s.size) = true := decide_eq_true hlt
      have k0 : (0 : Int) ≤ (k : Int) := by omega
      have k1 : (k : Int) < (s.size : Int) := by omega
      have k2 : ((k : Int)).toNat = k := by omega
      have HG := Lib.hid (byt_get s k hlt)
      by_cases hc : (s[k].toNat : Int) = c
      · have u1 : ((s[k].toNat : Int) == c) = true := by rw [hc]; exact beq_self_eq_true _
        have HD := Lib.hid (decide_eq_true (mem_yes (l := s.data.toList) (c := d) (by rw [len_data]; exact hlt) (by rw [HG.out, hc, HU.out])))
        clear hc
        go_wp2_with fail
        go_ret
        exact ⟨by rw [HD.out]; rfl, HW.out⟩
      · have u1 : ((s[k].toNat : Int) == c) = false := beq_eq_false_iff_ne.2 hc
        have HN2 := Lib.hid (show ∀ j, j < k + 1 → byt s.data.toList j ≠ c from fun j hj e => by
          by_cases hjk : j = k
          · subst hjk; exact hc (by rw [← HG.out]; exact e)
          · exact HNO.out j (by omega) e)
        clear hc
        go_wp2_with fail
        go_roundw
        case rel => exact ⟨k + 1, by go_num, by omega, HN2.out, HW.out⟩
        case measure => simp [intOf]; omega
    · have t1 : decide ((k : Int) < (s.size : Int)) = false := decide_eq_false (by omega)
      have t2 : decide (k < s.size) = false := decide_eq_false hlt
      have HD := Lib.hid (decide_eq_false (mem_no (l := s.data.toList) (c := d) (fun j hj => by rw [HU.out]; exact HNO.out j (by rw [len_data] at hj; omega))))
      go_wp2_with fail
      go_ret
      exact ⟨by rw [HD.out]; rfl, HW.out⟩

structure SpI (c : UInt8) (l : List UInt8) (k f : Nat) (ps : List (List UInt8)) : Prop where
  fk : f ≤ k
  kl : k ≤ l.length
  eq : spl c l = ps ++ spl c (l.drop f)
  no : ∀ j, f ≤ j → j < k → byt l j ≠ (c.toNat : Int)
section
variable {c : UInt8} {l : List UInt8} {k f : Nat} {ps : List (List UInt8)}
theorem SpI.start : SpI c l 0 0 [] := ⟨Nat.le_refl _, Nat.zero_le _, by rw [List.drop_zero]; rfl, fun j h1 h2 => by omega⟩
theorem SpI.more (h : SpI c l k f ps) (hk : k < l.length) (hc : byt l k ≠ (c.toNat : Int)) : SpI c l (k + 1) f ps :=
  ⟨Nat.le_succ_of_le h.fk, hk, h.eq, fun j h1 h2 => by
    by_cases hjk : j = k
    · subst hjk; exact hc
    · exact h.no j h1 (by omega)⟩
theorem SpI.mid (h : SpI c l k f ps) : c ∉ (l.drop f).take (k - f) := mem_no fun j hj => by
  have hj2 : j < k - f := by
    rw [List.length_take] at hj
    omega
  have hkl := h.kl
  have hj3 : j < (l.drop f).length := by rw [List.length_drop]; omega
  rw [byt_in hj, List.getElem_take, ← byt_in (l := l.drop f) hj3, byt_dr]
  exact h.no _ (by omega) (by omega)
theorem SpI.cut (h : SpI c l k f ps) (hk : k < l.length) (hc : byt l k = (c.toNat : Int)) : SpI c l (k + 1) (k + 1) (ps ++ [(l.drop f).take (k - f)]) := by
  refine ⟨Nat.le_refl _, hk, ?_, fun j h1 h2 => by omega⟩
  have hfk := h.fk
  have e : l.drop f = (l.drop f).take (k - f) ++ c :: l.drop (k + 1) := by
    conv => lhs; rw [← List.take_append_drop (k - f) (l.drop f)]
    rw [List.drop_drop, show f + (k - f) = k by omega, List.drop_eq_getElem_cons hk]
    rw [byt_in hk] at hc
    rw [show l[k] = c from UInt8.toNat_inj.1 (by omega)]
  rw [h.eq]
  conv => lhs; rw [e]
  rw [spl_app, spl_no h.mid, List.append_assoc]
theorem SpI.end_ (h : SpI c l k f ps) (hk : k = l.length) : spl c l = ps ++ [l.drop f] := by
  rw [h.eq, spl_no]
  have := h.mid
  rwa [List.take_of_length_le (by rw [List.length_drop]; omega)] at this
theorem SpI.room (h : SpI c l k f ps) : ps.length + 1 ≤ (spl c l).length := by
  rw [h.eq, List.length_append]
  have := List.length_pos_iff.2 (spl_ne c (l.drop f))
  omega
end
def GivesPs (ps : List (List UInt8)) (w : World) (e : Ending) (w' : World) : Prop :=
  ∃ v, e = .returned v ∧ w'.ownsRow w.heap.size 9 1 v ps.length (strK ps) ∧ Below w.heap.size w w'
theorem ext_mid (s : ByteArray) (f k : Nat) : s.extract f k = strOf ((s.data.toList.drop f).take (k - f)) := by
  apply ByteArray.ext
  rw [ByteArray.data_extract]
  apply Array.toList_inj.1
  simp [strOf, Array.toList_extract, List.extract]

set_option maxRecDepth 100000 in
set_option maxHeartbeats 2000000 in
theorem Split_any (s : ByteArray) (c : UInt8) (w : World) (hs : s.size ≤ 9223372036854775807) (hn : (spl c s.data.toList).length ≤ 4398046511104) :
    Calls Try.prog 19 #[.string s, .int .u8 (c.toNat : Int)] w (GivesPs (spl c s.data.toList) w) := by
  obtain ⟨i1, hj, hy0, hy1, hy2⟩ := info_parts infoSt
  have HLEN := Lib.hid (len_data s)
  have HN := Lib.hid hn
  clear hn
  go_enter Try.func19, Try.ntmps19
  go_wp2_with fail
  go_loopw [5, 6, 7] (fun v fv i wr => ∃ (k f : Nat) (ps : List (List UInt8)), i = .int .i64 (k : Int) ∧ fv = .int .i64 (f : Int) ∧ k ≤ s.size ∧ f ≤ k ∧ ps.length + 1 ≤ 4398046511104 ∧ Aside (SpI c s.data.toList k f ps) ∧ Aside (wr.ownsRow w.heap.size 9 1 v ps.length (strK ps)) ∧ Aside (Below w.heap.size w wr)) (fun _ _ i _ => s.size - (intOf i).toNat)
  case atStart => exact ⟨0, 0, [], rfl, rfl, by omega, by omega, by simp, (show SpI _ _ _ _ _ from SpI.start), (show World.ownsRow _ _ _ _ _ _ _ from World.ownsRow_nil _ _ _ _), (show Below _ _ _ from Below.refl _ _)⟩
  case round =>
    obtain ⟨k, f, ps, rfl, rfl, hk, hfk, hps, hsp, hrow, hbel⟩ := hrel
    have HSP := Lib.hid hsp.out
    have hown := hrow.out
    have HB := Lib.hid hbel.out
    have HBS := Lib.hid hbel.out.size
    clear hsp hrow hbel
    by_cases hlt : k < s.size
    · have t1 : decide ((k : Int) < (s.size : Int)) = true := decide_eq_true (by omega)
      have t2 : decide (k < s.size) = true := decide_eq_true hlt
      have k0 : (0 : Int) ≤ (k : Int) := by omega
      have k1 : (k : Int) < (s.size : Int) := by omega
      have k2 : ((k : Int)).toNat = k := by omega
      have HG := Lib.hid (byt_get s k hlt)
      by_cases hc : (s[k].toNat : Int) = (c.toNat : Int)
      · have u1 : ((s[k].toNat : Int) == (c.toNat : Int)) = true := by rw [hc]; exact beq_self_eq_true _
        have HSP2 := Lib.hid (HSP.out.cut (by rw [HLEN.out]; exact hlt) (by rw [HG.out]; exact hc))
        have HROOM := Lib.hid HSP2.out.room
        have HX := Lib.hid (ext_mid s f k)
        generalize (s.data.toList.drop f).take (k - f) = q at *
        have f0 : (0 : Int) ≤ (f : Int) := by omega
        have f1 : (f : Int) ≤ (k : Int) := by omega
        have f2 : ((f : Int)).toNat = f := by omega
        have f3 : (k : Int) ≤ (s.size : Int) := by omega
        clear hc
        go_wp2_with (at_builtin; refine wpList_append_lies _ rfl _ _ 25 rfl w.heap.size 9 i1 _ 1 16 Try.underlying25 hj hy0 hy1 hy2 (by rfl) (by decide) u5 ps.length (strK ps) rfl (hown.alloc _) ⟨wr.heap.size, 0, none⟩ 1 1 [.string (s.extract f k)] rfl rfl (cells_new _ _ _) ?_ ?_ ?_ ?_ ?_ _ rfl ?_; (intro u hu; simp at hu; subst hu; rfl); omega; (unfold maxLen; omega); omega; (have := HBS.out; simp; omega); intro g cap w2 hown2 hg2 hat hgl)
        have HO2 := Lib.hid (show w2.ownsRow w.heap.size 9 1 (.slice (some ⟨g, 0, none⟩) (ps.length + 1) cap) (ps ++ [q]).length (strK (ps ++ [q])) by
          rw [HX.out] at hown2
          rw [List.length_append, strK, List.map_append]; exact hown2)
        have HB2 := Lib.hid (show Below w.heap.size w w2 from (HB.out.alloc HBS.out _).grown hg2 (by have := HBS.out; simp; omega) (fun k hk => (hown.lt k hk).1))
        clear hown hown2 hg2 hat
        go_wp2_with fail
        go_roundw
        case rel => exact ⟨k + 1, k + 1, ps ++ [q], by go_num, by go_num, by omega, by omega, by have h1 := HROOM.out; have h2 := HN.out; omega, HSP2.out, HO2.out, HB2.out⟩
        case measure => simp [intOf]; omega
      · have u1 : ((s[k].toNat : Int) == (c.toNat : Int)) = false := beq_eq_false_iff_ne.2 hc
        have HSP2 := Lib.hid (HSP.out.more (by rw [HLEN.out]; exact hlt) (by rw [HG.out]; exact hc))
        have HO2 := Lib.hid hown
        clear hc hown
        go_wp2_with fail
        go_roundw
        case rel => exact ⟨k + 1, f, ps, by go_num, rfl, by omega, by omega, hps, HSP2.out, HO2.out, HB.out⟩
        case measure => simp [intOf]; omega
    · have t1 : decide ((k : Int) < (s.size : Int)) = false := decide_eq_false (by omega)
      have t2 : decide (k < s.size) = false := decide_eq_false hlt
      have HE := Lib.hid (HSP.out.end_ (by rw [HLEN.out]; omega))
      have HX := Lib.hid (ext_drop s f)
      generalize s.data.toList.drop f = q at *
      have f0 : (0 : Int) ≤ (f : Int) := by omega
      have f1 : (f : Int) ≤ (s.size : Int) := by omega
      have f2 : ((f : Int)).toNat = f := by omega
      go_wp2_with (at_builtin; refine wpList_append_lies _ rfl _ _ 25 rfl w.heap.size 9 i1 _ 1 16 Try.underlying25 hj hy0 hy1 hy2 (by rfl) (by decide) u5 ps.length (strK ps) rfl (hown.alloc _) ⟨wr.heap.size, 0, none⟩ 1 1 [.string (s.extract f s.size)] rfl rfl (cells_new _ _ _) ?_ ?_ ?_ ?_ ?_ _ rfl ?_; (intro u hu; simp at hu; subst hu; rfl); omega; (unfold maxLen; omega); omega; (have := HBS.out; simp; omega); intro g cap w2 hown2 hg2 hat hgl)
      have HO2 := Lib.hid (show w2.ownsRow w.heap.size 9 1 (.slice (some ⟨g, 0, none⟩) (ps.length + 1) cap) (spl c s.data.toList).length (strK (spl c s.data.toList)) by
        rw [HX.out] at hown2
        rw [HE.out, List.length_append, strK, List.map_append]; exact hown2)
      have HB2 := Lib.hid (show Below w.heap.size w w2 from (HB.out.alloc HBS.out _).grown hg2 (by have := HBS.out; simp; omega) (fun k hk => (hown.lt k hk).1))
      clear hown hown2 hg2 hat
      go_wp2_with fail
      go_ret
      exact ⟨_, rfl, HO2.out, HB2.out⟩
end Go.Proofs.Ytnfngjaldgellaa.Wo
namespace Go.Proofs.Ytnfngjaldgellaa.Wo
open Go.Proofs Go.RowKit
open Go.Proofs.Ytnfngjaldgellaa.Utf
open Go.Proofs.Ytnfngjaldgellaa.Nu

section
variable {l : List UInt8}
theorem nm_len (h : l.length = 0 ∨ 127 < l.length) : nmS l = false := by
  unfold nmS
  rw [decide_eq_false (by omega)]; rfl
theorem nm_fst (h : ltr (byt l 0) = false) (h2 : isD (byt l 0) = false) : nmS l = false := by
  unfold nmS
  rw [h, h2]; simp
theorem nm_bad {k : Nat} (hk : k < l.length) (h : nmB (byt l k) = false) : nmS l = false := by
  unfold nmS
  rw [List.all_eq_false.2 ⟨l[k], List.getElem_mem hk, by rw [byt_in hk] at h; rw [h]; simp⟩, Bool.and_false]
theorem nm_yes (h0 : 1 ≤ l.length) (h1 : l.length ≤ 127) (h2 : ltr (byt l 0) = true ∨ isD (byt l 0) = true) (h3 : ∀ j, j < l.length → nmB (byt l j) = true) : nmS l = true := by
  unfold nmS
  rw [decide_eq_true ⟨h0, h1⟩, List.all_eq_true.2 fun x hx => by
    obtain ⟨j, hj, rfl⟩ := List.getElem_of_mem hx
    have := h3 j hj
    rwa [byt_in hj] at this]
  rcases h2 with h2 | h2
  · rw [h2]; rfl
  · rw [h2]; simp
end

set_option maxRecDepth 100000 in
set_option maxHeartbeats 1000000 in
theorem name_loop (s : ByteArray) (w : World) (h0 : 1 ≤ s.size) (h1 : s.size ≤ 127) (x y : Bool) (hx : ltr (byt s.data.toList 0) = x) (hy : isD (byt s.data.toList 0) = y) :
    Calls Try.prog 22 #[.string s] w fun e w' => e = .returned (.bool (nmS s.data.toList)) ∧ w = w' := by
  have HLEN := Lib.hid (len_data s)
  have HG0 := byt_get s 0 (by omega)
  have HL := Lib.hid (fun W => letter_any (s[0].toNat : Int) W)
  have HD := Lib.hid (fun W => rdigit_any (s[0].toNat : Int) W)
  rw [← HG0, hx] at HL
  rw [← HG0, hy] at HD
  rw [HG0] at HL HD
  have HX := Lib.hid hx
  have HY := Lib.hid hy
  clear hx hy HG0
  have t1 : ((s.size : Int) == 0) = false := beq_eq_false_iff_ne.2 (by omega)
  have t2 : decide ((s.size : Int) > 127) = false := decide_eq_false (by omega)
  have t3 : decide ((127 : Int) < (s.size : Int)) = false := decide_eq_false (by omega)
  have k00 : (0 : Int) < (s.size : Int) := by omega
  have main : (x = true ∨ y = true) → ∀ W0 W1 : World, True := fun _ _ _ => trivial
  clear main
  by_cases hxy : x = false ∧ y = false
  · obtain ⟨rfl, rfl⟩ := hxy
    have HE := Lib.hid (nm_fst HX.out HY.out)
    go_enter Try.func22, Try.ntmps22
    go_wp2_with (first | (go_at_call 26; refine (HL.out _).mono ?_; rintro e w' ⟨rfl, rfl⟩) | (go_at_call 27; refine (HD.out _).mono ?_; rintro e w' ⟨rfl, rfl⟩))
    go_ret
    exact ⟨by rw [HE.out]; rfl, rfl⟩
  · have HXY := Lib.hid (show ltr (byt s.data.toList 0) = true ∨ isD (byt s.data.toList 0) = true by
      rw [HX.out, HY.out]
      cases x
      · cases y
        · exact absurd ⟨rfl, rfl⟩ hxy
        · exact .inr rfl
      · exact .inl rfl)
    have hxy2 : x = true ∨ (x = false ∧ y = true) := by
      cases x
      · cases y
        · exact absurd ⟨rfl, rfl⟩ hxy
        · exact .inr ⟨rfl, rfl⟩
      · exact .inl rfl
    clear hxy
    rcases hxy2 with rfl | ⟨rfl, rfl⟩
    all_goals
      go_enter Try.func22, Try.ntmps22
      go_wp2_with (first | (go_at_call 26; refine (HL.out _).mono ?_; rintro e w' ⟨rfl, rfl⟩) | (go_at_call 27; refine (HD.out _).mono ?_; rintro e w' ⟨rfl, rfl⟩))
      go_loopw [3] (fun i wr => ∃ k : Nat, i = .int .i64 (k : Int) ∧ k ≤ s.size ∧ Aside (∀ j, j < k → nmB (byt s.data.toList j) = true) ∧ Aside (w = wr)) (fun i _ => s.size - (intOf i).toNat)
      case atStart => exact ⟨0, rfl, by omega, (show ∀ _ _, _ from fun j h => by omega), (show _ = _ from rfl)⟩
      case round =>
        obtain ⟨k, rfl, hk, hno, hw⟩ := hrel
        have HNO := Lib.hid hno.out
        have HW := Lib.hid hw.out
        clear hno hw HL HD
        by_cases hlt : k < s.size
        · have t1 : decide ((k : Int) < (s.size : Int)) = true := decide_eq_true (by omega)
          have t2 : decide (k < s.size) = true := decide_eq_true hlt
          have k0 : (0 : Int) ≤ (k : Int) := by omega
          have k1 : (k : Int) < (s.size : Int) := by omega
          have k2 : ((k : Int)).toNat = k := by omega
          have HG := Lib.hid (byt_get s k hlt)
          have b0 : (0 : Int) ≤ (s[k].toNat : Int) := by omega
          have b1 : (s[k].toNat : Int) ≤ 255 := by have := s[k].toNat_lt; omega
          have HL := Lib.hid (fun W => letter_any (s[k].toNat : Int) W)
          have HD := Lib.hid (fun W => rdigit_any (s[k].toNat : Int) W)
          have HH := Lib.hid (fun W => has_any ⟨#[33, 35, 36, 38, 45, 94, 95, 46, 43]⟩ (s[k].toNat : Int) W (by decide) b0 b1)
          have HE9 := Lib.hid (show (⟨#[33, 35, 36, 38, 45, 94, 95, 46, 43]⟩ : ByteArray).data.toList = [33, 35, 36, 38, 45, 94, 95, 46, 43] from rfl)
          rw [HE9.out] at HH
          have HB := Lib.hid (show nmB (byt s.data.toList k) = (ltr (s[k].toNat : Int) || isD (s[k].toNat : Int) || decide (0 ≤ Lib.indexByte [33, 35, 36, 38, 45, 94, 95, 46, 43] (s[k].toNat : Int).toNat.toUInt8)) by rw [HG.out, nm_bytes b0 b1]; rfl)
          generalize ltr (s[k].toNat : Int) = p at *
          generalize isD (s[k].toNat : Int) = q at *
          generalize decide (0 ≤ Lib.indexByte [33, 35, 36, 38, 45, 94, 95, 46, 43] (s[k].toNat : Int).toNat.toUInt8) = r at *
          clear b0 b1 HE9
          have hc : (p = false ∧ q = false ∧ r = false) ∨ ((p || q || r) = true ∧ (p = true ∨ (p = false ∧ q = true) ∨ (p = false ∧ q = false ∧ r = true))) := by cases p <;> cases q <;> cases r <;> simp
          rcases hc with ⟨rfl, rfl, rfl⟩ | ⟨hor, hc⟩
          · have HY2 := Lib.hid (nm_bad (l := s.data.toList) (by rw [HLEN.out]; exact hlt) (by rw [HB.out]; rfl))
            go_wp2_with (first | (go_at_call 26; refine (HL.out _).mono ?_; rintro e w' ⟨rfl, rfl⟩) | (go_at_call 27; refine (HD.out _).mono ?_; rintro e w' ⟨rfl, rfl⟩) | (go_at_call 30; refine (HH.out _).mono ?_; rintro e w' ⟨rfl, rfl⟩))
            go_ret
            exact ⟨by rw [HY2.out]; rfl, HW.out⟩
          · have HN2 := Lib.hid (show ∀ j, j < k + 1 → nmB (byt s.data.toList j) = true from fun j hj => by
              by_cases hjk : j = k
              · subst hjk; rw [HB.out]; exact hor
              · exact HNO.out j (by omega))
            clear hor
            rcases hc with rfl | ⟨rfl, rfl⟩ | ⟨rfl, rfl, rfl⟩
            all_goals
              go_wp2_with (first | (go_at_call 26; refine (HL.out _).mono ?_; rintro e w' ⟨rfl, rfl⟩) | (go_at_call 27; refine (HD.out _).mono ?_; rintro e w' ⟨rfl, rfl⟩) | (go_at_call 30; refine (HH.out _).mono ?_; rintro e w' ⟨rfl, rfl⟩))
              go_roundw
              case rel => exact ⟨k + 1, by go_num, by omega, HN2.out, HW.out⟩
              case measure => simp [intOf]; omega
        · have t1 : decide ((k : Int) < (s.size : Int)) = false := decide_eq_false (by omega)
          have t2 : decide (k < s.size) = false := decide_eq_false hlt
          have HE := Lib.hid (nm_yes (l := s.data.toList) (by rw [HLEN.out]; exact h0) (by rw [HLEN.out]; exact h1) HXY.out (fun j hj => HNO.out j (by rw [HLEN.out] at hj; omega)))
          go_wp2_with fail
          go_ret
          exact ⟨by rw [HE.out]; rfl, HW.out⟩

set_option maxRecDepth 100000 in
set_option maxHeartbeats 1000000 in
theorem name_any (s : ByteArray) (w : World) (hs : s.size ≤ 9223372036854775807) :
    Calls Try.prog 22 #[.string s] w fun e w' => e = .returned (.bool (nmS s.data.toList)) ∧ w = w' := by
  by_cases h0 : s.size = 0
  · have HE := Lib.hid (nm_len (l := s.data.toList) (.inl (by rw [len_data]; exact h0)))
    have t1 : ((s.size : Int) == 0) = true := by rw [beq_iff_eq]; omega
    clear h0
    go_enter Try.func22, Try.ntmps22
    go_wp2_with fail
    go_ret
    exact ⟨by rw [HE.out]; rfl, rfl⟩
  · by_cases h1 : 127 < s.size
    · have HE := Lib.hid (nm_len (l := s.data.toList) (.inr (by rw [len_data]; exact h1)))
      have t1 : ((s.size : Int) == 0) = false := beq_eq_false_iff_ne.2 (by omega)
      have t2 : decide ((s.size : Int) > 127) = true := decide_eq_true (by omega)
      have t3 : decide ((127 : Int) < (s.size : Int)) = true := decide_eq_true (by omega)
      clear h0 h1
      go_enter Try.func22, Try.ntmps22
      go_wp2_with fail
      go_ret
      exact ⟨by rw [HE.out]; rfl, rfl⟩
    · exact name_loop s w (by omega) (by omega) _ _ rfl rfl
end Go.Proofs.Ytnfngjaldgellaa.Wo
namespace Go.Proofs.Ytnfngjaldgellaa.Wo
open Go.Proofs Go.RowKit
open Go.Proofs.Ytnfngjaldgellaa.Utf
open Go.Proofs.Ytnfngjaldgellaa.Nu

theorem spl_le {c : UInt8} : ∀ {l p : List UInt8}, p ∈ spl c l → p.length ≤ l.length
  | [], p, h => by
    simp [spl] at h
    subst h; simp
  | x :: r, p, h => by
    rw [spl] at h
    by_cases hx : x = c
    · rw [if_pos hx] at h
      rcases List.mem_cons.1 h with rfl | h
      · simp
      · have := spl_le h; simp; omega
    · rw [if_neg hx] at h
      cases hr : spl c r with
      | nil => exact absurd hr (spl_ne c r)
      | cons q t =>
        rw [hr] at h
        rcases List.mem_cons.1 h with rfl | h
        · have := spl_le (l := r) (p := q) (by rw [hr]; exact List.mem_cons_self); simp; omega
        · have := spl_le (l := r) (p := p) (by rw [hr]; exact List.mem_cons_of_mem _ h); simp; omega
theorem adr0 (a : Addr) : a.add 0 = a := by unfold Addr.add; split <;> simp_all
theorem own_blk {w : World} {B E n : Nat} {v : Value} {xs : List Value} (h : w.ownsRow B E 1 v n xs) (h0 : 0 < xs.length) :
    ∃ g c, v = .slice (some ⟨g, 0, none⟩) xs.length c ∧ g < w.heap.size ∧ ∀ j u, xs[j]? = some u → w.cell? ⟨g, j, none⟩ = some u := by
  obtain ⟨A, c, rfl, hx⟩ := Rd.of_own h
  obtain ⟨ad, rfl, hb, hc⟩ := hx h0
  rcases h.2 with ⟨e, _⟩ | ⟨g, cap, cur, e, _⟩
  · cases e
  · injection e with e1 e2 e3
    injection e1 with e1
    subst e1
    refine ⟨g, c, rfl, hb, fun j u hu => ?_⟩
    have := hc j u hu
    have hp : (⟨g, 0, none⟩ : Addr).add j = ⟨g, j, none⟩ := by unfold Addr.add; split <;> simp_all
    rwa [hp] at this
theorem media_not {l : List UInt8} (h : (spl 47 l).length ≠ 2) : mediaS l = false := by
  unfold mediaS
  split
  · rename_i a b hs
    rw [hs] at h; exact absurd rfl h
  · rfl
theorem list_two {α : Type} {l : List α} (h : l.length = 2) : ∃ a b, l = [a, b] := by
  match l, h with
  | [a, b], _ => exact ⟨a, b, rfl⟩

set_option maxRecDepth 100000 in
set_option maxHeartbeats 1000000 in
theorem rMedia_any (s : ByteArray) (w : World) (hs : s.size ≤ 9223372036854775807) (hn : (spl 47 s.data.toList).length ≤ 4398046511104) :
    Calls Try.prog 10 #[.string s] w (Tl (mediaS s.data.toList) w) := by
  have HC := Lib.hid (fun W => Split_any s 47 W hs hn)
  have HM := Lib.hid (show ∀ p ∈ spl 47 s.data.toList, (strOf p).size ≤ 9223372036854775807 from fun p hp => by
    have := spl_le hp
    rw [len_data] at this
    rw [strOf_size]; omega)
  unfold Tl
  by_cases h2 : (spl 47 s.data.toList).length = 2
  · obtain ⟨a, b, hab⟩ := list_two h2
    have HE := Lib.hid (show mediaS s.data.toList = (nmS a && nmS b) by unfold mediaS; rw [hab])
    rw [hab] at HC HM
    have HA := Lib.hid (fun W => name_any (strOf a) W (HM.out a (by simp)))
    have HB := Lib.hid (fun W => name_any (strOf b) W (HM.out b (by simp)))
    rw [strOf_data] at HA HB
    rw [HE.out]
    generalize nmS a = x at *
    generalize nmS b = y at *
    clear hab h2 hn HE HM
    have HK := Lib.hid (show strK [a, b] = [.string (strOf a), .string (strOf b)] from rfl)
    rw [show ((47 : UInt8).toNat : Int) = 47 from rfl] at HC
    cases x
    all_goals
      go_enter Try.func10, Try.ntmps10
      go_wp2_with fail
      refine (HC.out _).mono ?_
      rintro e w1 ⟨v, rfl, hown, hb⟩
      have HBE := Lib.hid hb
      obtain ⟨g, c, rfl, had, hcell⟩ := own_blk hown (by rw [strK_len]; simp)
      rw [HK.out] at hcell
      have c0 := hcell 0 _ rfl
      have c1 := hcell 1 _ rfl
      rw [strK_len, show [a, b].length = 2 from rfl]
      clear hown hb hcell
      generalize strOf a = X at *
      generalize strOf b = Y at *
      go_wp2_with fail
      refine (HA.out _).mono ?_
      rintro e w2 ⟨rfl, rfl⟩
      go_wp2_with (go_at_call 22; refine (HB.out _).mono ?_; rintro e w' ⟨rfl, rfl⟩)
      go_ret
      exact ⟨rfl, HBE.out⟩
  · have HE := Lib.hid (media_not h2)
    rw [HE.out]
    obtain ⟨n, hnn⟩ : ∃ n, (spl 47 s.data.toList).length = n := ⟨_, rfl⟩
    have HNN := Lib.hid hnn
    rw [hnn] at h2
    clear hnn hn HM
    have t1 : ((n : Int) == 2) = false := beq_eq_false_iff_ne.2 (by omega)
    rw [show ((47 : UInt8).toNat : Int) = 47 from rfl] at HC
    go_enter Try.func10, Try.ntmps10
    go_wp2_with fail
    refine (HC.out _).mono ?_
    rintro e w1 ⟨v, rfl, hown, hb⟩
    have HBE := Lib.hid hb
    obtain ⟨A, c, rfl, hx⟩ := Rd.of_own hown
    rw [strK_len, HNN.out]
    clear hown hb hx
    go_wp2_with fail
    go_ret
    exact ⟨rfl, HBE.out⟩

theorem oth_spl (l : List UInt8) : othS l = (decide (1 < (spl 58 l).length) && (decide (hdP 58 l ≠ []) && decide ((hdP 58 l).length + 1 < l.length))) := by
  rw [← oth_eq]
  by_cases h : (58 : UInt8) ∈ l
  · have h1 := cut_len h
    rw [spl_cut h, List.length_cons]
    have h2 := List.length_pos_iff.2 (spl_ne 58 (tlP 58 l))
    rw [decide_eq_true (show 1 < (spl 58 (tlP 58 l)).length + 1 by omega), Bool.true_and]
    congr 1
    have e2 : tlP 58 l ≠ [] ↔ 1 ≤ (tlP 58 l).length := List.length_pos_iff.symm
    exact decide_eq_decide.2 (by rw [e2]; omega)
  · rw [tl_all h, spl_no h]
    rw [decide_eq_false (show ¬ (([] : List UInt8) ≠ []) from fun h => h rfl), Bool.and_false]
    rfl
theorem spl_hd (c : UInt8) (l : List UInt8) : ∃ t, spl c l = hdP c l :: t := by
  by_cases h : c ∈ l
  · exact ⟨_, spl_cut h⟩
  · exact ⟨[], by rw [spl_no h, hd_all h]⟩

set_option maxRecDepth 100000 in
set_option maxHeartbeats 1000000 in
theorem rOther_any (s : ByteArray) (w : World) (hs : s.size ≤ 9223372036854775807) (hn : (spl 58 s.data.toList).length ≤ 4398046511104) :
    Calls Try.prog 16 #[.string s] w (Tl (othS s.data.toList) w) := by
  have HC := Lib.hid (fun W => Split_any s 58 W hs hn)
  rw [show ((58 : UInt8).toNat : Int) = 58 from rfl] at HC
  have HE := Lib.hid (oth_spl s.data.toList)
  have hle := hd_le 58 s.data.toList
  rw [HE.out, len_data]
  rw [len_data] at hle
  obtain ⟨t, ht⟩ := spl_hd 58 s.data.toList
  rw [ht] at HC hn ⊢
  rw [List.length_cons] at hn ⊢
  have t1 := strOf_eq0 (hdP 58 s.data.toList)
  have p1 := strOf_e0 (hdP 58 s.data.toList)
  have e1 := Lib.hid (strOf_em (hdP 58 s.data.toList))
  have sz := strOf_size (hdP 58 s.data.toList)
  have hm1 : 0 < t.length → (hdP 58 s.data.toList).length + 1 ≤ s.size := fun h => by
    by_cases hm : (58 : UInt8) ∈ s.data.toList
    · have := cut_len hm
      rw [len_data] at this
      omega
    · rw [spl_no hm] at ht
      injection ht with _ h2
      rw [← h2] at h
      exact absurd h (by simp)
  clear HE ht
  generalize hdP 58 s.data.toList = q at *
  generalize q.length = m at *
  unfold Tl
  by_cases h1 : 0 < t.length
  · rw [decide_eq_true (show 1 < t.length + 1 by omega), Bool.true_and]
    have hm2 := hm1 h1
    have g1 : decide (((t.length + 1 : Nat) : Int) > 1) = true := decide_eq_true (by omega)
    have g2 : decide ((1 : Int) < ((t.length + 1 : Nat) : Int)) = true := decide_eq_true (by omega)
    obtain ⟨n, hnn⟩ : ∃ n, t.length + 1 = n := ⟨_, rfl⟩
    have HNN := Lib.hid hnn
    rw [hnn] at g1 g2 hn
    have k01 : (0 : Int) < (n : Int) := by omega
    clear hnn h1 hm1
    generalize decide (q ≠ []) = x at *
    cases x with
    | false =>
      have q1 : (strOf q).toList = [] := of_decide_eq_true p1
      clear p1
      go_enter Try.func16, Try.ntmps16
      go_wp2_with fail
      refine (HC.out _).mono ?_
      rintro e w1 ⟨v, rfl, hown, hb⟩
      have HBE := Lib.hid hb
      obtain ⟨A, c, rfl, hx⟩ := Rd.of_own hown
      obtain ⟨ad, rfl, had, hcell⟩ := hx (by rw [strK_len]; simp)
      have c0 := hcell 0 _ (strK_at (q :: t) 0 (by simp))
      rw [show (q :: t)[0] = q from rfl, adr0] at c0
      rw [strK_len, List.length_cons, HNN.out]
      clear hown hb hx hcell
      generalize strOf q = Q at *
      go_wp2_with fail
      go_ret
      exact ⟨rfl, HBE.out⟩
    | true =>
      have q1 : ¬ (strOf q).toList = [] := of_decide_eq_false p1
      clear p1
      rw [Bool.true_and]
      by_cases h3 : m + 1 < s.size
      · rw [decide_eq_true h3]
        have g3 : decide ((s.size : Int) > (m : Int) + 1) = true := decide_eq_true (by omega)
        have g4 : decide ((m : Int) + 1 < (s.size : Int)) = true := decide_eq_true (by omega)
        go_enter Try.func16, Try.ntmps16
        go_wp2_with fail
        refine (HC.out _).mono ?_
        rintro e w1 ⟨v, rfl, hown, hb⟩
        have HBE := Lib.hid hb
        obtain ⟨A, c, rfl, hx⟩ := Rd.of_own hown
        obtain ⟨ad, rfl, had, hcell⟩ := hx (by rw [strK_len]; simp)
        have c0 := hcell 0 _ (strK_at (q :: t) 0 (by simp))
        rw [show (q :: t)[0] = q from rfl, adr0] at c0
        rw [strK_len, List.length_cons, HNN.out]
        clear hown hb hx hcell
        generalize strOf q = Q at *
        go_wp2_with fail
        go_ret
        exact ⟨ret_bool (by rw [e1.out]; simp <;> omega), HBE.out⟩
      · rw [decide_eq_false h3]
        have g3 : decide ((s.size : Int) > (m : Int) + 1) = false := decide_eq_false (by omega)
        have g4 : decide ((m : Int) + 1 < (s.size : Int)) = false := decide_eq_false (by omega)
        go_enter Try.func16, Try.ntmps16
        go_wp2_with fail
        refine (HC.out _).mono ?_
        rintro e w1 ⟨v, rfl, hown, hb⟩
        have HBE := Lib.hid hb
        obtain ⟨A, c, rfl, hx⟩ := Rd.of_own hown
        obtain ⟨ad, rfl, had, hcell⟩ := hx (by rw [strK_len]; simp)
        have c0 := hcell 0 _ (strK_at (q :: t) 0 (by simp))
        rw [show (q :: t)[0] = q from rfl, adr0] at c0
        rw [strK_len, List.length_cons, HNN.out]
        clear hown hb hx hcell
        generalize strOf q = Q at *
        go_wp2_with fail
        go_ret
        exact ⟨rfl, HBE.out⟩
  · rw [decide_eq_false (show ¬ 1 < t.length + 1 by omega), Bool.false_and]
    have h0 : t.length = 0 := by omega
    have HT := Lib.hid h0
    clear h0 h1
    go_enter Try.func16, Try.ntmps16
    go_wp2_with fail
    refine (HC.out _).mono ?_
    rintro e w1 ⟨v, rfl, hown, hb⟩
    have HBE := Lib.hid hb
    obtain ⟨A, c, rfl, hx⟩ := Rd.of_own hown
    rw [strK_len, List.length_cons, HT.out]
    clear hown hb hx
    go_wp2_with fail
    go_ret
    exact ⟨rfl, HBE.out⟩

end Go.Proofs.Ytnfngjaldgellaa.Wo
namespace Go.Proofs.Ytnfngjaldgellaa.Wo
open Go.Proofs Go.RowKit
open Go.Proofs.Ytnfngjaldgellaa.Utf
open Go.Proofs.Ytnfngjaldgellaa.Nu

def chB (first : Bool) (b : Int) : Bool := ltr b || (!first && isD b)
theorem tg_def (first : Bool) (l : List UInt8) : tgS first l = (decide ((if first then 2 else 1) ≤ l.length ∧ l.length ≤ 8) && l.all fun x => chB first (x.toNat : Int)) := by
  cases first
  · rfl
  · show (_ && l.all fun x => ltr (x.toNat : Int)) = (_ && l.all fun x => (ltr (x.toNat : Int) || false))
    simp
theorem tg_len {first : Bool} {l : List UInt8} (h : l.length = 0 ∨ 8 < l.length ∨ (first = true ∧ l.length = 1)) : tgS first l = false := by
  rw [tg_def, decide_eq_false (by
    rintro ⟨h1, h2⟩
    rcases h with h | h | ⟨rfl, h⟩
    · cases first
      · have h3 : 1 ≤ l.length := h1
        omega
      · have h3 : 2 ≤ l.length := h1
        omega
    · omega
    · have h3 : 2 ≤ l.length := h1
      omega)]
  rfl
theorem tg_bad {first : Bool} {l : List UInt8} {k : Nat} (hk : k < l.length) (h : chB first (byt l k) = false) : tgS first l = false := by
  rw [tg_def, List.all_eq_false.2 ⟨l[k], List.getElem_mem hk, by rw [byt_in hk] at h; rw [h]; simp⟩, Bool.and_false]
theorem tg_yes {first : Bool} {l : List UInt8} (h0 : l.length ≠ 0) (h1 : ¬ 8 < l.length) (h2 : first = true → l.length ≠ 1) (h3 : ∀ j, j < l.length → chB first (byt l j) = true) : tgS first l = true := by
  rw [tg_def, List.all_eq_true.2 (fun x hx => by
    obtain ⟨j, hj, rfl⟩ := List.getElem_of_mem hx
    have := h3 j hj
    rwa [byt_in hj] at this), Bool.and_true]
  refine decide_eq_true ⟨?_, by omega⟩
  cases first
  · show 1 ≤ _; omega
  · show 2 ≤ _
    have := h2 rfl
    omega
theorem lan_idx_no {l : List UInt8} {k : Nat} (hk : k < (spl 45 l).length) (h : tgS (decide (k = 0)) (spl 45 l)[k] = false) : langS l = false := by
  unfold langS
  cases hs : spl 45 l with
  | nil => exact absurd hs (spl_ne _ _)
  | cons p t =>
    simp only [hs] at h
    cases k with
    | zero =>
      have h' : tag1 p = false := h
      show (tag1 p && _) = false
      rw [h']; rfl
    | succ j =>
      have hj : j < t.length := by rw [hs] at hk; simpa using hk
      have h' : tagS t[j] = false := h
      show (_ && t.all tagS) = false
      rw [List.all_eq_false.2 ⟨t[j], List.getElem_mem hj, by rw [h']; simp⟩, Bool.and_false]
theorem lan_idx_yes {l : List UInt8} (h : ∀ k (hk : k < (spl 45 l).length), tgS (decide (k = 0)) (spl 45 l)[k] = true) : langS l = true := by
  unfold langS
  cases hs : spl 45 l with
  | nil => exact absurd hs (spl_ne _ _)
  | cons p t =>
    simp only [hs] at h
    show (tag1 p && t.all tagS) = true
    rw [show tag1 p = true from h 0 (by simp), Bool.true_and, List.all_eq_true]
    intro x hx
    obtain ⟨j, hj, rfl⟩ := List.getElem_of_mem hx
    exact h (j + 1) (by simpa using hj)

set_option maxRecDepth 100000 in
set_option maxHeartbeats 2000000 in
theorem rLang_any (s : ByteArray) (w : World) (hs : s.size ≤ 9223372036854775807) (hn : (spl 45 s.data.toList).length ≤ 4398046511104) :
    Calls Try.prog 12 #[.string s] w (Tl (langS s.data.toList) w) := by
  have HC := Lib.hid (fun W => Split_any s 45 W hs hn)
  rw [show ((45 : UInt8).toNat : Int) = 45 from rfl] at HC
  have HNOT := Lib.hid (fun k hk h => lan_idx_no (l := s.data.toList) (k := k) hk h)
  have HYES := Lib.hid (fun h => lan_idx_yes (l := s.data.toList) h)
  have HLE := Lib.hid (show ∀ p ∈ spl 45 s.data.toList, p.length ≤ 9223372036854775807 from fun p hp => by
    have := spl_le hp
    rw [len_data] at this
    omega)
  generalize langS s.data.toList = Z at *
  generalize spl 45 s.data.toList = ps at *
  obtain ⟨n, hnn⟩ : ∃ n, ps.length = n := ⟨_, rfl⟩
  have HN := Lib.hid hnn
  rw [hnn] at hn
  clear hnn
  unfold Tl
  go_enter Try.func12, Try.ntmps12
  go_wp2_with fail
  refine (HC.out _).mono ?_
  rintro e w1 ⟨v, rfl, hown, hb⟩
  have HBE := Lib.hid hb
  obtain ⟨A, c, rfl, hx⟩ := Rd.of_own hown
  have HX := Lib.hid hx
  rw [strK_len, HN.out]
  clear hown hb hx
  go_wp2_with fail
  go_loopw [4] (fun i wr => ∃ k : Nat, i = .int .i64 (k : Int) ∧ k ≤ n ∧ Aside (∀ j (h : j < ps.length), j < k → tgS (decide (j = 0)) ps[j] = true) ∧ Aside (w1 = wr)) (fun i _ => n - (intOf i).toNat)
  case atStart => exact ⟨0, rfl, by omega, (show ∀ _ _ _, _ from fun j h hj => by omega), (show _ = _ from rfl)⟩
  case round =>
    obtain ⟨k, rfl, hk, hno, hw⟩ := hrel
    have HNO := Lib.hid hno.out
    obtain rfl : w1 = wr := hw.out
    clear hno hw
    by_cases hlt : k < n
    · have t1 : decide ((k : Int) < (n : Int)) = true := decide_eq_true (by omega)
      have t2 : decide (k < n) = true := decide_eq_true hlt
      have k0 : (0 : Int) ≤ (k : Int) := by omega
      have k1 : (k : Int) < (n : Int) := by omega
      have k2 : ((k : Int)).toNat = k := by omega
      have hkl : k < ps.length := by rw [HN.out]; exact hlt
      obtain ⟨ad, rfl, _, hc⟩ := HX.out (by rw [strK_len]; omega)
      have ap := hc k _ (strK_at ps k hkl)
      clear hc
      have HBAD := Lib.hid (HNOT.out k hkl)
      have hle := HLE.out _ (List.getElem_mem hkl)
      have HNXT := Lib.hid (show tgS (decide (k = 0)) ps[k] = true → ∀ j (h : j < ps.length), j < k + 1 → tgS (decide (j = 0)) ps[j] = true from fun h0 j h hj => by
        by_cases hjk : j = k
        · subst hjk; exact h0
        · exact HNO.out j h (by omega))
      generalize ps[k] = q at *
      have HQ := Lib.hid (strOf_data q)
      obtain ⟨X, hX⟩ : ∃ X, strOf q = X := ⟨_, rfl⟩
      have HSZ := Lib.hid (show X.size = q.length by rw [← hX, strOf_size])
      have HBG := Lib.hid (fun j (h : j < X.size) => byt_get X j h)
      rw [← hX, HQ.out, hX] at HBG
      have HX0 := Lib.hid (show X.data.toList = q by rw [← hX]; rfl)
      rw [hX] at ap
      have hle2 : X.size ≤ 9223372036854775807 := by rw [HSZ.out]; exact hle
      clear hX hle
      by_cases c0 : X.size = 0
      · have u1 : ((X.size : Int) == 0) = true := by rw [beq_iff_eq]; omega
        have HY := Lib.hid (HBAD.out (tg_len (.inl (by rw [← HSZ.out]; exact c0))))
        clear c0
        go_wp2_with fail
        go_ret
        exact ⟨by rw [HY.out]; rfl, HBE.out⟩
      · have u1 : ((X.size : Int) == 0) = false := beq_eq_false_iff_ne.2 (by omega)
        by_cases c8 : 8 < X.size
        · have u2 : decide ((8 : Int) < (X.size : Int)) = true := decide_eq_true (by omega)
          have u2' : decide ((X.size : Int) > 8) = true := decide_eq_true (by omega)
          have HY := Lib.hid (HBAD.out (tg_len (.inr (.inl (by rw [← HSZ.out]; exact c8)))))
          clear c0 c8
          go_wp2_with fail
          go_ret
          exact ⟨by rw [HY.out]; rfl, HBE.out⟩
        · have u2 : decide ((8 : Int) < (X.size : Int)) = false := decide_eq_false (by omega)
          have u2' : decide ((X.size : Int) > 8) = false := decide_eq_false (by omega)
          by_cases cf : k = 0 ∧ X.size = 1
          · obtain ⟨cf1, cf2⟩ := cf
            have HY := Lib.hid (HBAD.out (tg_len (.inr (.inr ⟨decide_eq_true cf1, by rw [← HSZ.out]; exact cf2⟩))))
            have v1 : ((k : Int) == 0) = true := by rw [beq_iff_eq]; omega
            have v2 : ((X.size : Int) == 1) = true := by rw [beq_iff_eq]; omega
            clear c0 c8 cf1 cf2
            go_wp2_with fail
            go_ret
            exact ⟨by rw [HY.out]; rfl, HBE.out⟩
          · have HC0 := Lib.hid (show q.length ≠ 0 by rw [← HSZ.out]; exact c0)
            have HC8 := Lib.hid (show ¬ 8 < q.length by rw [← HSZ.out]; exact c8)
            have HCF := Lib.hid (show decide (k = 0) = true → q.length ≠ 1 from fun h1 h2 => cf ⟨of_decide_eq_true h1, by rw [HSZ.out]; exact h2⟩)
            have hcase : (k = 0 ∧ ¬ X.size = 1) ∨ ¬ k = 0 := by
              by_cases h0 : k = 0
              · exact .inl ⟨h0, fun h => cf ⟨h0, h⟩⟩
              · exact .inr h0
            clear cf
            rcases hcase with ⟨cz, c1⟩ | cz
            · have v1 : ((k : Int) == 0) = true := by rw [beq_iff_eq]; omega
              have v2 : ((X.size : Int) == 1) = false := beq_eq_false_iff_ne.2 (by omega)
              have HF := Lib.hid (show decide (k = 0) = true from decide_eq_true cz)
              clear c1
              rw [HF.out] at HBAD HNXT HCF
              clear cz c0 c8
              go_wp2_with fail
              go_loopw [5] (fun i wr => ∃ m : Nat, i = .int .i64 (m : Int) ∧ m ≤ X.size ∧ Aside (∀ j, j < m → chB true (byt q j) = true) ∧ Aside (w1 = wr)) (fun i _ => X.size - (intOf i).toNat)
              case atStart => exact ⟨0, rfl, by omega, (show ∀ _ _, _ from fun j h => by omega), (show _ = _ from rfl)⟩
              case round =>
                obtain ⟨m, rfl, hm, hin, hw⟩ := hrel
                have HIN := Lib.hid hin.out
                have e := hw.out
                subst e
                clear hin hw
                by_cases hmt : m < X.size
                · have t3 : decide ((m : Int) < (X.size : Int)) = true := decide_eq_true (by omega)
                  have t4 : decide (m < X.size) = true := decide_eq_true hmt
                  have m0 : (0 : Int) ≤ (m : Int) := by omega
                  have m1 : (m : Int) < (X.size : Int) := by omega
                  have m2 : ((m : Int)).toNat = m := by omega
                  have HG := Lib.hid (HBG.out m hmt)
                  have HL := Lib.hid (fun W => letter_any (X[m].toNat : Int) W)
                  have HD := Lib.hid (fun W => rdigit_any (X[m].toNat : Int) W)
                  have HB := Lib.hid (show chB true (byt q m) = (ltr (X[m].toNat : Int) || (!true && isD (X[m].toNat : Int))) by rw [HG.out]; rfl)
                  generalize ltr (X[m].toNat : Int) = x at *
                  generalize isD (X[m].toNat : Int) = y at *
                  have hxy : ((x || (!true && y)) = false ∧ x = false ∧ (true = true ∨ y = false)) ∨ ((x || (!true && y)) = true ∧ (x = true ∨ (x = false ∧ true = false ∧ y = true))) := by cases x <;> cases y <;> simp
                  rcases hxy with ⟨hor, rfl, hy⟩ | ⟨hor, hx⟩
                  · have HY := Lib.hid (HBAD.out (tg_bad (k := m) (by rw [← HSZ.out]; exact hmt) (by rw [HB.out]; exact hor)))
                    clear hor
                    clear hy HB
                    go_wp2_with (first | (go_at_call 26; refine (HL.out _).mono ?_; rintro e w' ⟨rfl, rfl⟩) | (go_at_call 27; refine (HD.out _).mono ?_; rintro e w' ⟨rfl, rfl⟩))
                    go_ret
                    exact ⟨by rw [HY.out]; rfl, HBE.out⟩
                  · have HIN2 := Lib.hid (show ∀ j, j < m + 1 → chB true (byt q j) = true from fun j hj => by
                      by_cases hjm : j = m
                      · subst hjm; rw [HB.out]; exact hor
                      · exact HIN.out j (by omega))
                    clear hor
                    rcases hx with rfl | ⟨rfl, hz, rfl⟩
                    · clear HB
                      go_wp2_with (first | (go_at_call 26; refine (HL.out _).mono ?_; rintro e w' ⟨rfl, rfl⟩) | (go_at_call 27; refine (HD.out _).mono ?_; rintro e w' ⟨rfl, rfl⟩))
                      go_roundw
                      case rel => exact ⟨m + 1, by go_num, by omega, HIN2.out, (show True from trivial)⟩
                      case measure => simp [intOf]; omega
                    · cases hz
                · have t3 : decide ((m : Int) < (X.size : Int)) = false := decide_eq_false (by omega)
                  have t4 : decide (m < X.size) = false := decide_eq_false hmt
                  have HY := Lib.hid (HNXT.out (tg_yes HC0.out HC8.out (fun h => by first | exact HCF.out trivial | exact HCF.out h | cases h) (fun j hj => HIN.out j (by rw [← HSZ.out] at hj; omega))))
                  go_wp2_with fail
                  go_roundw
                  case rel => exact ⟨k + 1, by go_num, by omega, HY.out, (show True from trivial)⟩
                  case measure => simp [intOf]; omega
            · have v1 : ((k : Int) == 0) = false := beq_eq_false_iff_ne.2 (by omega)
              have HF := Lib.hid (show decide (k = 0) = false from decide_eq_false cz)
              rw [HF.out] at HBAD HNXT HCF
              clear cz c0 c8
              go_wp2_with fail
              go_loopw [5] (fun i wr => ∃ m : Nat, i = .int .i64 (m : Int) ∧ m ≤ X.size ∧ Aside (∀ j, j < m → chB false (byt q j) = true) ∧ Aside (w1 = wr)) (fun i _ => X.size - (intOf i).toNat)
              case atStart => exact ⟨0, rfl, by omega, (show ∀ _ _, _ from fun j h => by omega), (show _ = _ from rfl)⟩
              case round =>
                obtain ⟨m, rfl, hm, hin, hw⟩ := hrel
                have HIN := Lib.hid hin.out
                have e := hw.out
                subst e
                clear hin hw
                by_cases hmt : m < X.size
                · have t3 : decide ((m : Int) < (X.size : Int)) = true := decide_eq_true (by omega)
                  have t4 : decide (m < X.size) = true := decide_eq_true hmt
                  have m0 : (0 : Int) ≤ (m : Int) := by omega
                  have m1 : (m : Int) < (X.size : Int) := by omega
                  have m2 : ((m : Int)).toNat = m := by omega
                  have HG := Lib.hid (HBG.out m hmt)
                  have HL := Lib.hid (fun W => letter_any (X[m].toNat : Int) W)
                  have HD := Lib.hid (fun W => rdigit_any (X[m].toNat : Int) W)
                  have HB := Lib.hid (show chB false (byt q m) = (ltr (X[m].toNat : Int) || (!false && isD (X[m].toNat : Int))) by rw [HG.out]; rfl)
                  generalize ltr (X[m].toNat : Int) = x at *
                  generalize isD (X[m].toNat : Int) = y at *
                  have hxy : ((x || (!false && y)) = false ∧ x = false ∧ (false = true ∨ y = false)) ∨ ((x || (!false && y)) = true ∧ (x = true ∨ (x = false ∧ false = false ∧ y = true))) := by cases x <;> cases y <;> simp
                  rcases hxy with ⟨hor, rfl, hy⟩ | ⟨hor, hx⟩
                  · have HY := Lib.hid (HBAD.out (tg_bad (k := m) (by rw [← HSZ.out]; exact hmt) (by rw [HB.out]; exact hor)))
                    clear hor
                    rcases hy with hy | rfl
                    · cases hy
                    · clear HB
                      go_wp2_with (first | (go_at_call 26; refine (HL.out _).mono ?_; rintro e w' ⟨rfl, rfl⟩) | (go_at_call 27; refine (HD.out _).mono ?_; rintro e w' ⟨rfl, rfl⟩))
                      go_ret
                      exact ⟨by rw [HY.out]; rfl, HBE.out⟩
                  · have HIN2 := Lib.hid (show ∀ j, j < m + 1 → chB false (byt q j) = true from fun j hj => by
                      by_cases hjm : j = m
                      · subst hjm; rw [HB.out]; exact hor
                      · exact HIN.out j (by omega))
                    clear hor
                    rcases hx with rfl | ⟨rfl, hz, rfl⟩
                    · clear HB
                      go_wp2_with (first | (go_at_call 26; refine (HL.out _).mono ?_; rintro e w' ⟨rfl, rfl⟩) | (go_at_call 27; refine (HD.out _).mono ?_; rintro e w' ⟨rfl, rfl⟩))
                      go_roundw
                      case rel => exact ⟨m + 1, by go_num, by omega, HIN2.out, (show True from trivial)⟩
                      case measure => simp [intOf]; omega
                    · clear hz HB
                      go_wp2_with (first | (go_at_call 26; refine (HL.out _).mono ?_; rintro e w' ⟨rfl, rfl⟩) | (go_at_call 27; refine (HD.out _).mono ?_; rintro e w' ⟨rfl, rfl⟩))
                      go_roundw
                      case rel => exact ⟨m + 1, by go_num, by omega, HIN2.out, (show True from trivial)⟩
                      case measure => simp [intOf]; omega
                · have t3 : decide ((m : Int) < (X.size : Int)) = false := decide_eq_false (by omega)
                  have t4 : decide (m < X.size) = false := decide_eq_false hmt
                  have HY := Lib.hid (HNXT.out (tg_yes HC0.out HC8.out (fun h => by first | exact HCF.out trivial | exact HCF.out h | cases h) (fun j hj => HIN.out j (by rw [← HSZ.out] at hj; omega))))
                  go_wp2_with fail
                  go_roundw
                  case rel => exact ⟨k + 1, by go_num, by omega, HY.out, (show True from trivial)⟩
                  case measure => simp [intOf]; omega
    · have t1 : decide ((k : Int) < (n : Int)) = false := decide_eq_false (by omega)
      have t2 : decide (k < n) = false := decide_eq_false hlt
      have HY := Lib.hid (show Z = true from HYES.out fun j hj => HNO.out j hj (by rw [HN.out] at hj; omega))
      go_wp2_with fail
      go_ret
      exact ⟨by rw [HY.out]; rfl, HBE.out⟩
end Go.Proofs.Ytnfngjaldgellaa.Wo
namespace Go.Proofs.Ytnfngjaldgellaa.Wo
open Go.Proofs Go.RowKit
open Go.Proofs.Ytnfngjaldgellaa.Utf
open Go.Proofs.Ytnfngjaldgellaa.Nu

def AtI (l : List UInt8) (m : Nat) (a : Int) : Prop :=
  (a = -1 ∧ ∀ j, m ≤ j → j < l.length → byt l j ≠ 58) ∨ ∃ q : Nat, a = q ∧ m ≤ q ∧ q < l.length ∧ byt l q = 58 ∧ ∀ j, m ≤ j → j < q → byt l j ≠ 58
section
variable {l : List UInt8} {m : Nat} {a : Int}
theorem AtI.start : AtI l l.length (-1) := .inl ⟨rfl, fun j h1 h2 => by omega⟩
theorem AtI.hit (hm : m < l.length) (h : byt l m = 58) : AtI l m m := .inr ⟨m, rfl, Nat.le_refl _, hm, h, fun j h1 h2 => by omega⟩
theorem AtI.miss (h : AtI l (m + 1) a) (hm : byt l m ≠ 58) : AtI l m a := by
  rcases h with ⟨rfl, h⟩ | ⟨q, rfl, h1, h2, h3, h4⟩
  · exact .inl ⟨rfl, fun j j1 j2 => by
      by_cases e : j = m
      · subst e; exact hm
      · exact h j (by omega) j2⟩
  · exact .inr ⟨q, rfl, by omega, h2, h3, fun j j1 j2 => by
      by_cases e : j = m
      · subst e; exact hm
      · exact h4 j (by omega) j2⟩
theorem findIdx_at {p : UInt8 → Bool} : ∀ {l : List UInt8} {q : Nat} (hq : q < l.length), p l[q] = true → (∀ j (h : j < q), p (l[j]'(by omega)) = false) → l.findIdx p = q
  | x :: r, 0, _, h, _ => by
    have h' : p x = true := h
    rw [List.findIdx_cons, h']; rfl
  | x :: r, q + 1, hq, h, h2 => by
    have h' : p x = false := h2 0 (by omega)
    rw [List.findIdx_cons, h']
    show List.findIdx p r + 1 = q + 1
    rw [findIdx_at (q := q) (l := r) (by simpa using hq) h (fun j hj => h2 (j + 1) (by omega))]
theorem AtI.col (h : AtI l 0 a) : (a = -1 ∧ colN l = l.length) ∨ (a = (colN l : Int) ∧ colN l < l.length) := by
  rcases h with ⟨rfl, h⟩ | ⟨q, rfl, _, h2, h3, h4⟩
  · left
    refine ⟨rfl, ?_⟩
    exact col_no (mem_no fun j hj => h j (by omega) hj)
  · right
    have : colN l = q := by
      unfold colN
      refine findIdx_at h2 ?_ fun j hj => ?_
      · rw [byt_in h2] at h3
        rw [beq_iff_eq]
        exact UInt8.toNat_inj.1 (by show l[q].toNat = 58; omega)
      · have := h4 j (by omega) hj
        rw [byt_in (by omega)] at this
        rw [beq_eq_false_iff_ne]
        intro e
        rw [e] at this
        exact this rfl
    rw [this]
    exact ⟨rfl, h2⟩
theorem uri_short (h : ¬ (1 ≤ colN l ∧ colN l + 1 < l.length)) : uriS l = false := by
  unfold uriS
  rw [decide_eq_false h]; rfl
theorem uri_fst (h : ltr (byt l 0) = false) : uriS l = false := by
  unfold uriS
  rw [h]; simp
theorem uri_sch {k : Nat} (hk : k < colN l) (hk2 : k < l.length) (h : schB (byt l k) = false) : uriS l = false := by
  unfold uriS
  have : (l.take (colN l)).all (fun x => schB (x.toNat : Int)) = false := List.all_eq_false.2 ⟨l[k], by
    have h1 : k < (l.take (colN l)).length := by rw [List.length_take]; omega
    have h2 : (l.take (colN l))[k] = l[k] := List.getElem_take
    rw [← h2]; exact List.getElem_mem h1, by rw [byt_in hk2] at h; rw [h]; simp⟩
  rw [this]; simp
theorem uri_bad {k : Nat} (hk2 : k < l.length) (h : uriB (byt l k) = false) : uriS l = false := by
  unfold uriS
  rw [List.all_eq_false.2 ⟨l[k], List.getElem_mem hk2, by rw [byt_in hk2] at h; rw [h]; simp⟩, Bool.and_false]
theorem uri_yes (h0 : 1 ≤ colN l) (h1 : colN l + 1 < l.length) (h2 : ltr (byt l 0) = true) (h3 : ∀ j, j < l.length → (j < colN l → schB (byt l j) = true) ∧ uriB (byt l j) = true) : uriS l = true := by
  unfold uriS
  rw [decide_eq_true ⟨h0, h1⟩, h2, List.all_eq_true.2 (fun x hx => by
    obtain ⟨j, hj, rfl⟩ := List.getElem_of_mem hx
    have hj2 : j < colN l ∧ j < l.length := by rw [List.length_take] at hj; omega
    have := (h3 j hj2.2).1 hj2.1
    rw [byt_in hj2.2] at this
    rwa [List.getElem_take]), List.all_eq_true.2 (fun x hx => by
    obtain ⟨j, hj, rfl⟩ := List.getElem_of_mem hx
    have := (h3 j hj).2
    rwa [byt_in hj] at this)]
  rfl
end
theorem sch_cases {b : Int} (h : schB b = true) : ltr b = true ∨ (ltr b = false ∧ isD b = true) ∨ (ltr b = false ∧ isD b = false ∧ (b = 43 ∨ b = 45 ∨ b = 46)) := by
  unfold schB at h
  cases hl : ltr b
  · cases hd : isD b
    · rw [hl, hd] at h
      exact .inr (.inr ⟨rfl, rfl, of_decide_eq_true h⟩)
    · exact .inr (.inl ⟨rfl, rfl⟩)
  · exact .inl rfl
theorem sch_none {b : Int} (h : schB b = false) : ltr b = false ∧ isD b = false ∧ b ≠ 43 ∧ b ≠ 45 ∧ b ≠ 46 := by
  unfold schB at h
  simp only [Bool.or_eq_false_iff, decide_eq_false_iff_not] at h
  exact ⟨h.1.1, h.1.2, fun e => h.2 (.inl e), fun e => h.2 (.inr (.inl e)), fun e => h.2 (.inr (.inr e))⟩

set_option maxRecDepth 100000 in
set_option maxHeartbeats 2000000 in
theorem rUri_any (s : ByteArray) (w : World) (hs : s.size ≤ 9223372036854775807) :
    Calls Try.prog 14 #[.string s] w fun e w' => e = .returned (.bool (uriS s.data.toList)) ∧ w = w' := by
  obtain ⟨l, hl⟩ : ∃ l, s.data.toList = l := ⟨_, rfl⟩
  have HN := Lib.hid (show l.length = s.size by rw [← hl, len_data])
  have HBG := Lib.hid (fun j (h : j < s.size) => byt_get s j h)
  rw [hl] at HBG ⊢
  clear hl
  go_enter Try.func14, Try.ntmps14
  go_wp2_with fail
  go_loopw [3, 4] (fun a i wr => ∃ (m : Nat) (az : Int), i = .int .i64 ((m : Int) - 1) ∧ m ≤ s.size ∧ a = .int .i64 az ∧ Aside (AtI l m az) ∧ Aside (w = wr)) (fun _ i _ => (intOf i + 1).toNat)
  case atStart => exact ⟨s.size, -1, by go_num, Nat.le_refl _, rfl, (show AtI _ _ _ from by rw [← HN.out]; exact AtI.start), (show _ = _ from rfl)⟩
  case round =>
    obtain ⟨m, az, rfl, hm, rfl, hat, hw⟩ := hrel
    have HAT := Lib.hid hat.out
    have HW := Lib.hid hw.out
    clear hat hw
    by_cases h0 : m = 0
    · subst h0
      rcases HAT.out.col with ⟨rfl, hcol⟩ | ⟨rfl, hcol⟩
      · have HE := Lib.hid (uri_short (l := l) (by rw [hcol]; omega))
        clear hcol
        rw [show ((0 : Nat) : Int) - 1 = -1 from rfl]
        go_wp2_with fail
        go_ret
        exact ⟨by rw [HE.out]; rfl, HW.out⟩
      · obtain ⟨q, hq⟩ : ∃ q, colN l = q := ⟨_, rfl⟩
        have HQ := Lib.hid hq
        rw [hq] at hcol ⊢
        have hqs : q < s.size := by rw [← HN.out]; exact hcol
        clear hq hcol
        rw [show ((0 : Nat) : Int) - 1 = -1 from rfl]
        have f0 : (0 : Int) < (s.size : Int) := by omega
        by_cases c1 : q = 0
        · have u1 : decide ((q : Int) < 1) = true := decide_eq_true (by omega)
          have HE := Lib.hid (uri_short (l := l) (by rw [HQ.out]; omega))
          clear c1
          go_wp2_with fail
          go_ret
          exact ⟨by rw [HE.out]; rfl, HW.out⟩
        · have u1 : decide ((q : Int) < 1) = false := decide_eq_false (by omega)
          by_cases c2 : q + 1 = s.size
          · have u2 : ((q : Int) == (s.size : Int) - 1) = true := by rw [beq_iff_eq]; omega
            have HE := Lib.hid (uri_short (l := l) (by rw [HQ.out, HN.out]; omega))
            clear c1 c2
            go_wp2_with fail
            go_ret
            exact ⟨by rw [HE.out]; rfl, HW.out⟩
          · have u2 : ((q : Int) == (s.size : Int) - 1) = false := beq_eq_false_iff_ne.2 (by omega)
            have HQ1 := Lib.hid (show 1 ≤ colN l by rw [HQ.out]; omega)
            have HQ2 := Lib.hid (show colN l + 1 < l.length by rw [HQ.out, HN.out]; omega)
            have HG0 := Lib.hid (HBG.out 0 (by omega))
            have HL := Lib.hid (fun W => letter_any (s[0].toNat : Int) W)
            clear c1 c2
            cases hx : ltr (s[0].toNat : Int) with
            | false =>
              have HE := Lib.hid (uri_fst (l := l) (by rw [HG0.out]; exact hx))
              rw [hx] at HL
              clear hx
              go_wp2_with (go_at_call 26; refine (HL.out _).mono ?_; rintro e w' ⟨rfl, rfl⟩)
              go_ret
              exact ⟨by rw [HE.out]; rfl, HW.out⟩
            | true =>
              have HX := Lib.hid (show ltr (byt l 0) = true by rw [HG0.out]; exact hx)
              rw [hx] at HL
              clear hx
              go_wp2_with (go_at_call 26; refine (HL.out _).mono ?_; rintro e w' ⟨rfl, rfl⟩)
              clear HL u1 u2
              go_loopw [5] (fun i wq => ∃ k : Nat, i = .int .i64 (k : Int) ∧ k ≤ s.size ∧ Aside (∀ j, j < k → (j < colN l → schB (byt l j) = true) ∧ uriB (byt l j) = true) ∧ Aside (w = wq)) (fun i _ => s.size - (intOf i).toNat)
              case atStart => exact ⟨0, rfl, by omega, (show ∀ _ _, _ from fun j h => by omega), HW.out⟩
              case round =>
                obtain ⟨k, rfl, hk, hin, hw⟩ := hrel
                have HIN := Lib.hid hin.out
                have HW2 := Lib.hid hw.out
                clear hin hw
                by_cases hks : k < s.size
                · have t3 : decide ((k : Int) < (s.size : Int)) = true := decide_eq_true (by omega)
                  have t4 : decide (k < s.size) = true := decide_eq_true hks
                  have k0 : (0 : Int) ≤ (k : Int) := by omega
                  have k1 : (k : Int) < (s.size : Int) := by omega
                  have k2 : ((k : Int)).toNat = k := by omega
                  have HG := Lib.hid (HBG.out k hks)
                  have b0 : (0 : Int) ≤ (s[k].toNat : Int) := by omega
                  have b1 : (s[k].toNat : Int) ≤ 255 := by have := s[k].toNat_lt; omega
                  have HL := Lib.hid (fun W => letter_any (s[k].toNat : Int) W)
                  have HD := Lib.hid (fun W => rdigit_any (s[k].toNat : Int) W)
                  have HH := Lib.hid (fun W => has_any ⟨#[34, 60, 62, 92, 94, 96, 123, 124, 125]⟩ (s[k].toNat : Int) W (by decide) b0 b1)
                  have HE9 := Lib.hid (show (⟨#[34, 60, 62, 92, 94, 96, 123, 124, 125]⟩ : ByteArray).data.toList = [34, 60, 62, 92, 94, 96, 123, 124, 125] from rfl)
                  rw [HE9.out] at HH
                  have HB := Lib.hid (show uriB (s[k].toNat : Int) = (decide (33 ≤ (s[k].toNat : Int) ∧ (s[k].toNat : Int) ≤ 126) && !decide (0 ≤ Lib.indexByte [34, 60, 62, 92, 94, 96, 123, 124, 125] (s[k].toNat : Int).toNat.toUInt8)) by rw [uri_bytes b0 b1]; rfl)
                  generalize decide (0 ≤ Lib.indexByte [34, 60, 62, 92, 94, 96, 123, 124, 125] (s[k].toNat : Int).toNat.toUInt8) = r at *
                  have HKL := Lib.hid (show k < l.length by rw [HN.out]; exact hks)
                  have HNX := Lib.hid (show ((k < colN l → schB (byt l k) = true) ∧ uriB (byt l k) = true) → ∀ j, j < k + 1 → (j < colN l → schB (byt l j) = true) ∧ uriB (byt l j) = true from fun h j hj => by
                    by_cases hjk : j = k
                    · subst hjk; exact h
                    · exact HIN.out j (by omega))
                  clear b0 b1 HE9
                  by_cases hkq : k < q
                  · have u1 : decide ((k : Int) < (q : Int)) = true := decide_eq_true (by omega)
                    have u2 : decide (k < q) = true := decide_eq_true hkq
                    cases hsch : schB (s[k].toNat : Int) with
                    | false =>
                      have HE := Lib.hid (uri_sch (l := l) (k := k) (by rw [HQ.out]; exact hkq) HKL.out (by rw [HG.out]; exact hsch))
                      obtain ⟨x1, x2, x3, x4, x5⟩ := sch_none hsch
                      rw [x1] at HL
                      rw [x2] at HD
                      have v1 : ((s[k].toNat : Int) != 43) = true := bne_iff_ne.2 x3
                      have v2 : ((s[k].toNat : Int) != 45) = true := bne_iff_ne.2 x4
                      have v3 : ((s[k].toNat : Int) != 46) = true := bne_iff_ne.2 x5
                      clear x1 x2 x3 x4 x5 hsch hkq HB
                      go_wp2_with (first | (go_at_call 26; refine (HL.out _).mono ?_; rintro e w' ⟨rfl, rfl⟩) | (go_at_call 27; refine (HD.out _).mono ?_; rintro e w' ⟨rfl, rfl⟩) | (go_at_call 30; refine (HH.out _).mono ?_; rintro e w' ⟨rfl, rfl⟩))
                      go_ret
                      exact ⟨by rw [HE.out]; rfl, HW2.out⟩
                    | true =>
                      have huri := sch_uri hsch
                      have HN2 := Lib.hid (HNX.out ⟨fun _ => by rw [HG.out]; exact hsch, by rw [HG.out]; exact huri⟩)
                      rw [HB.out, Bool.and_eq_true, Bool.not_eq_true', decide_eq_true_eq] at huri
                      obtain ⟨⟨y1, y2⟩, rfl⟩ := huri
                      have z1 : decide ((s[k].toNat : Int) < 33) = false := decide_eq_false (by omega)
                      have z2 : decide ((126 : Int) < (s[k].toNat : Int)) = false := decide_eq_false (by omega)
                      have z3 : decide ((s[k].toNat : Int) > 126) = false := decide_eq_false (by omega)
                      have hc := sch_cases hsch
                      clear y1 y2 hsch hkq HB
                      rcases hc with x1 | ⟨x1, x2⟩ | ⟨x1, x2, x3 | x3 | x3⟩
                      · rw [x1] at HL
                        clear x1
                        go_wp2_with (first | (go_at_call 26; refine (HL.out _).mono ?_; rintro e w' ⟨rfl, rfl⟩) | (go_at_call 27; refine (HD.out _).mono ?_; rintro e w' ⟨rfl, rfl⟩) | (go_at_call 30; refine (HH.out _).mono ?_; rintro e w' ⟨rfl, rfl⟩))
                        go_roundw
                        case rel => exact ⟨k + 1, by go_num, by omega, HN2.out, HW2.out⟩
                        case measure => simp [intOf]; omega
                      · rw [x1] at HL
                        rw [x2] at HD
                        clear x1 x2
                        go_wp2_with (first | (go_at_call 26; refine (HL.out _).mono ?_; rintro e w' ⟨rfl, rfl⟩) | (go_at_call 27; refine (HD.out _).mono ?_; rintro e w' ⟨rfl, rfl⟩) | (go_at_call 30; refine (HH.out _).mono ?_; rintro e w' ⟨rfl, rfl⟩))
                        go_roundw
                        case rel => exact ⟨k + 1, by go_num, by omega, HN2.out, HW2.out⟩
                        case measure => simp [intOf]; omega
                      · rw [x1] at HL
                        rw [x2] at HD
                        have v43 : ((s[k].toNat : Int) != 43) = false := by rw [x3]; rfl
                        clear x1 x2 x3
                        go_wp2_with (first | (go_at_call 26; refine (HL.out _).mono ?_; rintro e w' ⟨rfl, rfl⟩) | (go_at_call 27; refine (HD.out _).mono ?_; rintro e w' ⟨rfl, rfl⟩) | (go_at_call 30; refine (HH.out _).mono ?_; rintro e w' ⟨rfl, rfl⟩))
                        go_roundw
                        case rel => exact ⟨k + 1, by go_num, by omega, HN2.out, HW2.out⟩
                        case measure => simp [intOf]; omega
                      · rw [x1] at HL
                        rw [x2] at HD
                        have v43 : ((s[k].toNat : Int) != 43) = true := by rw [x3]; rfl
                        have v45 : ((s[k].toNat : Int) != 45) = false := by rw [x3]; rfl
                        clear x1 x2 x3
                        go_wp2_with (first | (go_at_call 26; refine (HL.out _).mono ?_; rintro e w' ⟨rfl, rfl⟩) | (go_at_call 27; refine (HD.out _).mono ?_; rintro e w' ⟨rfl, rfl⟩) | (go_at_call 30; refine (HH.out _).mono ?_; rintro e w' ⟨rfl, rfl⟩))
                        go_roundw
                        case rel => exact ⟨k + 1, by go_num, by omega, HN2.out, HW2.out⟩
                        case measure => simp [intOf]; omega
                      · rw [x1] at HL
                        rw [x2] at HD
                        have v43 : ((s[k].toNat : Int) != 43) = true := by rw [x3]; rfl
                        have v45 : ((s[k].toNat : Int) != 45) = true := by rw [x3]; rfl
                        have v46 : ((s[k].toNat : Int) != 46) = false := by rw [x3]; rfl
                        clear x1 x2 x3
                        go_wp2_with (first | (go_at_call 26; refine (HL.out _).mono ?_; rintro e w' ⟨rfl, rfl⟩) | (go_at_call 27; refine (HD.out _).mono ?_; rintro e w' ⟨rfl, rfl⟩) | (go_at_call 30; refine (HH.out _).mono ?_; rintro e w' ⟨rfl, rfl⟩))
                        go_roundw
                        case rel => exact ⟨k + 1, by go_num, by omega, HN2.out, HW2.out⟩
                        case measure => simp [intOf]; omega
                  · have u1 : decide ((k : Int) < (q : Int)) = false := decide_eq_false (by omega)
                    have u2 : decide (k < q) = false := decide_eq_false hkq
                    have hb : (s[k].toNat : Int) < 33 ∨ (126 : Int) < (s[k].toNat : Int) ∨ (33 ≤ (s[k].toNat : Int) ∧ (s[k].toNat : Int) ≤ 126) := by omega
                    rcases hb with hb | hb | ⟨hb1, hb2⟩
                    · have HE := Lib.hid (uri_bad (l := l) (k := k) HKL.out (by rw [HG.out, HB.out, decide_eq_false (by omega)]; rfl))
                      have z1 : decide ((s[k].toNat : Int) < 33) = true := decide_eq_true hb
                      clear hb hkq HB
                      go_wp2_with (first | (go_at_call 26; refine (HL.out _).mono ?_; rintro e w' ⟨rfl, rfl⟩) | (go_at_call 27; refine (HD.out _).mono ?_; rintro e w' ⟨rfl, rfl⟩) | (go_at_call 30; refine (HH.out _).mono ?_; rintro e w' ⟨rfl, rfl⟩))
                      go_ret
                      exact ⟨by rw [HE.out]; rfl, HW2.out⟩
                    · have HE := Lib.hid (uri_bad (l := l) (k := k) HKL.out (by rw [HG.out, HB.out, decide_eq_false (by omega)]; rfl))
                      have z1 : decide ((s[k].toNat : Int) < 33) = false := decide_eq_false (by omega)
                      have z2 : decide ((126 : Int) < (s[k].toNat : Int)) = true := decide_eq_true (by omega)
                      have z3 : decide ((s[k].toNat : Int) > 126) = true := decide_eq_true (by omega)
                      clear hb hkq HB
                      go_wp2_with (first | (go_at_call 26; refine (HL.out _).mono ?_; rintro e w' ⟨rfl, rfl⟩) | (go_at_call 27; refine (HD.out _).mono ?_; rintro e w' ⟨rfl, rfl⟩) | (go_at_call 30; refine (HH.out _).mono ?_; rintro e w' ⟨rfl, rfl⟩))
                      go_ret
                      exact ⟨by rw [HE.out]; rfl, HW2.out⟩
                    · have z1 : decide ((s[k].toNat : Int) < 33) = false := decide_eq_false (by omega)
                      have z2 : decide ((126 : Int) < (s[k].toNat : Int)) = false := decide_eq_false (by omega)
                      have z3 : decide ((s[k].toNat : Int) > 126) = false := decide_eq_false (by omega)
                      cases r with
                      | true =>
                        have HE := Lib.hid (uri_bad (l := l) (k := k) HKL.out (by rw [HG.out, HB.out]; simp))
                        clear hb1 hb2 hkq HB
                        go_wp2_with (first | (go_at_call 26; refine (HL.out _).mono ?_; rintro e w' ⟨rfl, rfl⟩) | (go_at_call 27; refine (HD.out _).mono ?_; rintro e w' ⟨rfl, rfl⟩) | (go_at_call 30; refine (HH.out _).mono ?_; rintro e w' ⟨rfl, rfl⟩))
                        go_ret
                        exact ⟨by rw [HE.out]; rfl, HW2.out⟩
                      | false =>
                        have HN2 := Lib.hid (HNX.out ⟨fun h => by rw [HQ.out] at h; exact absurd h hkq, by rw [HG.out, HB.out, decide_eq_true ⟨hb1, hb2⟩]; rfl⟩)
                        clear hb1 hb2 hkq HB
                        go_wp2_with (first | (go_at_call 26; refine (HL.out _).mono ?_; rintro e w' ⟨rfl, rfl⟩) | (go_at_call 27; refine (HD.out _).mono ?_; rintro e w' ⟨rfl, rfl⟩) | (go_at_call 30; refine (HH.out _).mono ?_; rintro e w' ⟨rfl, rfl⟩))
                        go_roundw
                        case rel => exact ⟨k + 1, by go_num, by omega, HN2.out, HW2.out⟩
                        case measure => simp [intOf]; omega
                · have t3 : decide ((k : Int) < (s.size : Int)) = false := decide_eq_false (by omega)
                  have t4 : decide (k < s.size) = false := decide_eq_false hks
                  have HE := Lib.hid (uri_yes (l := l) HQ1.out HQ2.out HX.out (fun j hj => HIN.out j (by rw [HN.out] at hj; omega)))
                  go_wp2_with fail
                  go_ret
                  exact ⟨by rw [HE.out]; rfl, HW2.out⟩
    · obtain ⟨p, rfl⟩ : ∃ p, m = p + 1 := ⟨m - 1, by omega⟩
      have em : ((p + 1 : Nat) : Int) - 1 = (p : Int) := by omega
      rw [em]
      have t1 : decide ((p : Int) ≥ 0) = true := decide_eq_true (by omega)
      have t2 : decide ((0 : Int) ≤ (p : Int)) = true := decide_eq_true (by omega)
      have k0 : (0 : Int) ≤ (p : Int) := by omega
      have k1 : (p : Int) < (s.size : Int) := by omega
      have k2 : ((p : Int)).toNat = p := by omega
      have hps : p < s.size := by omega
      have HG := Lib.hid (HBG.out p hps)
      by_cases hc : (s[p].toNat : Int) = 58
      · have u1 : ((s[p].toNat : Int) == 58) = true := by rw [hc]; rfl
        have HA2 := Lib.hid (AtI.hit (l := l) (m := p) (by rw [HN.out]; exact hps) (by rw [HG.out]; exact hc))
        clear hc em h0
        go_wp2_with fail
        go_roundw
        case rel => exact ⟨p, p, by go_num, by omega, rfl, HA2.out, HW.out⟩
        case measure => simp [intOf]
      · have u1 : ((s[p].toNat : Int) == 58) = false := beq_eq_false_iff_ne.2 hc
        have HA2 := Lib.hid (HAT.out.miss (by rw [HG.out]; exact hc))
        clear hc em h0
        go_wp2_with fail
        go_roundw
        case rel => exact ⟨p, az, by go_num, by omega, rfl, HA2.out, HW.out⟩
        case measure => simp [intOf]
end Go.Proofs.Ytnfngjaldgellaa.Wo
namespace Go.Proofs.Ytnfngjaldgellaa.Wo
open Go.Proofs Go.RowKit
open Go.Proofs.Ytnfngjaldgellaa.Utf
open Go.Proofs.Ytnfngjaldgellaa.Nu

theorem spl_count (c : UInt8) : ∀ l : List UInt8, (spl c l).length ≤ l.length + 1
  | [] => by simp [spl]
  | x :: r => by
    have h := spl_count c r
    rw [spl]
    split
    · simp; omega
    · cases hr : spl c r with
      | nil => exact absurd hr (spl_ne c r)
      | cons p t =>
        rw [hr] at h
        simp at h ⊢; omega

set_option maxRecDepth 100000 in
set_option maxHeartbeats 1000000 in
theorem forms_walk (s : ByteArray) (w : World) (hs : s.size ≤ 1048576) :
    Calls Try.prog 3 #[.string s] w fun e w' => e = .returned (.bool true) ∧ Below w.heap.size w w' := by
  have hs2 : s.size ≤ 9223372036854775807 := by omega
  have hn : ∀ c, (spl c s.data.toList).length ≤ 4398046511104 := fun c => by
    have := spl_count c s.data.toList
    rw [len_data] at this
    omega
  have C0 := Lib.hid (fun wx => awake_any12 wx)
  have C1 := Lib.hid (fun wx => Media_any s wx hs2)
  have C2 := Lib.hid (fun wx => rMedia_any s wx hs2 (hn 47))
  have C3 := Lib.hid (fun wx => Lang_any s wx hs2)
  have C4 := Lib.hid (fun wx => rLang_any s wx hs2 (hn 45))
  have C5 := Lib.hid (fun wx => Uri_any s wx hs2)
  have C6 := Lib.hid (fun wx => rUri_any s wx hs2)
  have C7 := Lib.hid (fun wx => Other_any s wx hs2)
  have C8 := Lib.hid (fun wx => rOther_any s wx hs2 (hn 58))
  clear hn
  generalize mediaS s.data.toList = m1 at *
  generalize langS s.data.toList = m2 at *
  generalize uriS s.data.toList = m3 at *
  generalize othS s.data.toList = m4 at *
  go_enter Try.func3, Try.ntmps3
  go_wp2_with fail
  refine (C0.out _).mono ?_
  rintro e x0 ⟨rfl, hb⟩
  have HB0 := Lib.hid hb
  clear hb
  go_wp2_with fail
  refine (C1.out _).mono ?_
  rintro e x1 ⟨rfl, hb⟩
  have HB1 := Lib.hid (HB0.out.trans (hb.mono HB0.out.size))
  clear hb
  go_wp2_with fail
  refine (C2.out _).mono ?_
  rintro e x2 ⟨rfl, hb⟩
  have HB2 := Lib.hid (HB1.out.trans (hb.mono HB1.out.size))
  clear hb
  have e1 : (m1 == m1) = true := beq_self_eq_true _
  go_wp2_with fail
  refine (C3.out _).mono ?_
  rintro e x3 ⟨rfl, hb⟩
  have HB3 := Lib.hid (HB2.out.trans (hb.mono HB2.out.size))
  clear hb
  go_wp2_with fail
  refine (C4.out _).mono ?_
  rintro e x4 ⟨rfl, hb⟩
  have HB4 := Lib.hid (HB3.out.trans (hb.mono HB3.out.size))
  clear hb
  have e2 : (m2 == m2) = true := beq_self_eq_true _
  go_wp2_with fail
  refine (C5.out _).mono ?_
  rintro e x5 ⟨rfl, hb⟩
  have HB5 := Lib.hid (HB4.out.trans (hb.mono HB4.out.size))
  clear hb
  go_wp2_with fail
  refine (C6.out _).mono ?_
  rintro e x6 ⟨rfl, rfl⟩
  have e3 : (m3 == m3) = true := beq_self_eq_true _
  go_wp2_with fail
  refine (C7.out _).mono ?_
  rintro e x7 ⟨rfl, hb⟩
  have HB7 := Lib.hid (HB5.out.trans (hb.mono HB5.out.size))
  clear hb
  go_wp2_with fail
  refine (C8.out _).mono ?_
  rintro e x8 ⟨rfl, hb⟩
  have HB8 := Lib.hid (HB7.out.trans (hb.mono HB7.out.size))
  clear hb
  have e4 : (m4 == m4) = true := beq_self_eq_true _
  go_wp2_with fail
  go_ret
  exact ⟨by first | rfl | (rw [e4]), HB8.out⟩
end Go.Proofs.Ytnfngjaldgellaa.Wo
