/- Merged: WoF WoH WoW3. -/
import Derived.Test.YtnfngjaldgellaaTt2
import Derived.Deep.AppendLies
import Derived.BigQuiet
namespace Go.Proofs.Ytnfngjaldgellaa.Wo
open Go.Proofs Go.RowKit
open Go.Proofs.Ytnfngjaldgellaa.Utf
open Go.Proofs.Ytnfngjaldgellaa.Nu

theorem infoSt : (Try.prog.info? 9).map (fun i => (i.zero, i.size, i.bytes)) = some (some (.string ⟨#[]⟩), 1, 16) := by kernel_rfl
def strK (ps : List (List UInt8)) : List Value := ps.map fun p => .string (strOf p)
theorem mem_no {l : List UInt8} {c : UInt8} (h : ∀ j, j < l.length → byt l j ≠ (c.toNat : Int)) : c ∉ l := by
  intro hm
  obtain ⟨j, hj, e⟩ := List.getElem_of_mem hm
  exact h j hj (by rw [byt_in hj, e])
theorem byt_dr (l : List UInt8) (q k : Nat) : byt (l.drop q) k = byt l (q + k) := by unfold byt; simp [List.getD_eq_getElem?_getD]
structure SpI (c : UInt8) (l : List UInt8) (k f : Nat) (ps : List (List UInt8)) : Prop where
  fk : f ≤ k
  kl : k ≤ l.length
  eq : spl c l = ps ++ spl c (l.drop f)
  no : ∀ j, f ≤ j → j < k → byt l j ≠ (c.toNat : Int)
section
variable {c : UInt8} {l : List UInt8} {k f : Nat} {ps : List (List UInt8)}
theorem SpI.start : SpI c l 0 0 [] := ⟨Nat.le_refl _, Nat.zero_le _, by rw [List.drop_zero]; rfl, fun j h1 h2 => by omega⟩
theorem SpI.more (h : SpI c l k f ps) (hk : k < l.length) (hc : byt l k ≠ (c.toNat : Int)) : SpI c l (k + 1) f ps :=
  ⟨Nat.le_succ_of_le h.fk, hk, h.eq, fun j h1 h2 => by
    by_cases hjk : j = k
    · subst hjk; exact hc
    · exact h.no j h1 (by omega)⟩
theorem SpI.mid (h : SpI c l k f ps) : c ∉ (l.drop f).take (k - f) := mem_no fun j hj => by
  have hj2 : j < k - f := by
    rw [List.length_take] at hj
    omega
  have hkl := h.kl
  have hj3 : j < (l.drop f).length := by rw [List.length_drop]; omega
  rw [byt_in hj, List.getElem_take, ← byt_in (l := l.drop f) hj3, byt_dr]
  exact h.no _ (by omega) (by omega)
theorem SpI.cut (h : SpI c l k f ps) (hk : k < l.length) (hc : byt l k = (c.toNat : Int)) : SpI c l (k + 1) (k + 1) (ps ++ [(l.drop f).take (k - f)]) := by
  refine ⟨Nat.le_refl _, hk, ?_, fun j h1 h2 => by omega⟩
  have hfk := h.fk
  have e : l.drop f = (l.drop f).take (k - f) ++ c :: l.drop (k + 1) := by
    conv => lhs; rw [← List.take_append_drop (k - f) (l.drop f)]
    rw [List.drop_drop, show f + (k - f) = k by omega, List.drop_eq_getElem_cons hk]
    rw [byt_in hk] at hc
    rw [show l[k] = c from UInt8.toNat_inj.1 (by omega)]
  rw [h.eq]
  conv => lhs; rw [e]
  rw [spl_app, spl_no h.mid, List.append_assoc]
theorem SpI.end_ (h : SpI c l k f ps) (hk : k = l.length) : spl c l = ps ++ [l.drop f] := by
  rw [h.eq, spl_no]
  have := h.mid
  rwa [List.take_of_length_le (by rw [List.length_drop]; omega)] at this
theorem SpI.room (h : SpI c l k f ps) : ps.length + 1 ≤ (spl c l).length := by
  rw [h.eq, List.length_append]
  have := List.length_pos_iff.2 (spl_ne c (l.drop f))
  omega
end
def GivesPs (ps : List (List UInt8)) (w : World) (e : Ending) (w' : World) : Prop :=
  ∃ v, e = .returned v ∧ w'.ownsRow w.heap.size 9 1 v ps.length (strK ps) ∧ Below w.heap.size w w'
theorem ext_mid (s : ByteArray) (f k : Nat) : s.extract f k = strOf ((s.data.toList.drop f).take (k - f)) := by
  apply ByteArray.ext
  rw [ByteArray.data_extract]
  apply Array.toList_inj.1
  simp [strOf, Array.toList_extract, List.extract]

set_option maxRecDepth 100000 in
set_option maxHeartbeats 2000000 in
theorem Split_any (s : ByteArray) (c : UInt8) (w : World) (hs : s.size ≤ 9223372036854775807) (hn : (spl c s.data.toList).length ≤ 4398046511104) :
    Calls Try.prog 19 #[.string s, .int .u8 (c.toNat : Int)] w (GivesPs (spl c s.data.toList) w) := by
  obtain ⟨i1, hj, hy0, hy1, hy2⟩ := info_parts infoSt
  have HLEN := Lib.hid (len_data s)
  have HN := Lib.hid hn
  clear hn
  go_enter Try.func19, Try.ntmps19
  go_wp2_with fail
  go_loopw [5, 6, 7] (fun v fv i wr => ∃ (k f : Nat) (ps : List (List UInt8)), i = .int .i64 (k : Int) ∧ fv = .int .i64 (f : Int) ∧ k ≤ s.size ∧ f ≤ k ∧ ps.length + 1 ≤ 4398046511104 ∧ Aside (SpI c s.data.toList k f ps) ∧ Aside (wr.ownsRow w.heap.size 9 1 v ps.length (strK ps)) ∧ Aside (Below w.heap.size w wr)) (fun _ _ i _ => s.size - (intOf i).toNat)
  case atStart => exact ⟨0, 0, [], rfl, rfl, by omega, by omega, by simp, (show SpI _ _ _ _ _ from SpI.start), (show World.ownsRow _ _ _ _ _ _ _ from World.ownsRow_nil _ _ _ _), (show Below _ _ _ from Below.refl _ _)⟩
  case round =>
    obtain ⟨k, f, ps, rfl, rfl, hk, hfk, hps, hsp, hrow, hbel⟩ := hrel
    have HSP := Lib.hid hsp.out
    have hown := hrow.out
    have HB := Lib.hid hbel.out
    have HBS := Lib.hid hbel.out.size
    clear hsp hrow hbel
    by_cases hlt : k < s.size
    · have t1 : decide ((k : Int) < (s.size : Int)) = true := decide_eq_true (by omega)
      have t2 : decide (k < s.size) = true := decide_eq_true hlt
      have k0 : (0 : Int) ≤ (k : Int) := by omega
      have k1 : (k : Int) < (s.size : Int) := by omega
      have k2 : ((k : Int)).toNat = k := by omega
      have HG := Lib.hid (byt_get s k hlt)
      by_cases hc : (s[k].toNat : Int) = (c.toNat : Int)
      · have u1 : ((s[k].toNat : Int) == (c.toNat : Int)) = true := by rw [hc]; exact beq_self_eq_true _
        have HSP2 := Lib.hid (HSP.out.cut (by rw [HLEN.out]; exact hlt) (by rw [HG.out]; exact hc))
        have HROOM := Lib.hid HSP2.out.room
        have HX := Lib.hid (ext_mid s f k)
        generalize (s.data.toList.drop f).take (k - f) = q at *
        have f0 : (0 : Int) ≤ (f : Int) := by omega
        have f1 : (f : Int) ≤ (k : Int) := by omega
        have f2 : ((f : Int)).toNat = f := by omega
        have f3 : (k : Int) ≤ (s.size : Int) := by omega
        clear hc
        go_wp2_with (at_builtin; refine wpList_append_lies _ rfl _ _ 25 rfl w.heap.size 9 i1 _ 1 16 Try.underlying25 hj hy0 hy1 hy2 (by rfl) (by decide) u5 ps.length (strK ps) rfl (hown.alloc _) ⟨wr.heap.size, 0, none⟩ 1 1 [.string (s.extract f k)] rfl rfl (cells_new _ _ _) ?_ ?_ ?_ ?_ ?_ _ rfl ?_; (intro u hu; simp at hu; subst hu; rfl); omega; (unfold maxLen; omega); omega; (have := HBS.out; simp; omega); intro g cap w2 hown2 hg2 hat hgl)
        have HO2 := Lib.hid (show w2.ownsRow w.heap.size 9 1 (.slice (some ⟨g, 0, none⟩) (ps.length + 1) cap) (ps ++ [q]).length (strK (ps ++ [q])) by
          rw [HX.out] at hown2
          rw [List.length_append, strK, List.map_append]; exact hown2)
        have HB2 := Lib.hid (show Below w.heap.size w w2 from (HB.out.alloc HBS.out _).grown hg2 (by have := HBS.out; simp; omega) (fun k hk => (hown.lt k hk).1))
        clear hown hown2 hg2 hat
        go_wp2_with fail
        go_roundw
        case rel => exact ⟨k + 1, k + 1, ps ++ [q], by go_num, by go_num, by omega, by omega, by have h1 := HROOM.out; have h2 := HN.out; omega, HSP2.out, HO2.out, HB2.out⟩
        case measure => simp [intOf]; omega
      · have u1 : ((s[k].toNat : Int) == (c.toNat : Int)) = false := beq_eq_false_iff_ne.2 hc
        have HSP2 := Lib.hid (HSP.out.more (by rw [HLEN.out]; exact hlt) (by rw [HG.out]; exact hc))
        have HO2 := Lib.hid hown
        clear hc hown
        go_wp2_with fail
        go_roundw
        case rel => exact ⟨k + 1, f, ps, by go_num, rfl, by omega, by omega, hps, HSP2.out, HO2.out, HB.out⟩
        case measure => simp [intOf]; omega
    · have t1 : decide ((k : Int) < (s.size : Int)) = false := decide_eq_false (by omega)
      have t2 : decide (k < s.size) = false := decide_eq_false hlt
      have HE := Lib.hid (HSP.out.end_ (by rw [HLEN.out]; omega))
      have HX := Lib.hid (ext_drop s f)
      generalize s.data.toList.drop f = q at *
      have f0 : (0 : Int) ≤ (f : Int) := by omega
      have f1 : (f : Int) ≤ (s.size : Int) := by omega
      have f2 : ((f : Int)).toNat = f := by omega
      go_wp2_with (at_builtin; refine wpList_append_lies _ rfl _ _ 25 rfl w.heap.size 9 i1 _ 1 16 Try.underlying25 hj hy0 hy1 hy2 (by rfl) (by decide) u5 ps.length (strK ps) rfl (hown.alloc _) ⟨wr.heap.size, 0, none⟩ 1 1 [.string (s.extract f s.size)] rfl rfl (cells_new _ _ _) ?_ ?_ ?_ ?_ ?_ _ rfl ?_; (intro u hu; simp at hu; subst hu; rfl); omega; (unfold maxLen; omega); omega; (have := HBS.out; simp; omega); intro g cap w2 hown2 hg2 hat hgl)
      have HO2 := Lib.hid (show w2.ownsRow w.heap.size 9 1 (.slice (some ⟨g, 0, none⟩) (ps.length + 1) cap) (spl c s.data.toList).length (strK (spl c s.data.toList)) by
        rw [HX.out] at hown2
        rw [HE.out, List.length_append, strK, List.map_append]; exact hown2)
      have HB2 := Lib.hid (show Below w.heap.size w w2 from (HB.out.alloc HBS.out _).grown hg2 (by have := HBS.out; simp; omega) (fun k hk => (hown.lt k hk).1))
      clear hown hown2 hg2 hat
      go_wp2_with fail
      go_ret
      exact ⟨_, rfl, HO2.out, HB2.out⟩
end Go.Proofs.Ytnfngjaldgellaa.Wo
namespace Go.Proofs.Ytnfngjaldgellaa.Wo
open Go.Proofs Go.RowKit
open Go.Proofs.Ytnfngjaldgellaa.Utf
open Go.Proofs.Ytnfngjaldgellaa.Nu

theorem own_blk {w : World} {B E n : Nat} {v : Value} {xs : List Value} (h : w.ownsRow B E 1 v n xs) (h0 : 0 < xs.length) :
    ∃ g c, v = .slice (some ⟨g, 0, none⟩) xs.length c ∧ g < w.heap.size ∧ ∀ j u, xs[j]? = some u → w.cell? ⟨g, j, none⟩ = some u := by
  obtain ⟨A, c, rfl, hx⟩ := Rd.of_own h
  obtain ⟨ad, rfl, hb, hc⟩ := hx h0
  rcases h.2 with ⟨e, _⟩ | ⟨g, cap, cur, e, _⟩
  · cases e
  · injection e with e1 e2 e3
    injection e1 with e1
    subst e1
    refine ⟨g, c, rfl, hb, fun j u hu => ?_⟩
    have := hc j u hu
    have hp : (⟨g, 0, none⟩ : Addr).add j = ⟨g, j, none⟩ := by unfold Addr.add; split <;> simp_all
    rwa [hp] at this
end Go.Proofs.Ytnfngjaldgellaa.Wo
namespace Go.Proofs.Ytnfngjaldgellaa.Wo
open Go.Proofs Go.RowKit
open Go.Proofs.Ytnfngjaldgellaa.Utf
open Go.Proofs.Ytnfngjaldgellaa.Nu

theorem app_one (x : UInt8) (a b : List UInt8) : a ++ [x] ++ b = a ++ x :: b := by simp

set_option maxRecDepth 100000 in
set_option maxHeartbeats 4000000 in
theorem parts_walk (a b c : ByteArray) (w : World) (ha : a.size ≤ reachBytes) (hb : b.size ≤ reachBytes) (hc : c.size ≤ reachBytes) :
    Calls Try.prog 5 #[.string a, .string b, .string c] w fun e w' => e = .returned (.bool true) ∧ Below w.heap.size w w' := by
  have ha2 : a.size ≤ 140737488351232 := by unfold reachBytes at ha; omega
  have hb2 : b.size ≤ 140737488351232 := by unfold reachBytes at hb; omega
  have hc2 : c.size ≤ 140737488351232 := by unfold reachBytes at hc; omega
  clear ha hb hc
  have C0 := Lib.hid (fun wx => awake_any12 wx)
  have CMA := Lib.hid (fun wx => Media_any a wx (by omega))
  have CMB := Lib.hid (fun wx => Media_any b wx (by omega))
  have CB := Lib.hid (fun wx => Lang_any b wx (by omega))
  have CC := Lib.hid (fun wx => Lang_any c wx (by omega))
  have CSA := Lib.hid (fun wx h => Split_any a 47 wx (by omega) h)
  have CSB := Lib.hid (fun wx h => Split_any b 47 wx (by omega) h)
  rw [show ((47 : UInt8).toNat : Int) = 47 from rfl] at CSA CSB
  obtain ⟨A, hA⟩ : ∃ A, a.data.toList = A := ⟨_, rfl⟩
  obtain ⟨B, hB⟩ : ∃ B, b.data.toList = B := ⟨_, rfl⟩
  obtain ⟨C, hC⟩ : ∃ C, c.data.toList = C := ⟨_, rfl⟩
  have lB : B.length = b.size := by rw [← hB, len_data]
  have lC : C.length = c.size := by rw [← hC, len_data]
  have eb : b = strOf B := by rw [← hB]; rfl
  have ec : c = strOf C := by rw [← hC]; rfl
  rw [hA] at CMA CSA
  rw [hB] at CMB CB CSB
  rw [hC] at CC
  have d1 := fun w => addS (strOf B) (strOf [45]) (by rw [strOf_size, strOf_size, lB]; simp; omega) w
  have d2 := fun w => addS (strOf (B ++ [45])) (strOf C) (by rw [strOf_size, strOf_size, List.length_append, lB, lC]; simp; omega) w
  have d3 := fun w => addS (strOf [100, 101, 45]) (strOf C) (by rw [strOf_size, strOf_size, lC]; simp; omega) w
  simp only [strOf_data] at d1 d2 d3
  have CBC := Lib.hid (fun wx => Lang_any (strOf (B ++ [45] ++ C)) wx (by rw [strOf_size, List.length_append, List.length_append, lB, lC]; simp; omega))
  have CDE := Lib.hid (fun wx => Lang_any (strOf ([100, 101, 45] ++ C)) wx (by rw [strOf_size, List.length_append, lC]; simp; omega))
  rw [strOf_data] at CBC CDE
  have HLB := Lib.hid (show langS B = true → langS (B ++ [45] ++ C) = langS ([100, 101, 45] ++ C) from fun h => by
    rw [app_one, lang_app h, show ([100, 101, 45] ++ C : List UInt8) = [100, 101] ++ 45 :: C from rfl, lang_de])
  have HLC := Lib.hid (show langS C = true → langS ([100, 101, 45] ++ C) = true from fun h => by
    rw [show ([100, 101, 45] ++ C : List UInt8) = [100, 101] ++ 45 :: C from rfl, lang_de]; exact lang_tags h)
  rw [← eb] at d1
  rw [← ec] at d2 d3
  have K1 : strOf [45] = (⟨#[45]⟩ : ByteArray) := rfl
  have K2 : strOf [100, 101, 45] = (⟨#[100, 101, 45]⟩ : ByteArray) := rfl
  rw [K1] at d1
  rw [K2] at d3
  clear K1 K2
  generalize langS (B ++ [45] ++ C) = lbc at *
  generalize langS ([100, 101, 45] ++ C) = d at *
  generalize langS B = lb at *
  generalize langS C = lc at *
  generalize strOf (B ++ [45] ++ C) = X2 at *
  generalize strOf (B ++ [45]) = X1 at *
  generalize strOf ([100, 101, 45] ++ C) = X3 at *
  have HMA := Lib.hid (fun h => media_two (l := A) h)
  have HMB := Lib.hid (fun h => media_two (l := B) h)
  clear hA hB hC eb ec lB lC
  generalize mediaS A = ma at *
  generalize mediaS B = mb at *
  generalize spl 47 A = sa at *
  generalize spl 47 B = sb at *
  have HZ0 := Lib.hid (Below.refl w.heap.size w)
  cases ma with
  | false =>
    go_enter Try.func5, Try.ntmps5
    cases lb with
    | false =>
      go_wp2_with fail
      refine (C0.out _).mono ?_
      rintro e z20 ⟨rfl, hb⟩
      have HZ20 := Lib.hid (HZ0.out.trans (hb.mono HZ0.out.size))
      clear hb
      go_wp2_with fail
      refine (CMA.out _).mono ?_
      rintro e z21 ⟨rfl, hb⟩
      have HZ21 := Lib.hid (HZ20.out.trans (hb.mono HZ20.out.size))
      clear hb
      go_wp2_with fail
      refine (CB.out _).mono ?_
      rintro e z22 ⟨rfl, hb⟩
      have HZ22 := Lib.hid (HZ21.out.trans (hb.mono HZ21.out.size))
      clear hb
      go_wp2_with fail
      refine (CB.out _).mono ?_
      rintro e z23 ⟨rfl, hb⟩
      have HZ23 := Lib.hid (HZ22.out.trans (hb.mono HZ22.out.size))
      clear hb
      go_wp2_with fail
      go_ret
      exact ⟨by first | rfl | simp, HZ23.out⟩
    | true =>
      have HBC := Lib.hid (HLB.out rfl)
      rw [HBC.out] at CBC
      cases lc with
      | true =>
        have HLCT := Lib.hid (HLC.out rfl)
        rw [HLCT.out] at CBC CDE
        go_wp2_with fail
        refine (C0.out _).mono ?_
        rintro e z20 ⟨rfl, hb⟩
        have HZ20 := Lib.hid (HZ0.out.trans (hb.mono HZ0.out.size))
        clear hb
        go_wp2_with fail
        refine (CMA.out _).mono ?_
        rintro e z21 ⟨rfl, hb⟩
        have HZ21 := Lib.hid (HZ20.out.trans (hb.mono HZ20.out.size))
        clear hb
        go_wp2_with fail
        refine (CB.out _).mono ?_
        rintro e z22 ⟨rfl, hb⟩
        have HZ22 := Lib.hid (HZ21.out.trans (hb.mono HZ21.out.size))
        clear hb
        go_wp2_with fail
        refine (CC.out _).mono ?_
        rintro e z23 ⟨rfl, hb⟩
        have HZ23 := Lib.hid (HZ22.out.trans (hb.mono HZ22.out.size))
        clear hb
        go_wp2_with fail
        refine (CBC.out _).mono ?_
        rintro e z24 ⟨rfl, hb⟩
        have HZ24 := Lib.hid (HZ23.out.trans (hb.mono HZ23.out.size))
        clear hb
        go_wp2_with fail
        refine (CB.out _).mono ?_
        rintro e z25 ⟨rfl, hb⟩
        have HZ25 := Lib.hid (HZ24.out.trans (hb.mono HZ24.out.size))
        clear hb
        go_wp2_with fail
        refine (CBC.out _).mono ?_
        rintro e z26 ⟨rfl, hb⟩
        have HZ26 := Lib.hid (HZ25.out.trans (hb.mono HZ25.out.size))
        clear hb
        go_wp2_with fail
        refine (CC.out _).mono ?_
        rintro e z27 ⟨rfl, hb⟩
        have HZ27 := Lib.hid (HZ26.out.trans (hb.mono HZ26.out.size))
        clear hb
        go_wp2_with fail
        go_ret
        exact ⟨by first | rfl | simp, HZ27.out⟩
      | false =>
        have hd : (d == d) = true := beq_self_eq_true _
        go_wp2_with fail
        refine (C0.out _).mono ?_
        rintro e z20 ⟨rfl, hb⟩
        have HZ20 := Lib.hid (HZ0.out.trans (hb.mono HZ0.out.size))
        clear hb
        go_wp2_with fail
        refine (CMA.out _).mono ?_
        rintro e z21 ⟨rfl, hb⟩
        have HZ21 := Lib.hid (HZ20.out.trans (hb.mono HZ20.out.size))
        clear hb
        go_wp2_with fail
        refine (CB.out _).mono ?_
        rintro e z22 ⟨rfl, hb⟩
        have HZ22 := Lib.hid (HZ21.out.trans (hb.mono HZ21.out.size))
        clear hb
        go_wp2_with fail
        refine (CC.out _).mono ?_
        rintro e z23 ⟨rfl, hb⟩
        have HZ23 := Lib.hid (HZ22.out.trans (hb.mono HZ22.out.size))
        clear hb
        go_wp2_with fail
        refine (CB.out _).mono ?_
        rintro e z24 ⟨rfl, hb⟩
        have HZ24 := Lib.hid (HZ23.out.trans (hb.mono HZ23.out.size))
        clear hb
        go_wp2_with fail
        refine (CBC.out _).mono ?_
        rintro e z25 ⟨rfl, hb⟩
        have HZ25 := Lib.hid (HZ24.out.trans (hb.mono HZ24.out.size))
        clear hb
        go_wp2_with fail
        refine (CC.out _).mono ?_
        rintro e z26 ⟨rfl, hb⟩
        have HZ26 := Lib.hid (HZ25.out.trans (hb.mono HZ25.out.size))
        clear hb
        go_wp2_with fail
        refine (CDE.out _).mono ?_
        rintro e z27 ⟨rfl, hb⟩
        have HZ27 := Lib.hid (HZ26.out.trans (hb.mono HZ26.out.size))
        clear hb
        go_wp2_with fail
        go_ret
        exact ⟨by first | rfl | simp, HZ27.out⟩
  | true =>
    cases mb with
    | false =>
      go_enter Try.func5, Try.ntmps5
      cases lb with
      | false =>
        go_wp2_with fail
        refine (C0.out _).mono ?_
        rintro e z20 ⟨rfl, hb⟩
        have HZ20 := Lib.hid (HZ0.out.trans (hb.mono HZ0.out.size))
        clear hb
        go_wp2_with fail
        refine (CMA.out _).mono ?_
        rintro e z21 ⟨rfl, hb⟩
        have HZ21 := Lib.hid (HZ20.out.trans (hb.mono HZ20.out.size))
        clear hb
        go_wp2_with fail
        refine (CMB.out _).mono ?_
        rintro e z22 ⟨rfl, hb⟩
        have HZ22 := Lib.hid (HZ21.out.trans (hb.mono HZ21.out.size))
        clear hb
        go_wp2_with fail
        refine (CB.out _).mono ?_
        rintro e z23 ⟨rfl, hb⟩
        have HZ23 := Lib.hid (HZ22.out.trans (hb.mono HZ22.out.size))
        clear hb
        go_wp2_with fail
        refine (CB.out _).mono ?_
        rintro e z24 ⟨rfl, hb⟩
        have HZ24 := Lib.hid (HZ23.out.trans (hb.mono HZ23.out.size))
        clear hb
        go_wp2_with fail
        go_ret
        exact ⟨by first | rfl | simp, HZ24.out⟩
      | true =>
        have HBC := Lib.hid (HLB.out rfl)
        rw [HBC.out] at CBC
        cases lc with
        | true =>
          have HLCT := Lib.hid (HLC.out rfl)
          rw [HLCT.out] at CBC CDE
          go_wp2_with fail
          refine (C0.out _).mono ?_
          rintro e z20 ⟨rfl, hb⟩
          have HZ20 := Lib.hid (HZ0.out.trans (hb.mono HZ0.out.size))
          clear hb
          go_wp2_with fail
          refine (CMA.out _).mono ?_
          rintro e z21 ⟨rfl, hb⟩
          have HZ21 := Lib.hid (HZ20.out.trans (hb.mono HZ20.out.size))
          clear hb
          go_wp2_with fail
          refine (CMB.out _).mono ?_
          rintro e z22 ⟨rfl, hb⟩
          have HZ22 := Lib.hid (HZ21.out.trans (hb.mono HZ21.out.size))
          clear hb
          go_wp2_with fail
          refine (CB.out _).mono ?_
          rintro e z23 ⟨rfl, hb⟩
          have HZ23 := Lib.hid (HZ22.out.trans (hb.mono HZ22.out.size))
          clear hb
          go_wp2_with fail
          refine (CC.out _).mono ?_
          rintro e z24 ⟨rfl, hb⟩
          have HZ24 := Lib.hid (HZ23.out.trans (hb.mono HZ23.out.size))
          clear hb
          go_wp2_with fail
          refine (CBC.out _).mono ?_
          rintro e z25 ⟨rfl, hb⟩
          have HZ25 := Lib.hid (HZ24.out.trans (hb.mono HZ24.out.size))
          clear hb
          go_wp2_with fail
          refine (CB.out _).mono ?_
          rintro e z26 ⟨rfl, hb⟩
          have HZ26 := Lib.hid (HZ25.out.trans (hb.mono HZ25.out.size))
          clear hb
          go_wp2_with fail
          refine (CBC.out _).mono ?_
          rintro e z27 ⟨rfl, hb⟩
          have HZ27 := Lib.hid (HZ26.out.trans (hb.mono HZ26.out.size))
          clear hb
          go_wp2_with fail
          refine (CC.out _).mono ?_
          rintro e z28 ⟨rfl, hb⟩
          have HZ28 := Lib.hid (HZ27.out.trans (hb.mono HZ27.out.size))
          clear hb
          go_wp2_with fail
          go_ret
          exact ⟨by first | rfl | simp, HZ28.out⟩
        | false =>
          have hd : (d == d) = true := beq_self_eq_true _
          go_wp2_with fail
          refine (C0.out _).mono ?_
          rintro e z20 ⟨rfl, hb⟩
          have HZ20 := Lib.hid (HZ0.out.trans (hb.mono HZ0.out.size))
          clear hb
          go_wp2_with fail
          refine (CMA.out _).mono ?_
          rintro e z21 ⟨rfl, hb⟩
          have HZ21 := Lib.hid (HZ20.out.trans (hb.mono HZ20.out.size))
          clear hb
          go_wp2_with fail
          refine (CMB.out _).mono ?_
          rintro e z22 ⟨rfl, hb⟩
          have HZ22 := Lib.hid (HZ21.out.trans (hb.mono HZ21.out.size))
          clear hb
          go_wp2_with fail
          refine (CB.out _).mono ?_
          rintro e z23 ⟨rfl, hb⟩
          have HZ23 := Lib.hid (HZ22.out.trans (hb.mono HZ22.out.size))
          clear hb
          go_wp2_with fail
          refine (CC.out _).mono ?_
          rintro e z24 ⟨rfl, hb⟩
          have HZ24 := Lib.hid (HZ23.out.trans (hb.mono HZ23.out.size))
          clear hb
          go_wp2_with fail
          refine (CB.out _).mono ?_
          rintro e z25 ⟨rfl, hb⟩
          have HZ25 := Lib.hid (HZ24.out.trans (hb.mono HZ24.out.size))
          clear hb
          go_wp2_with fail
          refine (CBC.out _).mono ?_
          rintro e z26 ⟨rfl, hb⟩
          have HZ26 := Lib.hid (HZ25.out.trans (hb.mono HZ25.out.size))
          clear hb
          go_wp2_with fail
          refine (CC.out _).mono ?_
          rintro e z27 ⟨rfl, hb⟩
          have HZ27 := Lib.hid (HZ26.out.trans (hb.mono HZ26.out.size))
          clear hb
          go_wp2_with fail
          refine (CDE.out _).mono ?_
          rintro e z28 ⟨rfl, hb⟩
          have HZ28 := Lib.hid (HZ27.out.trans (hb.mono HZ27.out.size))
          clear hb
          go_wp2_with fail
          go_ret
          exact ⟨by first | rfl | simp, HZ28.out⟩
    | true =>
      obtain ⟨p, q, rfl, np, nq, mp, mq⟩ := HMA.out rfl
      obtain ⟨r, t, rfl, nr, nt, mr, mt⟩ := HMB.out rfl
      have hM1 := media_of np nt mp mt
      have hM2 := media_of nr nq mr mq
      rw [← app_one] at hM1 hM2
      have l4 : ∀ l : List UInt8, nmS l = true → l.length ≤ 127 := fun l h => by
        unfold nmS at h
        simp only [Bool.and_eq_true, decide_eq_true_eq] at h
        omega
      have lp := l4 p np
      have lq := l4 q nq
      have lr := l4 r nr
      have lt := l4 t nt
      have e1 := fun w => addS (strOf p) (strOf [47]) (by rw [strOf_size, strOf_size]; simp; omega) w
      have e2 := fun w => addS (strOf (p ++ [47])) (strOf t) (by rw [strOf_size, strOf_size, List.length_append]; simp; omega) w
      have e3 := fun w => addS (strOf r) (strOf [47]) (by rw [strOf_size, strOf_size]; simp; omega) w
      have e4 := fun w => addS (strOf (r ++ [47])) (strOf q) (by rw [strOf_size, strOf_size, List.length_append]; simp; omega) w
      simp only [strOf_data] at e1 e2 e3 e4
      have K1 : strOf [47] = (⟨#[47]⟩ : ByteArray) := rfl
      rw [K1] at e1 e3
      have CM1 := Lib.hid (fun wx => Media_q (strOf (p ++ [47] ++ t)) wx (by rw [strOf_size, List.length_append, List.length_append]; simp; omega))
      have CM2 := Lib.hid (fun wx => Media_q (strOf (r ++ [47] ++ q)) wx (by rw [strOf_size, List.length_append, List.length_append]; simp; omega))
      rw [strOf_data, hM1] at CM1
      rw [strOf_data, hM2] at CM2
      have HK1 := Lib.hid (show strK [p, q] = [.string (strOf p), .string (strOf q)] from rfl)
      have HK2 := Lib.hid (show strK [r, t] = [.string (strOf r), .string (strOf t)] from rfl)
      have CSA2 := Lib.hid (fun wx => CSA.out wx (show [p, q].length ≤ 4398046511104 by simp))
      have CSB2 := Lib.hid (fun wx => CSB.out wx (show [r, t].length ≤ 4398046511104 by simp))
      unfold GivesPs at CSA2 CSB2
      rw [HK1.out] at CSA2
      rw [HK2.out] at CSB2
      clear K1 hM1 hM2 l4 lp lq lr lt np nq mp mq nr nt mr mt HMA HMB CSA CSB HK1 HK2
      generalize strOf (p ++ [47] ++ t) = Y2 at *
      generalize strOf (p ++ [47]) = Y1 at *
      generalize strOf (r ++ [47] ++ q) = Y4 at *
      generalize strOf (r ++ [47]) = Y3 at *
      generalize strOf p = P at *
      generalize strOf q = Q at *
      generalize strOf r = R at *
      generalize strOf t = U at *
      have CM := Lib.hid (show ∀ (X : ByteArray) wx, (X = Y2 ∨ X = Y4) → Calls Try.prog 9 #[.string X] wx fun e w' => e = .returned (.bool true) ∧ ∃ m, w' = wx.drewN m from fun X wx h => by
        rcases h with rfl | rfl
        · exact CM1.out wx
        · exact CM2.out wx)
      clear CM1 CM2
      have n1 : [p, q].length = 2 := rfl
      have n2 : [r, t].length = 2 := rfl
      rw [n1] at CSA2
      rw [n2] at CSB2
      clear n1 n2
      go_enter Try.func5, Try.ntmps5
      go_wp2_with fail
      refine (C0.out _).mono ?_
      rintro e z1 ⟨rfl, hb⟩
      have HZ1 := Lib.hid hb
      clear hb
      go_wp2_with fail
      refine (CMA.out _).mono ?_
      rintro e z2 ⟨rfl, hb⟩
      have HZ2 := Lib.hid (HZ1.out.trans (hb.mono HZ1.out.size))
      clear hb
      go_wp2_with fail
      refine (CMB.out _).mono ?_
      rintro e z3 ⟨rfl, hb⟩
      have HZ3 := Lib.hid (HZ2.out.trans (hb.mono HZ2.out.size))
      clear hb
      go_wp2_with fail
      refine (CSA2.out _).mono ?_
      rintro e z4 ⟨v, rfl, hown, hb⟩
      have HZ4 := Lib.hid (HZ3.out.trans (hb.mono HZ3.out.size))
      obtain ⟨g, cp, rfl, hg, hcell⟩ := own_blk hown (by simp)
      have x0 := hcell 0 _ rfl
      have x1 := hcell 1 _ rfl
      rw [show [Value.string P, Value.string Q].length = 2 from rfl]
      clear hown hb hcell
      go_wp2_with fail
      refine (CSB2.out _).mono ?_
      rintro e z5 ⟨v, rfl, hown, hb⟩
      have HZ5 := Lib.hid (HZ4.out.trans (hb.mono HZ4.out.size))
      obtain ⟨g2, cp2, rfl, hg2, hcell⟩ := own_blk hown (by simp)
      have x0 := (hb.cell (p := ⟨g, 0, none⟩) hg).trans x0
      have x1 := (hb.cell (p := ⟨g, 1, none⟩) hg).trans x1
      have y0 := hcell 0 _ rfl
      have y1 := hcell 1 _ rfl
      rw [show [Value.string R, Value.string U].length = 2 from rfl]
      clear hown hb hcell
      go_wp2_with (go_quiet ((go_at_call 9; refine Calls.quiet_of (CM.out _ _ (by first | exact .inl rfl | exact .inr rfl)))))
      clear x0 x1 y0 y1 e1 e2 e3 e4
      cases lb with
      | false =>
        refine (CB.out _).mono ?_
        rintro e z20 ⟨rfl, hb⟩
        have HZ20 := Lib.hid (Below.trans (drwN HZ5.out _) (hb.mono (drwN HZ5.out _).size))
        clear hb
        go_wp2_with fail
        refine (CB.out _).mono ?_
        rintro e z21 ⟨rfl, hb⟩
        have HZ21 := Lib.hid (HZ20.out.trans (hb.mono HZ20.out.size))
        clear hb
        go_wp2_with fail
        go_ret
        exact ⟨by first | rfl | simp, HZ21.out⟩
      | true =>
        have HBC := Lib.hid (HLB.out rfl)
        rw [HBC.out] at CBC
        cases lc with
        | true =>
          have HLCT := Lib.hid (HLC.out rfl)
          rw [HLCT.out] at CBC CDE
          refine (CB.out _).mono ?_
          rintro e z20 ⟨rfl, hb⟩
          have HZ20 := Lib.hid (Below.trans (drwN HZ5.out _) (hb.mono (drwN HZ5.out _).size))
          clear hb
          go_wp2_with fail
          refine (CC.out _).mono ?_
          rintro e z21 ⟨rfl, hb⟩
          have HZ21 := Lib.hid (HZ20.out.trans (hb.mono HZ20.out.size))
          clear hb
          go_wp2_with fail
          refine (CBC.out _).mono ?_
          rintro e z22 ⟨rfl, hb⟩
          have HZ22 := Lib.hid (HZ21.out.trans (hb.mono HZ21.out.size))
          clear hb
          go_wp2_with fail
          refine (CB.out _).mono ?_
          rintro e z23 ⟨rfl, hb⟩
          have HZ23 := Lib.hid (HZ22.out.trans (hb.mono HZ22.out.size))
          clear hb
          go_wp2_with fail
          refine (CBC.out _).mono ?_
          rintro e z24 ⟨rfl, hb⟩
          have HZ24 := Lib.hid (HZ23.out.trans (hb.mono HZ23.out.size))
          clear hb
          go_wp2_with fail
          refine (CC.out _).mono ?_
          rintro e z25 ⟨rfl, hb⟩
          have HZ25 := Lib.hid (HZ24.out.trans (hb.mono HZ24.out.size))
          clear hb
          go_wp2_with fail
          go_ret
          exact ⟨by first | rfl | simp, HZ25.out⟩
        | false =>
          have hd : (d == d) = true := beq_self_eq_true _
          refine (CB.out _).mono ?_
          rintro e z20 ⟨rfl, hb⟩
          have HZ20 := Lib.hid (Below.trans (drwN HZ5.out _) (hb.mono (drwN HZ5.out _).size))
          clear hb
          go_wp2_with fail
          refine (CC.out _).mono ?_
          rintro e z21 ⟨rfl, hb⟩
          have HZ21 := Lib.hid (HZ20.out.trans (hb.mono HZ20.out.size))
          clear hb
          go_wp2_with fail
          refine (CB.out _).mono ?_
          rintro e z22 ⟨rfl, hb⟩
          have HZ22 := Lib.hid (HZ21.out.trans (hb.mono HZ21.out.size))
          clear hb
          go_wp2_with fail
          refine (CBC.out _).mono ?_
          rintro e z23 ⟨rfl, hb⟩
          have HZ23 := Lib.hid (HZ22.out.trans (hb.mono HZ22.out.size))
          clear hb
          go_wp2_with fail
          refine (CC.out _).mono ?_
          rintro e z24 ⟨rfl, hb⟩
          have HZ24 := Lib.hid (HZ23.out.trans (hb.mono HZ23.out.size))
          clear hb
          go_wp2_with fail
          refine (CDE.out _).mono ?_
          rintro e z25 ⟨rfl, hb⟩
          have HZ25 := Lib.hid (HZ24.out.trans (hb.mono HZ24.out.size))
          clear hb
          go_wp2_with fail
          go_ret
          exact ⟨by first | rfl | simp, HZ25.out⟩
end Go.Proofs.Ytnfngjaldgellaa.Wo
