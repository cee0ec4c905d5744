/- Merged: FoA FoB. -/
import Derived.Test.YtjbaogoapobhbaaDoorTt3
import Derived.Test.YtjbaogoapobhbaaDoorTt10
import Derived.Deep.AppendLies
namespace Go.Proofs.YtjbaogoapobhbaaDoor.Fo
open Go.Proofs Go.RowKit
open Go.Proofs.YtjbaogoapobhbaaDoor.Utf
open Go.Proofs.YtjbaogoapobhbaaDoor.Sc
open Go.Proofs.YtjbaogoapobhbaaDoor.Po
open Go.Proofs.YtjbaogoapobhbaaDoor.Tr (ltN)

theorem ext_cut (s : ByteArray) (f k : Nat) : s.extract f k = strOf ((s.data.toList.drop f).take (k - f)) := by
  apply ByteArray.ext
  rw [ByteArray.data_extract]
  apply Array.toList_inj.1
  simp [strOf, Array.toList_extract, List.extract]
end Go.Proofs.YtjbaogoapobhbaaDoor.Fo
namespace Go.Proofs.YtjbaogoapobhbaaDoor.Fo
open Go.Proofs Go.RowKit
open Go.Proofs.YtjbaogoapobhbaaDoor.Utf
open Go.Proofs.YtjbaogoapobhbaaDoor.Sc
open Go.Proofs.YtjbaogoapobhbaaDoor.Po

section
variable {l : List UInt8} {f j k : Nat} {ps : List (List UInt8)}
theorem mid_step (h1 : f ≤ j) (h2 : j < l.length) : (l.drop f).take (j + 1 - f) = (l.drop f).take (j - f) ++ [l[j]] := by
  have hz : j - f < (l.drop f).length := by rw [List.length_drop]; omega
  rw [show j + 1 - f = (j - f) + 1 by omega, List.take_succ_eq_append_getElem hz, List.getElem_drop]
  congr 3
  omega
theorem mid_len (h1 : f ≤ j) (h2 : j ≤ l.length) : ((l.drop f).take (j - f)).length = j - f := by rw [List.length_take, List.length_drop]; omega
def TI (l : List UInt8) (k : Nat) (ps : List (List UInt8)) : Prop := tms l = ps ++ trm (l.drop k) 0 []
def MI (m : Nat) (l : List UInt8) (f j : Nat) (ps : List (List UInt8)) : Prop := f ≤ j ∧ tms l = ps ++ trm (l.drop j) m ((l.drop f).take (j - f))
theorem TI.start : TI l 0 [] := rfl
theorem TI.blank (h : TI l k ps) (hk : k < l.length) (hc : l[k] = 32) : TI l (k + 1) ps := by
  unfold TI at *
  rw [h, List.drop_eq_getElem_cons hk, hc, trm_blank]
theorem TI.quote (h : TI l k ps) (hk : k < l.length) (hc : l[k] = 34) : MI 2 l (k + 1) (k + 1) ps := by
  refine ⟨Nat.le_refl _, ?_⟩
  unfold TI at h
  rw [h, List.drop_eq_getElem_cons hk, hc, trm_quote, Nat.sub_self, List.take_zero]
theorem TI.word (h : TI l k ps) (hk : k < l.length) (h1 : l[k] ≠ 32) (h2 : l[k] ≠ 34) : MI 1 l k k ps := by
  refine ⟨Nat.le_refl _, ?_⟩
  unfold TI at h
  rw [h, List.drop_eq_getElem_cons hk, trm_word _ h1 h2, Nat.sub_self, List.take_zero]
theorem MI.quoted (h : MI 2 l f j ps) (hj : j < l.length) (hc : l[j] ≠ 34) : MI 2 l f (j + 1) ps := by
  refine ⟨Nat.le_succ_of_le h.1, ?_⟩
  rw [h.2, List.drop_eq_getElem_cons hj, trm_in _ _ hc, mid_step h.1 hj]
theorem MI.goes (h : MI 1 l f j ps) (hj : j < l.length) (h1 : l[j] ≠ 32) (h2 : l[j] ≠ 34) : MI 1 l f (j + 1) ps := by
  refine ⟨Nat.le_succ_of_le h.1, ?_⟩
  rw [h.2, List.drop_eq_getElem_cons hj, trm_go _ _ h1 h2, mid_step h.1 hj]
theorem MI.shut (h : MI 2 l f j ps) (hl : j ≤ l.length) (hc : j = l.length ∨ ∃ hj : j < l.length, l[j] = 34) : TI l (j + 1) (if f < j then ps ++ [(l.drop f).take (j - f)] else ps) := by
  have hf := h.1
  have hm := mid_len hf hl
  have key : tms l = ps ++ ((if (l.drop f).take (j - f) = [] then [] else [(l.drop f).take (j - f)]) ++ trm (l.drop (j + 1)) 0 []) := by
    rw [h.2]
    rcases hc with rfl | ⟨hj, hc⟩
    · have e1 : l.drop (l.length + 1) = [] := List.drop_eq_nil_of_le (by omega)
      rw [List.drop_length, e1, trm_end2, trm_end0, List.append_nil]
    · conv => lhs; rw [List.drop_eq_getElem_cons hj, hc, trm_close]
  unfold TI
  rw [key]
  by_cases hx : f < j
  · rw [if_pos hx, if_neg fun e => by rw [e] at hm; simp at hm; omega, List.append_assoc]
  · rw [if_neg hx, if_pos (List.eq_nil_of_length_eq_zero (by omega))]; rfl
theorem MI.over (h : MI 1 l f j ps) (hc : j = l.length ∨ ∃ hj : j < l.length, l[j] = 32 ∨ l[j] = 34) : TI l j (ps ++ [(l.drop f).take (j - f)]) := by
  unfold TI
  rw [h.2, List.append_assoc]
  rcases hc with rfl | ⟨hj, hc⟩
  · rw [List.drop_length, trm_end1, trm_end0]; rfl
  · rw [List.drop_eq_getElem_cons hj, trm_stop _ _ hc]; rfl
theorem TI.end_ (h : TI l k ps) (hk : l.length ≤ k) : tms l = ps := by
  unfold TI at h
  rw [h, List.drop_eq_nil_of_le hk, trm_end0, List.append_nil]
end
def GivesTs (ps : List (List UInt8)) (w : World) (e : Ending) (w' : World) : Prop :=
  ∃ v, e = .returned v ∧ w'.ownsRow w.heap.size 9 1 v ps.length (strC ps) ∧ Below w.heap.size w w'

set_option maxRecDepth 100000 in
set_option maxHeartbeats 2000000 in
theorem rTerms_any (s : ByteArray) (w : World) (hs : s.size ≤ 4398046511104) : Calls Tryd.prog 18 #[.string s] w (GivesTs (tms s.data.toList) w) := by
  obtain ⟨i1, hj, hy0, hy1, hy2⟩ := info_parts infoStr
  have HLEN := Lib.hid (len_data s)
  go_enter Tryd.func18, Tryd.ntmps18
  go_wp2_with fail
  go_loopw [3, 4] (fun v i wr => ∃ (k : Nat) (ps : List (List UInt8)), i = .int .i64 (k : Int) ∧ k ≤ s.size + 1 ∧ ps.length ≤ k ∧ Aside (TI s.data.toList k ps) ∧ Aside (wr.ownsRow w.heap.size 9 1 v ps.length (strC ps)) ∧ Aside (Below w.heap.size w wr)) (fun _ i _ => s.size + 1 - (intOf i).toNat)
  case atStart => exact ⟨0, [], rfl, by omega, by simp, (show TI _ _ _ from TI.start), (show World.ownsRow _ _ _ _ _ _ _ from World.ownsRow_nil _ _ _ _), (show Below _ _ _ from Below.refl _ _)⟩
  case round =>
    obtain ⟨k, ps, rfl, hk, hps, hti, hrow, hbel⟩ := hrel
    have HT := Lib.hid hti.out
    have hown := hrow.out
    have HB := Lib.hid hbel.out
    have HBS := Lib.hid hbel.out.size
    clear hti hrow hbel
    by_cases hlt : k < s.size
    · have t1 : decide ((k : Int) < (s.size : Int)) = true := decide_eq_true (by omega)
      have t2 : decide (k < s.size) = true := decide_eq_true hlt
      have k0 : (0 : Int) ≤ (k : Int) := by omega
      have k1 : (k : Int) < (s.size : Int) := by omega
      have k2 : ((k : Int)).toNat = k := by omega
      have hkl : k < s.data.toList.length := by rw [HLEN.out]; exact hlt
      have HEQ : ∀ z : UInt8, ((s[k].toNat : Int) = (z.toNat : Int)) ↔ s.data.toList[k] = z := fun z =>
        ⟨fun e => UInt8.toNat_inj.1 (by have : s.data.toList[k] = s[k] := rfl; rw [this]; omega), fun e => by rw [← e]; rfl⟩
      by_cases ch : (s[k].toNat : Int) = 32
      · have HT2 := Lib.hid (HT.out.blank hkl ((HEQ 32).1 ch))
        have HO2 := Lib.hid hown
        have c : ((s[k].toNat : Int) == 32) = true := by rw [beq_iff_eq]; exact ch
        have cn : ((s[k].toNat : Int) != 32) = false := by rw [bne_eq_false_iff_eq]; exact ch
        clear HEQ ch hown
        go_wp2_with fail
        go_roundw
        case rel => exact ⟨k + 1, ps, by go_num, by omega, by omega, HT2.out, HO2.out, HB.out⟩
        case measure => simp [intOf]; omega
      · by_cases dh : (s[k].toNat : Int) = 34
        · have HM := Lib.hid (HT.out.quote hkl ((HEQ 34).1 dh))
          have c : ((s[k].toNat : Int) == 32) = false := beq_eq_false_iff_ne.2 ch
          have cn : ((s[k].toNat : Int) != 32) = true := bne_iff_ne.2 ch
          have d : ((s[k].toNat : Int) == 34) = true := by rw [beq_iff_eq]; exact dh
          have dn : ((s[k].toNat : Int) != 34) = false := by rw [bne_eq_false_iff_eq]; exact dh
          clear HEQ ch dh HT
          go_wp2_with fail
          have HWW := Lib.hid (rfl : wr = wr)
          go_loopw [4] (fun i wx => ∃ j : Nat, i = .int .i64 (j : Int) ∧ k + 1 ≤ j ∧ j ≤ s.size ∧ Aside (MI 2 s.data.toList (k + 1) j ps) ∧ Aside (wr = wx)) (fun i _ => s.size - (intOf i).toNat)
          case atStart => exact ⟨k + 1, by go_num, by omega, by omega, (show MI _ _ _ _ _ from HM.out), (show _ = _ from rfl)⟩
          case round =>
            obtain ⟨j, rfl, hjk, hjs1, hmi, hwx⟩ := hrel
            obtain rfl := hwx.out
            have HQ := Lib.hid hmi.out
            clear hmi hwx
            by_cases hjs : j < s.size
            · have j1 : decide ((j : Int) < (s.size : Int)) = true := decide_eq_true (by omega)
              have j2 : decide (j < s.size) = true := decide_eq_true (by omega)
              have m0 : (0 : Int) ≤ (j : Int) := by omega
              have m1 : (j : Int) < (s.size : Int) := by omega
              have m2 : ((j : Int)).toNat = j := by omega
              have hjl : j < s.data.toList.length := by rw [HLEN.out]; exact hjs
              have HEQ2 : ∀ z : UInt8, ((s[j].toNat : Int) = (z.toNat : Int)) ↔ s.data.toList[j] = z := fun z =>
                ⟨fun e => UInt8.toNat_inj.1 (by have : s.data.toList[j] = s[j] := rfl; rw [this]; omega), fun e => by rw [← e]; rfl⟩
              by_cases eh : (s[j].toNat : Int) = 34
              · have e : ((s[j].toNat : Int) == 34) = true := by rw [beq_iff_eq]; exact eh
                have en : ((s[j].toNat : Int) != 34) = false := by rw [bne_eq_false_iff_eq]; exact eh
                have HSH := Lib.hid (HQ.out.shut (by omega) (.inr ⟨hjl, (HEQ2 34).1 eh⟩))
                clear HEQ2 eh HQ HM
                by_cases hjf : k + 1 < j
                · have g1 : decide ((j : Int) > (k : Int) + 1) = true := decide_eq_true (by omega)
                  have g2 : decide ((k : Int) + 1 < (j : Int)) = true := decide_eq_true (by omega)
                  have HX := Lib.hid (ext_cut s (k + 1) j)
                  have HT2 := Lib.hid (show TI s.data.toList (j + 1) (ps ++ [(s.data.toList.drop (k + 1)).take (j - (k + 1))]) by have h := HSH.out; rw [if_pos hjf] at h; exact h)
                  generalize (s.data.toList.drop (k + 1)).take (j - (k + 1)) = q at *
                  have f0 : (0 : Int) ≤ ((k : Int) + 1) := by omega
                  have f1 : ((k : Int) + 1) ≤ (j : Int) := by omega
                  have f2 : (((k : Int) + 1)).toNat = k + 1 := by omega
                  have f3 : (j : Int) ≤ (s.size : Int) := by omega
                  clear HSH
                  go_wp2_with (at_builtin; refine wpList_append_lies _ rfl _ _ 26 rfl w.heap.size 9 i1 _ 1 16 Tryd.underlying26 hj hy0 hy1 hy2 (by rfl) (by decide) u3 ps.length (strC ps) rfl (hown.alloc _) ⟨wr.heap.size, 0, none⟩ 1 1 [.string (s.extract (k + 1) j)] rfl rfl (cells_new _ _ _) ?_ ?_ ?_ ?_ ?_ _ rfl ?_; (intro u hu; simp at hu; subst hu; rfl); omega; (unfold maxLen; omega); omega; (have := HBS.out; simp; omega); intro g cap w2 hown2 hg2 hat hgl)
                  have HO2 := Lib.hid (show w2.ownsRow w.heap.size 9 1 (.slice (some ⟨g, 0, none⟩) (ps.length + 1) cap) (ps ++ [q]).length (strC (ps ++ [q])) by
                    rw [HX.out] at hown2
                    rw [List.length_append, strC, List.map_append]; exact hown2)
                  have HB2 := Lib.hid (show Below w.heap.size w w2 from (HB.out.alloc HBS.out _).grown hg2 (by have := HBS.out; simp; omega) (fun k hk => (hown.lt k hk).1))
                  clear hown hown2 hg2 hat
                  go_wp2_with fail
                  go_roundw
                  case rel => exact ⟨j + 1, ps ++ [q], by go_num, by omega, by rw [List.length_append]; simp; omega, HT2.out, HO2.out, HB2.out⟩
                  case measure => simp [intOf]; omega
                · have g1 : decide ((j : Int) > (k : Int) + 1) = false := decide_eq_false (by omega)
                  have g2 : decide ((k : Int) + 1 < (j : Int)) = false := decide_eq_false (by omega)
                  have HT2 := Lib.hid (show TI s.data.toList (j + 1) ps by have h := HSH.out; rw [if_neg hjf] at h; exact h)
                  have HO2 := Lib.hid hown
                  clear HSH hown
                  go_wp2_with fail
                  go_roundw
                  case rel => exact ⟨j + 1, ps, by go_num, by omega, by omega, HT2.out, HO2.out, HB.out⟩
                  case measure => simp [intOf]; omega
              · have e : ((s[j].toNat : Int) == 34) = false := beq_eq_false_iff_ne.2 eh
                have en : ((s[j].toNat : Int) != 34) = true := bne_iff_ne.2 eh
                have HQ2 := Lib.hid (HQ.out.quoted hjl (fun e => eh ((HEQ2 34).2 e)))
                clear HEQ2 eh HQ
                go_wp2_with fail
                go_roundw
                case rel => exact ⟨j + 1, by go_num, by omega, by omega, HQ2.out, (by trivial)⟩
                case measure => simp [intOf]; omega
            · have j1 : decide ((j : Int) < (s.size : Int)) = false := decide_eq_false (by omega)
              have j2 : decide (j < s.size) = false := decide_eq_false (by omega)
              have HSH := Lib.hid (HQ.out.shut (by rw [HLEN.out]; omega) (.inl (by rw [HLEN.out]; omega)))
              clear HQ HM
              by_cases hjf : k + 1 < j
              · have g1 : decide ((j : Int) > (k : Int) + 1) = true := decide_eq_true (by omega)
                have g2 : decide ((k : Int) + 1 < (j : Int)) = true := decide_eq_true (by omega)
                have HX := Lib.hid (ext_cut s (k + 1) j)
                have HT2 := Lib.hid (show TI s.data.toList (j + 1) (ps ++ [(s.data.toList.drop (k + 1)).take (j - (k + 1))]) by have h := HSH.out; rw [if_pos hjf] at h; exact h)
                generalize (s.data.toList.drop (k + 1)).take (j - (k + 1)) = q at *
                have f0 : (0 : Int) ≤ ((k : Int) + 1) := by omega
                have f1 : ((k : Int) + 1) ≤ (j : Int) := by omega
                have f2 : (((k : Int) + 1)).toNat = k + 1 := by omega
                have f3 : (j : Int) ≤ (s.size : Int) := by omega
                clear HSH
                go_wp2_with (at_builtin; refine wpList_append_lies _ rfl _ _ 26 rfl w.heap.size 9 i1 _ 1 16 Tryd.underlying26 hj hy0 hy1 hy2 (by rfl) (by decide) u3 ps.length (strC ps) rfl (hown.alloc _) ⟨wr.heap.size, 0, none⟩ 1 1 [.string (s.extract (k + 1) j)] rfl rfl (cells_new _ _ _) ?_ ?_ ?_ ?_ ?_ _ rfl ?_; (intro u hu; simp at hu; subst hu; rfl); omega; (unfold maxLen; omega); omega; (have := HBS.out; simp; omega); intro g cap w2 hown2 hg2 hat hgl)
                have HO2 := Lib.hid (show w2.ownsRow w.heap.size 9 1 (.slice (some ⟨g, 0, none⟩) (ps.length + 1) cap) (ps ++ [q]).length (strC (ps ++ [q])) by
                  rw [HX.out] at hown2
                  rw [List.length_append, strC, List.map_append]; exact hown2)
                have HB2 := Lib.hid (show Below w.heap.size w w2 from (HB.out.alloc HBS.out _).grown hg2 (by have := HBS.out; simp; omega) (fun k hk => (hown.lt k hk).1))
                clear hown hown2 hg2 hat
                go_wp2_with fail
                go_roundw
                case rel => exact ⟨j + 1, ps ++ [q], by go_num, by omega, by rw [List.length_append]; simp; omega, HT2.out, HO2.out, HB2.out⟩
                case measure => simp [intOf]; omega
              · have g1 : decide ((j : Int) > (k : Int) + 1) = false := decide_eq_false (by omega)
                have g2 : decide ((k : Int) + 1 < (j : Int)) = false := decide_eq_false (by omega)
                have HT2 := Lib.hid (show TI s.data.toList (j + 1) ps by have h := HSH.out; rw [if_neg hjf] at h; exact h)
                have HO2 := Lib.hid hown
                clear HSH hown
                go_wp2_with fail
                go_roundw
                case rel => exact ⟨j + 1, ps, by go_num, by omega, by omega, HT2.out, HO2.out, HB.out⟩
                case measure => simp [intOf]; omega

        · have HM := Lib.hid (HT.out.word hkl (fun e => ch ((HEQ 32).2 e)) (fun e => dh ((HEQ 34).2 e)))
          have HK2 := Lib.hid (show ¬ (s.data.toList[k] = 32 ∨ s.data.toList[k] = 34) from fun h => h.elim (fun e => ch ((HEQ 32).2 e)) (fun e => dh ((HEQ 34).2 e)))
          have c : ((s[k].toNat : Int) == 32) = false := beq_eq_false_iff_ne.2 ch
          have cn : ((s[k].toNat : Int) != 32) = true := bne_iff_ne.2 ch
          have d : ((s[k].toNat : Int) == 34) = false := beq_eq_false_iff_ne.2 dh
          have dn : ((s[k].toNat : Int) != 34) = true := bne_iff_ne.2 dh
          clear HEQ ch dh HT
          go_wp2_with fail
          go_loopw [4] (fun i wx => ∃ j : Nat, i = .int .i64 (j : Int) ∧ k ≤ j ∧ j ≤ s.size ∧ Aside (MI 1 s.data.toList k j ps) ∧ Aside (wr = wx)) (fun i _ => s.size - (intOf i).toNat)
          case atStart => exact ⟨k, rfl, by omega, by omega, (show MI _ _ _ _ _ from HM.out), (show _ = _ from rfl)⟩
          case round =>
            obtain ⟨j, rfl, hjk, hjs1, hmi, hwx⟩ := hrel
            obtain rfl := hwx.out
            have HQ := Lib.hid hmi.out
            clear hmi hwx
            by_cases hjs : j < s.size
            · have j1 : decide ((j : Int) < (s.size : Int)) = true := decide_eq_true (by omega)
              have j2 : decide (j < s.size) = true := decide_eq_true (by omega)
              have m0 : (0 : Int) ≤ (j : Int) := by omega
              have m1 : (j : Int) < (s.size : Int) := by omega
              have m2 : ((j : Int)).toNat = j := by omega
              have hjl : j < s.data.toList.length := by rw [HLEN.out]; exact hjs
              have HEQ2 : ∀ z : UInt8, ((s[j].toNat : Int) = (z.toNat : Int)) ↔ s.data.toList[j] = z := fun z =>
                ⟨fun e => UInt8.toNat_inj.1 (by have : s.data.toList[j] = s[j] := rfl; rw [this]; omega), fun e => by rw [← e]; rfl⟩
              by_cases fh : (s[j].toNat : Int) = 32
              · have hne : k < j := Nat.lt_of_le_of_ne hjk fun e => HK2.out (by subst e; exact .inl ((HEQ2 32).1 fh))
                have HSH := Lib.hid (HQ.out.over (.inr ⟨hjl, .inl ((HEQ2 32).1 fh)⟩))
                have f : ((s[j].toNat : Int) == 32) = true := by rw [beq_iff_eq]; exact fh
                have fn : ((s[j].toNat : Int) != 32) = false := by rw [bne_eq_false_iff_eq]; exact fh
                clear HEQ2 fh HQ HM
                have HX := Lib.hid (ext_cut s k j)
                generalize (s.data.toList.drop k).take (j - k) = q at *
                have f0 : (0 : Int) ≤ (k : Int) := by omega
                have f1 : (k : Int) ≤ (j : Int) := by omega
                have f2 : ((k : Int)).toNat = k := by omega
                have f3 : (j : Int) ≤ (s.size : Int) := by omega
                go_wp2_with (at_builtin; refine wpList_append_lies _ rfl _ _ 26 rfl w.heap.size 9 i1 _ 1 16 Tryd.underlying26 hj hy0 hy1 hy2 (by rfl) (by decide) u3 ps.length (strC ps) rfl (hown.alloc _) ⟨wr.heap.size, 0, none⟩ 1 1 [.string (s.extract k j)] rfl rfl (cells_new _ _ _) ?_ ?_ ?_ ?_ ?_ _ rfl ?_; (intro u hu; simp at hu; subst hu; rfl); omega; (unfold maxLen; omega); omega; (have := HBS.out; simp; omega); intro g cap w2 hown2 hg2 hat hgl)
                have HO2 := Lib.hid (show w2.ownsRow w.heap.size 9 1 (.slice (some ⟨g, 0, none⟩) (ps.length + 1) cap) (ps ++ [q]).length (strC (ps ++ [q])) by
                  rw [HX.out] at hown2
                  rw [List.length_append, strC, List.map_append]; exact hown2)
                have HB2 := Lib.hid (show Below w.heap.size w w2 from (HB.out.alloc HBS.out _).grown hg2 (by have := HBS.out; simp; omega) (fun k hk => (hown.lt k hk).1))
                clear hown hown2 hg2 hat
                go_wp2_with fail
                go_roundw
                case rel => exact ⟨j, ps ++ [q], by go_num, by omega, by rw [List.length_append]; simp; omega, HSH.out, HO2.out, HB2.out⟩
                case measure => simp [intOf]; omega
              · by_cases eh : (s[j].toNat : Int) = 34
                · have hne : k < j := Nat.lt_of_le_of_ne hjk fun e => HK2.out (by subst e; exact .inr ((HEQ2 34).1 eh))
                  have HSH := Lib.hid (HQ.out.over (.inr ⟨hjl, .inr ((HEQ2 34).1 eh)⟩))
                  have f : ((s[j].toNat : Int) == 32) = false := beq_eq_false_iff_ne.2 fh
                  have fn : ((s[j].toNat : Int) != 32) = true := bne_iff_ne.2 fh
                  have e : ((s[j].toNat : Int) == 34) = true := by rw [beq_iff_eq]; exact eh
                  have en : ((s[j].toNat : Int) != 34) = false := by rw [bne_eq_false_iff_eq]; exact eh
                  clear HEQ2 eh fh HQ HM
                  have HX := Lib.hid (ext_cut s k j)
                  generalize (s.data.toList.drop k).take (j - k) = q at *
                  have f0 : (0 : Int) ≤ (k : Int) := by omega
                  have f1 : (k : Int) ≤ (j : Int) := by omega
                  have f2 : ((k : Int)).toNat = k := by omega
                  have f3 : (j : Int) ≤ (s.size : Int) := by omega
                  go_wp2_with (at_builtin; refine wpList_append_lies _ rfl _ _ 26 rfl w.heap.size 9 i1 _ 1 16 Tryd.underlying26 hj hy0 hy1 hy2 (by rfl) (by decide) u3 ps.length (strC ps) rfl (hown.alloc _) ⟨wr.heap.size, 0, none⟩ 1 1 [.string (s.extract k j)] rfl rfl (cells_new _ _ _) ?_ ?_ ?_ ?_ ?_ _ rfl ?_; (intro u hu; simp at hu; subst hu; rfl); omega; (unfold maxLen; omega); omega; (have := HBS.out; simp; omega); intro g cap w2 hown2 hg2 hat hgl)
                  have HO2 := Lib.hid (show w2.ownsRow w.heap.size 9 1 (.slice (some ⟨g, 0, none⟩) (ps.length + 1) cap) (ps ++ [q]).length (strC (ps ++ [q])) by
                    rw [HX.out] at hown2
                    rw [List.length_append, strC, List.map_append]; exact hown2)
                  have HB2 := Lib.hid (show Below w.heap.size w w2 from (HB.out.alloc HBS.out _).grown hg2 (by have := HBS.out; simp; omega) (fun k hk => (hown.lt k hk).1))
                  clear hown hown2 hg2 hat
                  go_wp2_with fail
                  go_roundw
                  case rel => exact ⟨j, ps ++ [q], by go_num, by omega, by rw [List.length_append]; simp; omega, HSH.out, HO2.out, HB2.out⟩
                  case measure => simp [intOf]; omega
                · have HQ2 := Lib.hid (HQ.out.goes hjl (fun e => fh ((HEQ2 32).2 e)) (fun e => eh ((HEQ2 34).2 e)))
                  have f : ((s[j].toNat : Int) == 32) = false := beq_eq_false_iff_ne.2 fh
                  have fn : ((s[j].toNat : Int) != 32) = true := bne_iff_ne.2 fh
                  have e : ((s[j].toNat : Int) == 34) = false := beq_eq_false_iff_ne.2 eh
                  have en : ((s[j].toNat : Int) != 34) = true := bne_iff_ne.2 eh
                  clear HEQ2 eh fh HQ
                  go_wp2_with fail
                  go_roundw
                  case rel => exact ⟨j + 1, by go_num, by omega, by omega, HQ2.out, (by trivial)⟩
                  case measure => simp [intOf]; omega
            · have j1 : decide ((j : Int) < (s.size : Int)) = false := decide_eq_false (by omega)
              have j2 : decide (j < s.size) = false := decide_eq_false (by omega)
              have HSH := Lib.hid (HQ.out.over (.inl (by rw [HLEN.out]; omega)))
              have hne : k < j := by omega
              clear HQ HM
              have HX := Lib.hid (ext_cut s k j)
              generalize (s.data.toList.drop k).take (j - k) = q at *
              have f0 : (0 : Int) ≤ (k : Int) := by omega
              have f1 : (k : Int) ≤ (j : Int) := by omega
              have f2 : ((k : Int)).toNat = k := by omega
              have f3 : (j : Int) ≤ (s.size : Int) := by omega
              go_wp2_with (at_builtin; refine wpList_append_lies _ rfl _ _ 26 rfl w.heap.size 9 i1 _ 1 16 Tryd.underlying26 hj hy0 hy1 hy2 (by rfl) (by decide) u3 ps.length (strC ps) rfl (hown.alloc _) ⟨wr.heap.size, 0, none⟩ 1 1 [.string (s.extract k j)] rfl rfl (cells_new _ _ _) ?_ ?_ ?_ ?_ ?_ _ rfl ?_; (intro u hu; simp at hu; subst hu; rfl); omega; (unfold maxLen; omega); omega; (have := HBS.out; simp; omega); intro g cap w2 hown2 hg2 hat hgl)
              have HO2 := Lib.hid (show w2.ownsRow w.heap.size 9 1 (.slice (some ⟨g, 0, none⟩) (ps.length + 1) cap) (ps ++ [q]).length (strC (ps ++ [q])) by
                rw [HX.out] at hown2
                rw [List.length_append, strC, List.map_append]; exact hown2)
              have HB2 := Lib.hid (show Below w.heap.size w w2 from (HB.out.alloc HBS.out _).grown hg2 (by have := HBS.out; simp; omega) (fun k hk => (hown.lt k hk).1))
              clear hown hown2 hg2 hat
              go_wp2_with fail
              go_roundw
              case rel => exact ⟨j, ps ++ [q], by go_num, by omega, by rw [List.length_append]; simp; omega, HSH.out, HO2.out, HB2.out⟩
              case measure => simp [intOf]; omega

    · have t1 : decide ((k : Int) < (s.size : Int)) = false := decide_eq_false (by omega)
      have t2 : decide (k < s.size) = false := decide_eq_false hlt
      have HE := Lib.hid (HT.out.end_ (by rw [HLEN.out]; omega))
      have HO2 := Lib.hid hown
      clear hown
      go_wp2_with fail
      go_ret
      exact ⟨_, rfl, by rw [HE.out]; exact HO2.out, HB.out⟩
end Go.Proofs.YtjbaogoapobhbaaDoor.Fo
