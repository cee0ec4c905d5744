/- Merged: StW5. -/
import Derived.Test.YtfedidiieacakaaDoorTt9
import Derived.Test.YtfedidiieacakaaDoorTt8
import Derived.BigQuiet
import Derived.Deep.RegionHeld3
namespace Go.Proofs.YtfedidiieacakaaDoor.St
open Go.RowKit
open Go.Proofs.YtfedidiieacakaaDoor.Utf
open Go.Proofs.YtfedidiieacakaaDoor.Nu

theorem accD_pre {a b : List UInt8} (he : ∀ i, i < 19 → byt a i = byt b i) :
    accD a 0 4 = accD b 0 4 ∧ accD a 5 2 = accD b 5 2 ∧ accD a 8 2 = accD b 8 2 ∧ accD a 11 2 = accD b 11 2 ∧ accD a 14 2 = accD b 14 2 ∧ accD a 17 2 = accD b 17 2 :=
  ⟨accD_congr 0 4 fun j hj => he _ (by omega), accD_congr 5 2 fun j hj => he _ (by omega), accD_congr 8 2 fun j hj => he _ (by omega), accD_congr 11 2 fun j hj => he _ (by omega), accD_congr 14 2 fun j hj => he _ (by omega), accD_congr 17 2 fun j hj => he _ (by omega)⟩
theorem sec_pre {a b : List UInt8} (h : secOk a) (hl : 19 ≤ b.length) (he : ∀ i, i < 19 → byt a i = byt b i) (hb : endP b 19 = true) : secOk b := by
  obtain ⟨e0, e5, e8, e11, e14, e17⟩ := accD_pre he
  obtain ⟨hf, _, hd⟩ := h
  refine ⟨frm_of hl fun k hk => by rw [← he k hk]; exact frm_at hf k hk, hb, ?_⟩
  rw [← e0, ← e5, ← e8, ← e11, ← e14, ← e17]
  exact hd
def seven (l : List UInt8) : List UInt8 := l.take 8 ++ [55]
theorem b10_digs : ∀ j n k, k < j → isD (byt (b10 j n) k) = true
  | 0, _, k, h => by omega
  | j + 1, n, k, h => by
    rw [b10]
    rcases Nat.lt_or_ge k j with hk | hk
    · rw [byt_app_l _ _ _ (by rw [b10_len]; exact hk)]
      exact b10_digs j (n / 10) k hk
    · obtain rfl : k = j := by omega
      have := byt_app_0 (b10 k (n / 10)) [dg n]
      rw [b10_len] at this
      rw [this, byt_cons_0]
      exact dg_isD n
theorem seven_len (l : List UInt8) (h : l.length = 9) : (seven l).length = 9 := by unfold seven; rw [List.length_append, List.length_take]; simp; omega
theorem seven_byt (l : List UInt8) (h : l.length = 9) (k : Nat) (hk : k < 8) : byt (seven l) k = byt l k := by
  unfold seven
  rw [byt_app_l _ _ _ (by rw [List.length_take]; omega)]
  unfold byt
  rw [List.getD_eq_getElem?_getD, List.getElem?_take, if_pos hk, List.getD_eq_getElem?_getD]
theorem seven_8 (l : List UInt8) (h : l.length = 9) : byt (seven l) 8 = 55 := by
  unfold seven
  have := byt_app_0 (l.take 8) [55]
  rw [List.length_take, show min 8 l.length = 8 by omega] at this
  rw [this]; rfl
def withD (l ds : List UInt8) : List UInt8 := ((l.take 19 ++ [46]) ++ seven ds) ++ [90]
def bare (l : List UInt8) : List UInt8 := l.take 19 ++ [90]
theorem bare_len (l : List UInt8) (h : 19 ≤ l.length) : (bare l).length = 20 := by unfold bare; rw [List.length_append, List.length_take]; simp; omega
theorem take_byt (l t : List UInt8) (h : 19 ≤ l.length) (i : Nat) (hi : i < 19) : byt l i = byt (l.take 19 ++ t) i := by
  rw [byt_app_l _ _ _ (by rw [List.length_take]; omega)]
  unfold byt
  rw [List.getD_eq_getElem?_getD, List.getD_eq_getElem?_getD, List.getElem?_take, if_pos hi]
theorem take_byt' (l t : List UInt8) (h : 19 ≤ l.length) (k : Nat) : byt (l.take 19 ++ t) (19 + k) = byt t k := by
  have := byt_app_r (l.take 19) t k
  rw [List.length_take, show min 19 l.length = 19 by omega] at this
  exact this
theorem bare_ok {l : List UInt8} (h : secOk l) : secOk (bare l) ∧ secV (bare l) = secV l ∧ partN (bare l) = 0 := by
  have hl := frm_len h.1
  have he : ∀ i, i < 19 → byt l i = byt (bare l) i := fun i hi => take_byt l _ hl i hi
  have h20 := bare_len l hl
  refine ⟨sec_pre h (by omega) he (decide_eq_true (.inl ⟨h20, take_byt' l [90] hl 0⟩)), (sec_same he).symm, ?_⟩
  have h0 : ∀ i, i < 9 → partD (bare l) i = (fun _ => 0) i := fun i _ => by unfold partD; rw [if_neg (by omega)]
  unfold partN
  rw [accF_congr 9 h0]
  rfl
theorem with_ok {l : List UInt8} (h : secOk l) {x : Nat} : secOk (withD l (b10 9 x)) ∧ secV (withD l (b10 9 x)) = secV l ∧ 0 < partN (withD l (b10 9 x)) := by
  have hl := frm_len h.1
  have h9 : (b10 9 x).length = 9 := b10_len 9 x
  have s9 := seven_len _ h9
  have e : withD l (b10 9 x) = l.take 19 ++ (46 :: (seven (b10 9 x) ++ [90])) := by unfold withD; simp
  have h30 : (withD l (b10 9 x)).length = 30 := by rw [e, List.length_append, List.length_take, List.length_cons, List.length_append, s9]; simp; omega
  have he : ∀ i, i < 19 → byt l i = byt (withD l (b10 9 x)) i := fun i hi => by rw [e]; exact take_byt l _ hl i hi
  have hd : ∀ k, k < 9 → byt (withD l (b10 9 x)) (20 + k) = byt (seven (b10 9 x)) k := fun k hk => by
    rw [e, show 20 + k = 19 + (k + 1) by omega, take_byt' l _ hl]
    show byt (seven (b10 9 x) ++ [90]) k = _
    rw [byt_app_l _ _ _ (by omega)]
  have h29 : byt (withD l (b10 9 x)) 29 = 90 := by
    rw [e, show 29 = 19 + 10 from rfl, take_byt' l _ hl]
    show byt (seven (b10 9 x) ++ [90]) 9 = _
    have := byt_app_0 (seven (b10 9 x)) [90]
    rw [s9] at this
    rw [this]; rfl
  have h28 : byt (withD l (b10 9 x)) 28 = 55 := by rw [show 28 = 20 + 8 from rfl, hd 8 (by omega), seven_8 _ h9]
  have h19 : byt (withD l (b10 9 x)) 19 = 46 := by rw [e, show 19 = 19 + 0 from rfl, take_byt' l _ hl]; rfl
  have hend : endP (withD l (b10 9 x)) 19 = true := by
    refine decide_eq_true (.inr ⟨by omega, by omega, h19, by rw [h30]; exact h29, by rw [h30]; show byt _ 28 ≠ 48; rw [h28]; decide, (digsK_iff _ _ _).2 fun j hj => ?_⟩)
    rw [h30] at hj
    rw [show 19 + 1 + j = 20 + j by omega, hd j (by omega)]
    rcases Nat.lt_or_ge j 8 with h8 | h8
    · rw [seven_byt _ h9 j h8]; exact b10_digs 9 x j (by omega)
    · obtain rfl : j = 8 := by omega
      rw [seven_8 _ h9]; rfl
  refine ⟨sec_pre h (by omega) he hend, (sec_same he).symm, ?_⟩
  have hlt : accF (fun _ => 0) 9 < partN (withD l (b10 9 x)) := accF_pt 8 (by
    unfold partD
    rw [if_pos (by omega), show 20 + 8 = 28 from rfl, h28]
    decide) 9 (by omega) (fun i _ => Nat.zero_le _)
  exact Nat.lt_of_le_of_lt (Nat.zero_le _) hlt
theorem back_cmp {l : List UInt8} (h : secOk l) (x : Nat) : cmpS (bare l) (withD l (b10 9 x)) = -1 := by
  obtain ⟨a1, a2, a3⟩ := bare_ok h
  obtain ⟨b1, b2, b3⟩ := with_ok h (x := x)
  unfold cmpS
  rw [if_pos a1, if_pos b1, cmp_erl a1 b1, if_pos (.inr ⟨by omega, by omega⟩)]
theorem addB (a b : List UInt8) (X Y : ByteArray) (hx : X.data.toList = a) (hy : Y.data.toList = b) (h : a.length + b.length ≤ 1000) (w : World) : (Op.stringOp .add X Y).run Tryd.prog w = .ok (.string (strOf (a ++ b))) w := by
  have e1 : X = strOf a := by rw [← hx]; rfl
  have e2 : Y = strOf b := by rw [← hy]; rfl
  rw [e1, e2, run_string_add_sum w _ _ (by rw [strOf_size, strOf_size]; omega)]
  unfold strOf; rw [ByteArray.mk_append_mk]
theorem own_seven {w : World} {B g cap : Nat} {ds : List UInt8} (h : w.ownsRow B 5 1 (.slice (some ⟨g, 0, none⟩) 9 cap) 9 (Lib.byteCells ds)) (hl : ds.length = 9) :
    (∃ v, w.cell? ⟨g, 8, none⟩ = some v) ∧ w.frozen? ⟨g, 8, none⟩ = false ∧ B ≤ g ∧ Rd (w.setCell ⟨g, 8, none⟩ (.int .u8 55)) (g + 1) (.slice (some ⟨g, 0, none⟩) 9 cap) (Lib.byteCells (seven ds)) := by
  rcases h.2 with ⟨h0, _⟩ | ⟨g', cap', cur, he, hB, hh, h9, h10, h11, h12⟩
  · cases h0
  · injection he with e1 _ e3
    injection e1 with e1
    injection e1 with e1 _ _
    subst e1 e3
    have hsz : 9 ≤ cur.size := by
      have := congrArg List.length h12
      rw [Lib.byteCells_length, hl, List.length_take] at this
      simp at this
      omega
    have hrow := stSet' w g 8 cur 5 (0, 0) (.int .u8 55) hh
    have hold : ∀ j, j < 9 → cur[j]? = some (.int .u8 (byt ds j)) := fun j hj => by
      have h := congrArg (·[j]?) h12
      simp only [List.getElem?_take, Nat.mul_one, if_pos hj] at h
      rw [Array.getElem?_toList] at h
      rw [h, Lib.byteCells, List.getElem?_map, List.getElem?_eq_getElem (by omega), Option.map_some, byt_in (by omega)]
    refine ⟨⟨_, (cell_of_row w g 8 _ _ _ hh).trans (hold 8 (by omega))⟩, frozen_of_row w g 8 _ _ hh, hB, some ⟨g, 0, none⟩, cap, by rw [Lib.byteCells_length, seven_len _ hl], fun _ => ⟨_, rfl, by show g < g + 1; omega, fun j u hu => ?_⟩⟩
    have hp : (⟨g, 0, none⟩ : Addr).add j = ⟨g, j, none⟩ := by unfold Addr.add; split <;> simp_all
    have hj : j < 9 := by
      rcases Nat.lt_or_ge j 9 with h1 | h1
      · exact h1
      · rw [List.getElem?_eq_none (by rw [Lib.byteCells_length, seven_len _ hl]; exact h1)] at hu; cases hu
    have hu2 : u = .int .u8 (byt (seven ds) j) := by
      rw [Lib.byteCells, List.getElem?_map, List.getElem?_eq_getElem (by rw [seven_len _ hl]; exact hj), Option.map_some] at hu
      rw [byt_in (by rw [seven_len _ hl]; exact hj)]
      exact (Option.some.inj hu).symm
    rw [hp, cell_of_row _ g j _ _ _ hrow, hu2]
    rcases Nat.lt_or_ge j 8 with h8 | h8
    · rw [Array.getElem?_setIfInBounds_ne (by omega), hold j hj, seven_byt _ hl j h8]
    · obtain rfl : j = 8 := by omega
      rw [Array.getElem?_setIfInBounds_self_of_lt (by omega), seven_8 _ hl]

set_option maxRecDepth 100000 in
set_option maxHeartbeats 2000000 in
theorem back_walk (s : ByteArray) (part : Int) (w : World) (hs : s.size ≤ reachBytes) (hp : (Lit.int .u32 part).wf = true) (T : Tab w) :
    Calls Tryd.prog 8 #[.string s, .int .u32 part] w fun e w' => e = .returned (.bool true) ∧ Below w.heap.size w w' := by
  obtain ⟨i0, hi, hz0, hz1, hz2⟩ := info_parts infoU8
  have h63 : s.size ≤ 9223372036854775807 := by unfold reachBytes at hs; omega
  have hpb : 0 ≤ part ∧ part ≤ 4294967295 := by
    have := bounds_u32 hp
    omega
  have C1 := Lib.hid (fun wx (h : Tab wx) => Seconds_any s wx h h63)
  have C2 := Lib.hid (fun wx (h : Tab wx) => awake_any11 wx h)
  by_cases ho : secOk s.data.toList
  case neg =>
    rw [secN_no ho, decide_eq_false ho] at C1
    clear ho
    go_enter Tryd.func8, Tryd.ntmps8
    go_wp2_with fail
    refine (C1.out _ T).mono ?_
    rintro e x1 ⟨rfl, hb1⟩
    have HB1 := Lib.hid hb1
    clear hb1
    go_wp2_with fail
    refine (C2.out _ (T.below HB1.out)).mono ?_
    rintro e x2 ⟨rfl, hb2⟩
    have HB2 := Lib.hid (HB1.out.trans (hb2.mono HB1.out.size))
    clear hb2
    go_wp2_with fail
    refine (C2.out _ (T.below HB2.out)).mono ?_
    rintro e x3 ⟨rfl, hb3⟩
    have HB3 := Lib.hid (HB2.out.trans (hb3.mono HB2.out.size))
    clear hb3
    go_wp2_with fail
    go_ret
    exact ⟨rfl, HB3.out⟩
  rw [secN_yes ho, decide_eq_true ho] at C1
  have h19 : 19 ≤ s.size := frm_len ho.1
  have k19 : (19 : Int) ≤ (s.size : Int) := by omega
  obtain ⟨X, hX⟩ : ∃ X : Nat, part % 1000000000 = X := ⟨(part % 1000000000).toNat, by omega⟩
  have hXb : X ≤ 999999999 := by omega
  have hX2 := tmod_pos hpb.1 1000000000
  rw [hX] at hX2
  have hlt : (s.data.toList.take 19).length = 19 := by rw [List.length_take, len_data]; omega
  have hbd := secV_bd ho
  have a1 := fun wx => addB (s.data.toList.take 19) [46] (s.extract 0 19) ⟨#[46]⟩ (exT s 19) rfl (by rw [hlt]; decide) wx
  have a2 := fun wx => addB (s.data.toList.take 19 ++ [46]) (seven (b10 9 X)) (strOf (s.data.toList.take 19 ++ [46])) ⟨(seven (b10 9 X)).toArray⟩ rfl rfl (by rw [List.length_append, hlt, seven_len _ (b10_len 9 X)]; decide) wx
  have a3 := fun wx => addB (s.data.toList.take 19 ++ [46] ++ seven (b10 9 X)) [90] (strOf (s.data.toList.take 19 ++ [46] ++ seven (b10 9 X))) ⟨#[90]⟩ rfl rfl (by rw [List.length_append, List.length_append, hlt, seven_len _ (b10_len 9 X)]; decide) wx
  have a4 := fun wx => addB (s.data.toList.take 19) [90] (s.extract 0 19) ⟨#[90]⟩ (exT s 19) rfl (by rw [hlt]; decide) wx
  obtain ⟨w1, w2, w3⟩ := with_ok ho (x := X)
  have hcmp := back_cmp ho X
  have hmk := mk_sec ho
  have hwl : (withD s.data.toList (b10 9 X)).length ≤ 30 := by
    unfold withD; rw [List.length_append, List.length_append, List.length_append, hlt, seven_len _ (b10_len 9 X)]; decide
  have hbl : (bare s.data.toList).length ≤ 20 := by rw [bare_len _ (by rw [len_data]; omega)]; decide
  have CW := Lib.hid (fun wx (h : Tab wx) => Seconds_any (strOf (withD s.data.toList (b10 9 X))) wx h (by rw [strOf_size]; omega))
  rw [strOf_data, secN_yes w1, decide_eq_true w1, w2] at CW
  have CC := Lib.hid (fun wx (h : Tab wx) => stCompare_any (strOf (bare s.data.toList)) (strOf (withD s.data.toList (b10 9 X))) wx h (by rw [strOf_size]; omega) (by rw [strOf_size]; omega))
  rw [strOf_data, strOf_data, hcmp] at CC
  have CM := Lib.hid (fun wx (h : Tab wx) => (stMake_any (secV s.data.toList) wx h (by omega) (by omega)).mono fun e w' hm => mk_is hm hmk)
  obtain ⟨n, hn⟩ : ∃ n, secV s.data.toList = n := ⟨_, rfl⟩
  rw [hn] at C1 CW CM
  obtain ⟨S1, hS1⟩ : ∃ S, strOf (s.data.toList.take 19 ++ [46]) = S := ⟨_, rfl⟩
  obtain ⟨S2, hS2⟩ : ∃ S, strOf (s.data.toList.take 19 ++ [46] ++ seven (b10 9 X)) = S := ⟨_, rfl⟩
  obtain ⟨S3, hS3⟩ : ∃ S, strOf (withD s.data.toList (b10 9 X)) = S := ⟨_, rfl⟩
  obtain ⟨Z, hZ⟩ : ∃ S, strOf (bare s.data.toList) = S := ⟨_, rfl⟩
  rw [hS1] at a1 a2
  rw [hS2] at a2 a3
  replace a3 : ∀ wx : World, (Op.stringOp .add S2 ⟨#[90]⟩).run Tryd.prog wx = .ok (.string S3) wx := fun wx => by rw [← hS3]; exact a3 wx
  replace a4 : ∀ wx : World, (Op.stringOp .add (s.extract 0 19) ⟨#[90]⟩).run Tryd.prog wx = .ok (.string Z) wx := fun wx => by rw [← hZ]; exact a4 wx
  replace a1 : ∀ wx : World, (Op.stringOp .add (s.extract 0 19) ⟨#[46]⟩).run Tryd.prog wx = .ok (.string S1) wx := a1
  rw [hS3] at CW CC
  rw [hZ] at CC
  replace CM := Lib.hid (show ∀ wx, Tab wx → Calls Tryd.prog 15 #[.int .i64 n] wx fun e w' => e = .returned (.string Z) ∧ Below wx.heap.size wx w' by rw [← hZ]; exact CM.out)
  have tz : (Z.toList == Z.toList) = true := beq_self_eq_true _
  have tn : (n == n) = true := beq_self_eq_true n
  clear ho h19 hlt hbd w1 w2 w3 hcmp hmk hwl hbl hn hS1 hS2 hS3 hZ hs h63 hp
  go_enter Tryd.func8, Tryd.ntmps8
  go_wp2_with fail
  refine (C1.out _ T).mono ?_
  rintro e x1 ⟨rfl, hb1⟩
  have HB1 := Lib.hid hb1
  clear hb1
  go_wp2_with fail
  refine (C2.out _ (T.below HB1.out)).mono ?_
  rintro e x2 ⟨rfl, hb2⟩
  have HB2 := Lib.hid (HB1.out.trans (hb2.mono HB1.out.size))
  clear hb2
  go_wp2_with fail
  go_loopw [7, 8, 9] (fun x v i wr => ∃ (j m q : Nat) (ds : List UInt8), i = .int .i64 j ∧ j + m = 9 ∧ x = .int .u32 q ∧ Aside (DgI 9 X m q ds) ∧ Aside (wr.ownsRow w.heap.size 5 1 v j (Lib.byteCells ds)) ∧ Aside (Below w.heap.size w wr)) (fun _ _ i _ => 9 - (intOf i).toNat)
  case atStart => exact ⟨0, 9, X, [], rfl, by omega, rfl, DgI_0 9 X, World.ownsRow_nil _ _ _ _, HB2.out⟩
  case round =>
    obtain ⟨j, m, q, ds, rfl, hjm, rfl, hI, hown, hbel⟩ := hrel
    have HI := Lib.hid hI.out
    have HO := Lib.hid hown.out
    have HB := Lib.hid hbel.out
    clear hI hown hbel hX hX2
    by_cases hlt : j < 9
    · have t1 : decide ((j : Int) < 9) = true := decide_eq_true (by omega)
      obtain ⟨m, rfl⟩ : ∃ m', m = m' + 1 := ⟨m - 1, by omega⟩
      have HN := Lib.hid (DgI_next HI.out)
      have hq : q ≤ 999999999 := by have := HI.out.2.1; omega
      have e1 := tmod_pos (y := (q : Int)) (by omega) 10
      have e2 := tdiv_pos (y := (q : Int)) (by omega) 10
      have hdg : ((dg q).toNat : Int) = 48 + (q : Int) % 10 := by rw [dg_nat]; omega
      obtain ⟨c, hc⟩ : ∃ c : Int, 48 + (q : Int) % 10 = c := ⟨_, rfl⟩
      have hcb : 48 ≤ c ∧ c ≤ 57 := by omega
      have x1 : IntKind.u8.wrap c = c := IntWalk.u8_in _ (by omega)
      have x2 : IntKind.u32.wrap c = c := IntWalk.u32_in _ (by omega)
      rw [hc] at hdg
      have HCE := Lib.hid (show Lib.byteCells [dg q] = [.int .u8 c] by show [Value.int .u8 ((dg q).toNat : Int)] = _; rw [hdg])
      have hown1 : (wr.alloc (.cells #[.int .u8 c] 5)).ownsRow w.heap.size 5 1 (.slice (some ⟨wr.heap.size, 0, none⟩) 1 1) 1 [.int .u8 c] := own_new rfl HB.out.size (by show 1 ≤ maxLen; unfold maxLen; omega)
      have HO1 := Lib.hid hown1
      have HBA := Lib.hid (HB.out.alloc HB.out.size (.cells #[.int .u8 c] 5))
      have hdl : ds.length = j := by have := HI.out.1; omega
      have HDL := Lib.hid hdl
      clear hdg hown1 hdl
      rcases own_forms HO.out with ⟨rfl, h0⟩ | ⟨g, cap, rfl⟩
      · subst h0
        have hds : ds = [] := List.eq_nil_of_length_eq_zero HDL.out
        subst hds
        go_wp2_with (at_builtin; refine wpList_append_own_none rfl _ _ 34 rfl w.heap.size 5 i0 1 Tryd.underlying34 hi _ 1 _ rfl HO1.out rfl ?_)
        go_roundw
        case rel => exact ⟨1, m, q / 10, [dg q], by go_num, by omega, by go_num, HN.out, (by rw [HCE.out]; exact HO1.out), HBA.out⟩
        case measure => simp [intOf]
      · go_wp2_with (at_builtin; refine wpList_append_own _ rfl _ _ 34 rfl w.heap.size 5 i0 (.int .u8 0) 1 1 Tryd.underlying34 hi hz0 hz1 hz2 rfl (by decide) _ 1 _ rfl HO1.out ⟨g, 0, none⟩ j cap (Lib.byteCells ds) rfl (by rw [Lib.byteCells_length, HDL.out, Nat.mul_one]) (own_news HO.out _) (byteCells_one _) ?_ ?_ ?_ ?_; (unfold maxLen; omega); omega; exact HBA.out.size; intro v1 w1 hown1 hg1 _)
        have HG := Lib.hid (HBA.out.grown hg1 HBA.out.size (fun k hk => (HO1.out.lt k hk).1))
        have HOW := Lib.hid hown1
        clear hown1 hg1
        go_roundw
        case rel => exact ⟨j + 1, m, q / 10, dg q :: ds, by go_num, by omega, by go_num, HN.out, (by
          have h := HOW.out
          rw [← HCE.out, Nat.add_comm 1 j] at h
          exact h), HG.out⟩
        case measure => simp [intOf]; omega
    · obtain rfl : j = 9 := by omega
      have t1 : decide (((9 : Nat) : Int) < 9) = false := by decide
      obtain rfl : m = 0 := by omega
      have he := DgI_end HI.out
      have hl9 : ds.length = 9 := by have := HI.out.1; omega
      rcases own_forms HO.out with ⟨rfl, h0⟩ | ⟨g, cap, rfl⟩
      · omega
      obtain ⟨⟨ov, hcell⟩, hfr, hBg, hrd⟩ := own_seven HO.out hl9
      rw [← he] at hrd
      obtain ⟨W7, hW7⟩ : ∃ W7, wr.setCell ⟨g, 8, none⟩ (.int .u8 55) = W7 := ⟨_, rfl⟩
      have HB7 := Lib.hid (show Below w.heap.size w W7 by rw [← hW7]; exact HB.out.setCell (p := ⟨g, 8, none⟩) hBg _)
      rw [hW7] at hrd
      have HRD := Lib.hid hrd
      have HW7 := Lib.hid hW7
      clear he hl9 hBg hrd hW7 hjm hlt
      go_wp2_with fail
      rw [HW7.out]
      refine wp_region_held_drew (S := fun w' => Below w.heap.size w w' ∧ Rd w' (g + 1) (.slice (some ⟨g, 0, none⟩) 9 cap) (Lib.byteCells (seven (b10 9 X)))) (by kernel_rfl) (⟨HB7.out.drew, HRD.out.keep fun _ _ => rfl⟩) (fun hHeld => ?_)
      refine wpAnyH_take (i := 0) (oi := { dst := some 42, op := Op.move (Operand.tmp 0), type := 9, pos := "law.go:75", after := #[], guard := none }) (v := ?_) rfl (by kernel_rfl) (by kernel_rfl) (by kernel_rfl) (fun _ _ _ h => h) (Or.inl ⟨by rfl, ?_⟩) hHeld ?_
      rotate_left
      · intro w hSw; (try dsimp only at hSw); go_simp; with_reducible rfl
      try simp only [Act.put, List.setIfInBounds_toArray, List.set_cons_zero, List.set_cons_succ]
      refine wpAnyH_take (i := 1) (oi := { dst := some 43, op := Op.slice 9 (Operand.tmp 42) none (some (Operand.const (Value.int IntKind.i64 19))) none, type := 9, pos := "law.go:75", after := #[{ on := 0, ground := Ground.data }], guard := none }) (v := ?_) rfl (by kernel_rfl) (by kernel_rfl) (by kernel_rfl) (fun _ _ _ h => h) (Or.inl ⟨by rfl, ?_⟩) hHeld ?_
      rotate_left
      · intro w hSw; (try dsimp only at hSw); go_simp; with_reducible rfl
      try simp only [Act.put, List.setIfInBounds_toArray, List.set_cons_zero, List.set_cons_succ]
      refine wpAnyH_take (i := 2) (oi := { dst := some 44, op := Op.binOp BinOp.add 9 (Operand.tmp 43) (Operand.const (Value.string { data := #[46] })) 9, type := 9, pos := "law.go:75", after := #[{ on := 1, ground := Ground.data }], guard := none }) (v := ?_) rfl (by kernel_rfl) (by kernel_rfl) (by kernel_rfl) (fun _ _ _ h => h) (Or.inl ⟨by rfl, ?_⟩) hHeld ?_
      rotate_left
      · intro w hSw; (try dsimp only at hSw); go_simp; with_reducible rfl
      try simp only [Act.put, List.setIfInBounds_toArray, List.set_cons_zero, List.set_cons_succ]
      refine wpAnyH_take (i := 3) (oi := { dst := some 45, op := Op.move (Operand.tmp 8), type := 34, pos := "law.go:75", after := #[], guard := none }) (v := ?_) rfl (by kernel_rfl) (by kernel_rfl) (by kernel_rfl) (fun _ _ _ h => h) (Or.inl ⟨by rfl, ?_⟩) hHeld ?_
      rotate_left
      · intro w hSw; (try dsimp only at hSw); go_simp; with_reducible rfl
      try simp only [Act.put, List.setIfInBounds_toArray, List.set_cons_zero, List.set_cons_succ]
      refine wpAnyH_take (i := 4) (oi := { dst := some 46, op := Op.convert 34 9 (Operand.tmp 45), type := 9, pos := "law.go:75", after := #[{ on := 3, ground := Ground.data }], guard := none }) (v := ?_) rfl (by kernel_rfl) (by kernel_rfl) (by kernel_rfl) (fun _ _ _ h => h) (Or.inl ⟨by rfl, ?_⟩) hHeld ?_
      rotate_left
      · intro w hSw; (try dsimp only at hSw); have q := hSw.2.conv (P := Tryd.prog) Tryd.underlying34 Tryd.underlying5 Tryd.underlying9; clear hSw; go_simp; with_reducible rfl
      try simp only [Act.put, List.setIfInBounds_toArray, List.set_cons_zero, List.set_cons_succ]
      refine wpAnyH_take (i := 5) (oi := { dst := some 47, op := Op.binOp BinOp.add 9 (Operand.tmp 44) (Operand.tmp 46) 9, type := 9, pos := "law.go:75", after := #[{ on := 2, ground := Ground.data }, { on := 4, ground := Ground.data }], guard := none }) (v := ?_) rfl (by kernel_rfl) (by kernel_rfl) (by kernel_rfl) (fun _ _ _ h => h) (Or.inl ⟨by rfl, ?_⟩) hHeld ?_
      rotate_left
      · intro w hSw; (try dsimp only at hSw); go_simp; with_reducible rfl
      try simp only [Act.put, List.setIfInBounds_toArray, List.set_cons_zero, List.set_cons_succ]
      refine wpAnyH_take (i := 6) (oi := { dst := some 48, op := Op.binOp BinOp.add 9 (Operand.tmp 47) (Operand.const (Value.string { data := #[90] })) 9, type := 9, pos := "law.go:75", after := #[{ on := 5, ground := Ground.data }], guard := none }) (v := ?_) rfl (by kernel_rfl) (by kernel_rfl) (by kernel_rfl) (fun _ _ _ h => h) (Or.inl ⟨by rfl, ?_⟩) hHeld ?_
      rotate_left
      · intro w hSw; (try dsimp only at hSw); go_simp; with_reducible rfl
      try simp only [Act.put, List.setIfInBounds_toArray, List.set_cons_zero, List.set_cons_succ]
      refine wpAnyH_take (i := 7) (oi := { dst := some 10, op := Op.assign (Operand.tmp 48), type := 9, pos := "law.go:75", after := #[{ on := 6, ground := Ground.data }, { on := 0, ground := Ground.phase }, { on := 1, ground := Ground.phase }, { on := 2, ground := Ground.phase }, { on := 3, ground := Ground.phase }, { on := 4, ground := Ground.phase }, { on := 5, ground := Ground.phase }, { on := 6, ground := Ground.phase }], guard := none }) (v := ?_) rfl (by kernel_rfl) (by kernel_rfl) (by kernel_rfl) (fun _ _ _ h => h) (Or.inl ⟨by rfl, ?_⟩) hHeld ?_
      rotate_left
      · intro w hSw; (try dsimp only at hSw); go_simp; with_reducible rfl
      try simp only [Act.put, List.setIfInBounds_toArray, List.set_cons_zero, List.set_cons_succ]
      refine wpAnyH_done (by kernel_rfl) ?_ _
      go_wp2_with fail
      refine (CW.out _ (T.below hHeld.1)).mono ?_
      rintro e x8 ⟨rfl, hb8⟩
      have HB8 := Lib.hid (hHeld.1.trans (hb8.mono hHeld.1.size))
      clear hb8 hHeld
      go_wp2_with fail
      refine wp_region_held_drew (S := fun w' => Below w.heap.size w w') (by kernel_rfl) (HB8.out.drew) (fun hHeld => ?_)
      refine wpAnyH_take (i := 0) (oi := { dst := some 54, op := Op.move (Operand.tmp 5), type := 2, pos := "law.go:77", after := #[], guard := none }) (v := ?_) rfl (by kernel_rfl) (by kernel_rfl) (by kernel_rfl) (fun _ _ _ h => h) (Or.inl ⟨by rfl, ?_⟩) hHeld ?_
      rotate_left
      · intro w hSw; (try dsimp only at hSw); go_simp; with_reducible rfl
      try simp only [Act.put, List.setIfInBounds_toArray, List.set_cons_zero, List.set_cons_succ]
      refine wpAnyH_take (i := 2) (oi := { dst := some 56, op := Op.move (Operand.tmp 0), type := 9, pos := "law.go:77", after := #[], guard := none }) (v := ?_) rfl (by kernel_rfl) (by kernel_rfl) (by kernel_rfl) (fun _ _ _ h => h) (Or.inl ⟨by rfl, ?_⟩) hHeld ?_
      rotate_left
      · intro w hSw; (try dsimp only at hSw); go_simp; with_reducible rfl
      try simp only [Act.put, List.setIfInBounds_toArray, List.set_cons_zero, List.set_cons_succ]
      refine wpAnyH_take (i := 3) (oi := { dst := some 57, op := Op.slice 9 (Operand.tmp 56) none (some (Operand.const (Value.int IntKind.i64 19))) none, type := 9, pos := "law.go:77", after := #[{ on := 2, ground := Ground.data }], guard := none }) (v := ?_) rfl (by kernel_rfl) (by kernel_rfl) (by kernel_rfl) (fun _ _ _ h => h) (Or.inl ⟨by rfl, ?_⟩) hHeld ?_
      rotate_left
      · intro w hSw; (try dsimp only at hSw); go_simp; with_reducible rfl
      try simp only [Act.put, List.setIfInBounds_toArray, List.set_cons_zero, List.set_cons_succ]
      refine wpAnyH_take (i := 4) (oi := { dst := some 58, op := Op.binOp BinOp.add 9 (Operand.tmp 57) (Operand.const (Value.string { data := #[90] })) 9, type := 9, pos := "law.go:77", after := #[{ on := 3, ground := Ground.data }], guard := none }) (v := ?_) rfl (by kernel_rfl) (by kernel_rfl) (by kernel_rfl) (fun _ _ _ h => h) (Or.inl ⟨by rfl, ?_⟩) hHeld ?_
      rotate_left
      · intro w hSw; (try dsimp only at hSw); go_simp; with_reducible rfl
      try simp only [Act.put, List.setIfInBounds_toArray, List.set_cons_zero, List.set_cons_succ]
      refine wpAnyH_ready (rs := [1]) (by kernel_rfl) (by simp) ?_
      refine AllReadyH.cons (o := { dst := some 55, op := Op.call { callee := Callee.value (Operand.func 15), args := #[Operand.tmp 54], argTypes := #[2] }, type := 9, pos := "law.go:77", after := #[{ on := 0, ground := Ground.data }], guard := none }) rfl (fun K hK => ?_) AllReadyH.nil
      go_simp
      go_at_call 15
      refine (CM.out _ (T.below hHeld)).mono ?_
      rintro e v1 ⟨rfl, hb⟩
      have HBx := Lib.hid (hHeld.trans (hb.mono hHeld.size))
      clear hb
      refine hK.out _ _ (HBx.out) (fun hHeld => ?_)
      clear hK K
      try simp only [Act.put, List.setIfInBounds_toArray, List.set_cons_zero, List.set_cons_succ]
      clear HBx
      refine wpAnyH_take (i := 5) (oi := { dst := some 59, op := Op.binOp BinOp.eql 9 (Operand.tmp 55) (Operand.tmp 58) 9, type := 4, pos := "law.go:77", after := #[{ on := 1, ground := Ground.data }, { on := 4, ground := Ground.data }], guard := none }) (v := ?_) rfl (by kernel_rfl) (by kernel_rfl) (by kernel_rfl) (fun _ _ _ h => h) (Or.inl ⟨by rfl, ?_⟩) hHeld ?_
      rotate_left
      · intro w hSw; (try dsimp only at hSw); go_simp; with_reducible rfl
      try simp only [Act.put, List.setIfInBounds_toArray, List.set_cons_zero, List.set_cons_succ]
      refine wpAnyH_take (i := 6) (oi := { dst := some 60, op := Op.move (Operand.tmp 59), type := 4, pos := "law.go:77", after := #[{ on := 5, ground := Ground.data }, { on := 1, ground := Ground.chain }], guard := none }) (v := ?_) rfl (by kernel_rfl) (by kernel_rfl) (by kernel_rfl) (fun _ _ _ h => h) (Or.inl ⟨by rfl, ?_⟩) hHeld ?_
      rotate_left
      · intro w hSw; (try dsimp only at hSw); go_simp; with_reducible rfl
      try simp only [Act.put, List.setIfInBounds_toArray, List.set_cons_zero, List.set_cons_succ]
      refine wpAnyH_take (i := 7) (oi := { dst := some 61, op := Op.move (Operand.tmp 12), type := 4, pos := "law.go:77", after := #[{ on := 6, ground := Ground.guard }], guard := some (6, true) }) (v := ?_) rfl (by kernel_rfl) (by kernel_rfl) (by kernel_rfl) (fun _ _ _ h => h) (Or.inl ⟨by rfl, ?_⟩) hHeld ?_
      rotate_left
      · intro w hSw; (try dsimp only at hSw); go_simp; with_reducible rfl
      try simp only [Act.put, List.setIfInBounds_toArray, List.set_cons_zero, List.set_cons_succ]
      refine wpAnyH_take (i := 8) (oi := { dst := some 62, op := Op.pick (Operand.tmp 60) (Operand.tmp 61) (Operand.const (Value.bool false)), type := 4, pos := "law.go:77", after := #[{ on := 6, ground := Ground.data }, { on := 7, ground := Ground.data }], guard := none }) (v := ?_) rfl (by kernel_rfl) (by kernel_rfl) (by kernel_rfl) (fun _ _ _ h => h) (Or.inl ⟨by rfl, ?_⟩) hHeld ?_
      rotate_left
      · intro w hSw; (try dsimp only at hSw); go_simp; with_reducible rfl
      try simp only [Act.put, List.setIfInBounds_toArray, List.set_cons_zero, List.set_cons_succ]
      refine wpAnyH_take (i := 9) (oi := { dst := some 63, op := Op.move (Operand.tmp 62), type := 4, pos := "law.go:77", after := #[{ on := 8, ground := Ground.data }, { on := 6, ground := Ground.chain }], guard := none }) (v := ?_) rfl (by kernel_rfl) (by kernel_rfl) (by kernel_rfl) (fun _ _ _ h => h) (Or.inl ⟨by rfl, ?_⟩) hHeld ?_
      rotate_left
      · intro w hSw; (try dsimp only at hSw); go_simp; with_reducible rfl
      try simp only [Act.put, List.setIfInBounds_toArray, List.set_cons_zero, List.set_cons_succ]
      refine wpAnyH_take (i := 10) (oi := { dst := some 64, op := Op.move (Operand.tmp 11), type := 2, pos := "law.go:77", after := #[{ on := 9, ground := Ground.guard }], guard := some (9, true) }) (v := ?_) rfl (by kernel_rfl) (by kernel_rfl) (by kernel_rfl) (fun _ _ _ h => h) (Or.inl ⟨by rfl, ?_⟩) hHeld ?_
      rotate_left
      · intro w hSw; (try dsimp only at hSw); go_simp; with_reducible rfl
      try simp only [Act.put, List.setIfInBounds_toArray, List.set_cons_zero, List.set_cons_succ]
      refine wpAnyH_take (i := 11) (oi := { dst := some 65, op := Op.move (Operand.tmp 5), type := 2, pos := "law.go:77", after := #[{ on := 9, ground := Ground.guard }], guard := some (9, true) }) (v := ?_) rfl (by kernel_rfl) (by kernel_rfl) (by kernel_rfl) (fun _ _ _ h => h) (Or.inl ⟨by rfl, ?_⟩) hHeld ?_
      rotate_left
      · intro w hSw; (try dsimp only at hSw); go_simp; with_reducible rfl
      try simp only [Act.put, List.setIfInBounds_toArray, List.set_cons_zero, List.set_cons_succ]
      refine wpAnyH_take (i := 12) (oi := { dst := some 66, op := Op.binOp BinOp.eql 2 (Operand.tmp 64) (Operand.tmp 65) 2, type := 4, pos := "law.go:77", after := #[{ on := 10, ground := Ground.data }, { on := 11, ground := Ground.data }, { on := 9, ground := Ground.guard }], guard := some (9, true) }) (v := ?_) rfl (by kernel_rfl) (by kernel_rfl) (by kernel_rfl) (fun _ _ _ h => h) (Or.inl ⟨by rfl, ?_⟩) hHeld ?_
      rotate_left
      · intro w hSw; (try dsimp only at hSw); go_simp; with_reducible rfl
      try simp only [Act.put, List.setIfInBounds_toArray, List.set_cons_zero, List.set_cons_succ]
      refine wpAnyH_take (i := 13) (oi := { dst := some 67, op := Op.pick (Operand.tmp 63) (Operand.tmp 66) (Operand.const (Value.bool false)), type := 4, pos := "law.go:77", after := #[{ on := 9, ground := Ground.data }, { on := 12, ground := Ground.data }], guard := none }) (v := ?_) rfl (by kernel_rfl) (by kernel_rfl) (by kernel_rfl) (fun _ _ _ h => h) (Or.inl ⟨by rfl, ?_⟩) hHeld ?_
      rotate_left
      · intro w hSw; (try dsimp only at hSw); go_simp; with_reducible rfl
      try simp only [Act.put, List.setIfInBounds_toArray, List.set_cons_zero, List.set_cons_succ]
      refine wpAnyH_take (i := 14) (oi := { dst := some 68, op := Op.move (Operand.tmp 67), type := 4, pos := "law.go:77", after := #[{ on := 13, ground := Ground.data }, { on := 9, ground := Ground.chain }], guard := none }) (v := ?_) rfl (by kernel_rfl) (by kernel_rfl) (by kernel_rfl) (fun _ _ _ h => h) (Or.inl ⟨by rfl, ?_⟩) hHeld ?_
      rotate_left
      · intro w hSw; (try dsimp only at hSw); go_simp; with_reducible rfl
      try simp only [Act.put, List.setIfInBounds_toArray, List.set_cons_zero, List.set_cons_succ]
      refine wpAnyH_take (i := 15) (oi := { dst := some 69, op := Op.move (Operand.tmp 0), type := 9, pos := "law.go:77", after := #[{ on := 14, ground := Ground.guard }], guard := some (14, true) }) (v := ?_) rfl (by kernel_rfl) (by kernel_rfl) (by kernel_rfl) (fun _ _ _ h => h) (Or.inl ⟨by rfl, ?_⟩) hHeld ?_
      rotate_left
      · intro w hSw; (try dsimp only at hSw); go_simp; with_reducible rfl
      try simp only [Act.put, List.setIfInBounds_toArray, List.set_cons_zero, List.set_cons_succ]
      refine wpAnyH_take (i := 16) (oi := { dst := some 70, op := Op.slice 9 (Operand.tmp 69) none (some (Operand.const (Value.int IntKind.i64 19))) none, type := 9, pos := "law.go:77", after := #[{ on := 15, ground := Ground.data }, { on := 14, ground := Ground.guard }], guard := some (14, true) }) (v := ?_) rfl (by kernel_rfl) (by kernel_rfl) (by kernel_rfl) (fun _ _ _ h => h) (Or.inl ⟨by rfl, ?_⟩) hHeld ?_
      rotate_left
      · intro w hSw; (try dsimp only at hSw); go_simp; with_reducible rfl
      try simp only [Act.put, List.setIfInBounds_toArray, List.set_cons_zero, List.set_cons_succ]
      refine wpAnyH_take (i := 17) (oi := { dst := some 71, op := Op.binOp BinOp.add 9 (Operand.tmp 70) (Operand.const (Value.string { data := #[90] })) 9, type := 9, pos := "law.go:77", after := #[{ on := 16, ground := Ground.data }, { on := 14, ground := Ground.guard }], guard := some (14, true) }) (v := ?_) rfl (by kernel_rfl) (by kernel_rfl) (by kernel_rfl) (fun _ _ _ h => h) (Or.inl ⟨by rfl, ?_⟩) hHeld ?_
      rotate_left
      · intro w hSw; (try dsimp only at hSw); go_simp; with_reducible rfl
      try simp only [Act.put, List.setIfInBounds_toArray, List.set_cons_zero, List.set_cons_succ]
      refine wpAnyH_take (i := 18) (oi := { dst := some 72, op := Op.move (Operand.tmp 10), type := 9, pos := "law.go:77", after := #[{ on := 14, ground := Ground.guard }], guard := some (14, true) }) (v := ?_) rfl (by kernel_rfl) (by kernel_rfl) (by kernel_rfl) (fun _ _ _ h => h) (Or.inl ⟨by rfl, ?_⟩) hHeld ?_
      rotate_left
      · intro w hSw; (try dsimp only at hSw); go_simp; with_reducible rfl
      try simp only [Act.put, List.setIfInBounds_toArray, List.set_cons_zero, List.set_cons_succ]
      refine wpAnyH_ready (rs := [19]) (by kernel_rfl) (by simp) ?_
      refine AllReadyH.cons (o := { dst := some 73, op := Op.call { callee := Callee.value (Operand.func 17), args := #[Operand.tmp 71, Operand.tmp 72], argTypes := #[9, 9] }, type := 3, pos := "law.go:77", after := #[{ on := 17, ground := Ground.data }, { on := 18, ground := Ground.data }, { on := 14, ground := Ground.chain }, { on := 14, ground := Ground.guard }], guard := some (14, true) }) rfl (fun K hK => ?_) AllReadyH.nil
      go_simp
      go_at_call 17
      refine (CC.out _ (T.below hHeld)).mono ?_
      rintro e v2 ⟨rfl, hb⟩
      have HBx := Lib.hid (hHeld.trans (hb.mono hHeld.size))
      clear hb
      refine hK.out _ _ (HBx.out) (fun hHeld => ?_)
      clear hK K
      try simp only [Act.put, List.setIfInBounds_toArray, List.set_cons_zero, List.set_cons_succ]
      clear HBx
      refine wpAnyH_take (i := 20) (oi := { dst := some 74, op := Op.binOp BinOp.eql 3 (Operand.tmp 73) (Operand.const (Value.int IntKind.i64 (-1))) 3, type := 4, pos := "law.go:77", after := #[{ on := 19, ground := Ground.data }, { on := 14, ground := Ground.guard }], guard := some (14, true) }) (v := ?_) rfl (by kernel_rfl) (by kernel_rfl) (by kernel_rfl) (fun _ _ _ h => h) (Or.inl ⟨by rfl, ?_⟩) hHeld ?_
      rotate_left
      · intro w hSw; (try dsimp only at hSw); go_simp; with_reducible rfl
      try simp only [Act.put, List.setIfInBounds_toArray, List.set_cons_zero, List.set_cons_succ]
      refine wpAnyH_take (i := 21) (oi := { dst := some 75, op := Op.pick (Operand.tmp 68) (Operand.tmp 74) (Operand.const (Value.bool false)), type := 4, pos := "law.go:77", after := #[{ on := 14, ground := Ground.data }, { on := 20, ground := Ground.data }], guard := none }) (v := ?_) rfl (by kernel_rfl) (by kernel_rfl) (by kernel_rfl) (fun _ _ _ h => h) (Or.inl ⟨by rfl, ?_⟩) hHeld ?_
      rotate_left
      · intro w hSw; (try dsimp only at hSw); go_simp; with_reducible rfl
      try simp only [Act.put, List.setIfInBounds_toArray, List.set_cons_zero, List.set_cons_succ]
      refine wpAnyH_take (i := 22) (oi := { dst := some 4, op := Op.assign (Operand.tmp 75), type := 4, pos := "law.go:77", after := #[{ on := 21, ground := Ground.data }, { on := 19, ground := Ground.chain }, { on := 0, ground := Ground.phase }, { on := 1, ground := Ground.phase }, { on := 2, ground := Ground.phase }, { on := 3, ground := Ground.phase }, { on := 4, ground := Ground.phase }, { on := 5, ground := Ground.phase }, { on := 6, ground := Ground.phase }, { on := 7, ground := Ground.phase }, { on := 8, ground := Ground.phase }, { on := 9, ground := Ground.phase }, { on := 10, ground := Ground.phase }, { on := 11, ground := Ground.phase }, { on := 12, ground := Ground.phase }, { on := 13, ground := Ground.phase }, { on := 14, ground := Ground.phase }, { on := 15, ground := Ground.phase }, { on := 16, ground := Ground.phase }, { on := 17, ground := Ground.phase }, { on := 18, ground := Ground.phase }, { on := 19, ground := Ground.phase }, { on := 20, ground := Ground.phase }, { on := 21, ground := Ground.phase }], guard := none }) (v := ?_) rfl (by kernel_rfl) (by kernel_rfl) (by kernel_rfl) (fun _ _ _ h => h) (Or.inl ⟨by rfl, ?_⟩) hHeld ?_
      rotate_left
      · intro w hSw; (try dsimp only at hSw); go_simp; with_reducible rfl
      try simp only [Act.put, List.setIfInBounds_toArray, List.set_cons_zero, List.set_cons_succ]
      refine wpAnyH_done (by kernel_rfl) ?_ _
      have HFIN := Lib.hid hHeld
      clear hHeld
      go_wp2
      go_ret
      exact ⟨rfl, HFIN.out⟩
end Go.Proofs.YtfedidiieacakaaDoor.St
