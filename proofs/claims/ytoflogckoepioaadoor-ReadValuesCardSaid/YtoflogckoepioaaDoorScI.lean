import Derived.Test.YtoflogckoepioaaDoorScH
import Derived.Test.YtoflogckoepioaaDoorScE
/- Contract of layer 4's document's answer's Tokens. Written by tools/genScI.py. -/
namespace Go.Proofs.YtoflogckoepioaaDoor.Sc
open Go.RowKit
open Go.Proofs.YtoflogckoepioaaDoor.Utf

theorem World.alloc_heap_size (w : World) (o : Obj) : (w.alloc o).heap.size = w.heap.size + 1 := by simp
theorem World.setCell_size (w : World) (p : Addr) (u : Value) : (w.setCell p u).heap.size = w.heap.size := by simp

set_option maxRecDepth 100000 in
set_option maxHeartbeats 16000000 in
theorem rTokens_any (s : ByteArray) (w : World) (hs : s.size ≤ 9223372036854775807) (ht : Ch.Tab w) :
    Calls Tryd.prog 9 #[.string s] w (GivesToks (scnS s.data.toList) w) := by
  obtain ⟨i0, hi, hz0, hz1, hz2⟩ := info_parts infoTok
  by_cases hl : 65536 < s.size
  · have hd : decide (65536 < s.size) = true := decide_eq_true hl
    have hd2 : decide ((65536 : Int) < (s.size : Int)) = true := decide_eq_true (by omega)
    rw [scnS, if_pos (by rw [len_data]; exact hl)]
    go_enter Tryd.func9, Tryd.ntmps9
    go_wp2_with fail
    go_ret3
    exact ⟨_, rfl, World.ownsRow_nil _ _ _ _, Below.refl _ _⟩
  · have hd : decide (65536 < s.size) = false := decide_eq_false hl
    have hd2 : decide ((65536 : Int) < (s.size : Int)) = false := decide_eq_false (by omega)
    have hs' : s.size ≤ 65536 := by omega
    rw [scnS, if_neg (by rw [len_data]; exact hl)]
    clear hl hs
    have htb : ∀ w', Below w.heap.size w w' → Ch.Tab w' := fun w' hb => ht.below hb ht.1 hb.size
    have HTB := Lib.hid htb; clear htb ht
    go_enter Tryd.func9, Tryd.ntmps9
    go_wp2_with fail
    go_loopw [5, 6, 7, 8, 9, 10] (fun v i _ _ _ _ wr => ∃ (k : Nat) (ts : List Tok), i = .int .i64 k ∧ Scan s.data.toList 0 ts k ∧ wr.ownsRow w.heap.size 44 4 v ts.length (toksC ts) ∧ Below w.heap.size w wr) (fun _ i _ _ _ _ _ => s.size - (intOf i).toNat)
    case atStart => exact ⟨0, [], rfl, .nil _, World.ownsRow_nil _ _ _ _, Below.refl _ _⟩
    case round =>
      obtain ⟨k, ts, rfl, hscan, hown, hbel⟩ := hrel
      have hle := hbel.size
      have hln := hscan.le
      rw [len_data] at hln
      have HSC := Lib.hid hscan; clear hscan
      have HOWN := Lib.hid hown; clear hown
      by_cases hk : k < s.size
      · have hkd : decide ((k : Int) < (s.size : Int)) = true := decide_eq_true (by omega)
        have hkd2 : decide (k < s.size) = true := decide_eq_true hk
        have k0 : (0 : Int) ≤ (k : Int) := by omega
        have k1 : (k : Int) < (s.size : Int) := by omega
        obtain ⟨hl1, hl2, _⟩ := hln
        by_cases hw : isW (s[k].toNat : Int) = true
        · have hst := stp_W (l := s.data.toList) (k := k) (by rw [byt_get s k hk]; exact hw)
          have HST := Lib.hid hst; clear hst
          go_wp2_with (first | (go_at_call 15; refine (White_any _ _).mono ?_; rintro e w' ⟨rfl, rfl⟩))
          go_roundw
          case rel =>
            have := HSC.out.snoc hk HST.out
            exact ⟨k + 1, ts, by go_num, by simpa using this, HOWN.out, hbel⟩
          case measure => simp [intOf]; omega
        have hw' : isW (s[k].toNat : Int) = false := by simpa using hw
        by_cases hc : (s[k].toNat : Int) = 34
        · have hw34 : isW 34 = false := by decide
          clear hw hw'
          have HR := fun w0 ht0 => Ch.rRead_any s k w0 (by omega) ht0
          rcases hR : Ch.readS s.data.toList k with ⟨t, n, er⟩
          rw [hR] at HR
          have hst := stp_T (l := s.data.toList) (k := k) (by rw [byt_get s k hk]; exact hc)
          unfold txT at hst
          rw [hR] at hst
          have hrk := @readS_ok_le s.data.toList k
          rw [hR] at hrk
          simp only at hst hrk
          have HRR := Lib.hid HR
          clear HR hR
          by_cases he : er = 0
          · subst he
            obtain ⟨m, rfl, hm1, hm2⟩ := hrk rfl
            rw [len_data] at hm2
            rw [if_pos rfl] at hst
            have HST := Lib.hid hst
            clear hst hrk
            go_wp2_with (first | (go_at_call 15; refine (White_any _ _).mono ?_; rintro e w' ⟨rfl, rfl⟩))
            refine (HRR.out _ (HTB.out _ (hbel.alloc hle _))).mono ?_
            rintro e w2 ⟨rfl, hb2⟩
            have hsz2 := hb2.size
            simp only [World.alloc_heap_size] at hsz2
            have x0 : w2.heap[wr.heap.size]? = some (.cells #[.int .i64 4, .int .i64 0, .string ⟨#[]⟩, .int .i64 k] 44 (0, 0)) := (hb2.block wr.heap.size (by simp)).trans (heap_alloc_new wr _)
            have y0 : w2.cell? ⟨wr.heap.size, 0, none⟩ = some (.int .i64 4) := (cell_of_row _ _ 0 _ _ _ x0).trans rfl
            have y1 : w2.cell? ⟨wr.heap.size, 1, none⟩ = some (.int .i64 0) := (cell_of_row _ _ 1 _ _ _ x0).trans rfl
            have y2 : w2.cell? ⟨wr.heap.size, 2, none⟩ = some (.string ⟨#[]⟩) := (cell_of_row _ _ 2 _ _ _ x0).trans rfl
            have y3 : w2.cell? ⟨wr.heap.size, 3, none⟩ = some (.int .i64 k) := (cell_of_row _ _ 3 _ _ _ x0).trans rfl
            have z0 : w2.frozen? ⟨wr.heap.size, 0, none⟩ = false := frozen_of_row _ _ 0 _ _ x0
            have z2 : w2.frozen? ⟨wr.heap.size, 2, none⟩ = false := frozen_of_row _ _ 2 _ _ x0
            clear x0
            have OWN := own_far (own_below (HOWN.out.alloc _) hb2) ⟨wr.heap.size, 2, none⟩ (own_not HOWN.out (Nat.le_refl _)) (.string (strOf t))
            have NEW := cells_new' (w2.setCell ⟨wr.heap.size, 2, none⟩ (.string (strOf t))) 44 #[.int .i64 4, .int .i64 0, .string (strOf t), .int .i64 k] (w2.heap.size) (by simp)
            go_wp2_with (at_builtin; refine wpList_append_own _ rfl _ _ 34 rfl w.heap.size 44 i0 _ 4 40 Tryd.underlying34 hi hz0 hz1 hz2 rfl (by decide) u5 ts.length (toksC ts) rfl (OWN.alloc _) ⟨w2.heap.size, 0, none⟩ 1 1 [.int .i64 4, .int .i64 0, .string (strOf t), .int .i64 k] rfl rfl NEW ?_ ?_ ?_ ?_ ?_; (simp [Value.oneCell']); (unfold maxLen; omega); omega; (simp; omega); intro v9 w9 hown9 hg9 _)
            go_roundw
            case rel =>
              refine ⟨m, ts ++ [(4, 0, t, (k : Int))], by go_num, HSC.out.snoc hk HST.out, ?_, ?_⟩
              · rw [toksC_app, toksC_one, List.length_append]; exact hown9
              · exact Below.grown ((((hbel.alloc hle _).trans (hb2.mono (by simp; omega))).setCell (show w.heap.size ≤ wr.heap.size from hle) _).alloc (by simp; omega) _) hg9 (by simp; omega) (fun g hg => (HOWN.out.lt g hg).1)
            case measure => simp [intOf]; omega
          · rw [if_neg he] at hst
            have HST := Lib.hid hst
            have hne : (er != 0) = true := by rw [bne_iff_ne]; exact he
            have HX := Lib.hid (show scn s.data.toList 0 = ([], n, er) by rw [HSC.out.scn, scn_err hk (by rw [HST.out]; exact he), HST.out, consR, if_neg he])
            clear hst hrk
            go_wp2_with (first | (go_at_call 15; refine (White_any _ _).mono ?_; rintro e w' ⟨rfl, rfl⟩))
            refine (HRR.out _ (HTB.out _ (hbel.alloc hle _))).mono ?_
            rintro e w2 ⟨rfl, hb2⟩
            have x0 : w2.heap[wr.heap.size]? = some (.cells #[.int .i64 4, .int .i64 0, .string ⟨#[]⟩, .int .i64 k] 44 (0, 0)) := (hb2.block wr.heap.size (by simp)).trans (heap_alloc_new wr _)
            have y0 : w2.cell? ⟨wr.heap.size, 0, none⟩ = some (.int .i64 4) := (cell_of_row _ _ 0 _ _ _ x0).trans rfl
            have y1 : w2.cell? ⟨wr.heap.size, 1, none⟩ = some (.int .i64 0) := (cell_of_row _ _ 1 _ _ _ x0).trans rfl
            have y2 : w2.cell? ⟨wr.heap.size, 2, none⟩ = some (.string ⟨#[]⟩) := (cell_of_row _ _ 2 _ _ _ x0).trans rfl
            have y3 : w2.cell? ⟨wr.heap.size, 3, none⟩ = some (.int .i64 k) := (cell_of_row _ _ 3 _ _ _ x0).trans rfl
            have z0 : w2.frozen? ⟨wr.heap.size, 0, none⟩ = false := frozen_of_row _ _ 0 _ _ x0
            have z2 : w2.frozen? ⟨wr.heap.size, 2, none⟩ = false := frozen_of_row _ _ 2 _ _ x0
            clear x0
            go_wp2_with fail
            go_ret3
            rw [HX.out]
            exact ⟨_, rfl, World.ownsRow_nil _ _ _ _, ((hbel.alloc hle _).trans (hb2.mono (by simp; omega))).setCell (show w.heap.size ≤ wr.heap.size from hle) _⟩
        by_cases hc45 : (s[k].toNat : Int) = 45
        · have hc := hc45
          have hw45 : isW 45 = false := by decide
          clear hw hw' hc45
          have hnm : isNm (byt s.data.toList k) = true := by rw [byt_get s k hk, hc]; decide
          have HR := Nu.rRead_any s k
          rcases hR : Nu.rdS s.data.toList k with ⟨t, n, er⟩
          rw [hR] at HR
          have hst := stp_N (l := s.data.toList) (k := k) hnm
          unfold nmT at hst
          rw [hR] at hst
          have hrk := @rdN_ok_le s.data.toList k hk
          rw [hR] at hrk
          simp only at hst hrk
          have HRR := Lib.hid HR
          clear HR hR hnm
          by_cases he : er = 0
          · subst he
            obtain ⟨m, rfl, hm1, hm2⟩ := hrk rfl
            rw [len_data] at hm2
            rw [if_pos rfl] at hst
            have HST := Lib.hid hst
            clear hst hrk
            go_wp2_with (first | (go_at_call 15; refine (White_any _ _).mono ?_; rintro e w' ⟨rfl, rfl⟩))
            refine (HRR.out _ (by omega)).mono ?_
            rintro e w2 ⟨rfl, rfl⟩
            have OWN := HOWN.out.alloc (.cells #[.int .i64 3, .int .i64 t, .string ⟨#[]⟩, .int .i64 k] 44)
            have NEW := cells_new' (wr.alloc (.cells #[.int .i64 3, .int .i64 t, .string ⟨#[]⟩, .int .i64 k] 44)) 44 #[.int .i64 3, .int .i64 t, .string ⟨#[]⟩, .int .i64 k] (wr.heap.size + 1) (by simp)
            go_wp2_with (at_builtin; refine wpList_append_own _ rfl _ _ 34 rfl w.heap.size 44 i0 _ 4 40 Tryd.underlying34 hi hz0 hz1 hz2 rfl (by decide) u5 ts.length (toksC ts) rfl (OWN.alloc _) ⟨wr.heap.size + 1, 0, none⟩ 1 1 [.int .i64 3, .int .i64 t, .string ⟨#[]⟩, .int .i64 k] rfl rfl NEW ?_ ?_ ?_ ?_ ?_; (simp [Value.oneCell']); (unfold maxLen; omega); omega; (simp; omega); intro v9 w9 hown9 hg9 _)
            go_roundw
            case rel =>
              refine ⟨m, ts ++ [(3, t, [], (k : Int))], by go_num, HSC.out.snoc hk HST.out, ?_, ?_⟩
              · rw [toksC_app, toksC_one, List.length_append]; exact hown9
              · exact Below.grown ((hbel.alloc hle _).alloc (by simp; omega) _) hg9 (by simp; omega) (fun g hg => (HOWN.out.lt g hg).1)
            case measure => simp [intOf]; omega
          · rw [if_neg he] at hst
            have HST := Lib.hid hst
            have hne : (er != 0) = true := by rw [bne_iff_ne]; exact he
            have HX := Lib.hid (show scn s.data.toList 0 = ([], n, er) by rw [HSC.out.scn, scn_err hk (by rw [HST.out]; exact he), HST.out, consR, if_neg he])
            clear hst hrk
            go_wp2_with (first | (go_at_call 15; refine (White_any _ _).mono ?_; rintro e w' ⟨rfl, rfl⟩))
            refine (HRR.out _ (by omega)).mono ?_
            rintro e w2 ⟨rfl, rfl⟩
            go_wp2_with fail
            go_ret3
            rw [HX.out]
            exact ⟨_, rfl, World.ownsRow_nil _ _ _ _, hbel.alloc hle _⟩
        by_cases hcd : 48 ≤ (s[k].toNat : Int) ∧ (s[k].toNat : Int) ≤ 57
        · have t1 : ((s[k].toNat : Int) == 34) = false := by rw [beq_eq_false_iff_ne]; exact hc
          have t2 : ((s[k].toNat : Int) == 45) = false := by rw [beq_eq_false_iff_ne]; exact hc45
          have t3 : decide ((48 : Int) ≤ (s[k].toNat : Int)) = true := decide_eq_true hcd.1
          have t4 : decide ((s[k].toNat : Int) ≤ 57) = true := decide_eq_true hcd.2
          have hnm : isNm (byt s.data.toList k) = true := by rw [byt_get s k hk, isNm_iff]; omega
          clear hw hc hc45 hcd
          have HR := Nu.rRead_any s k
          rcases hR : Nu.rdS s.data.toList k with ⟨t, n, er⟩
          rw [hR] at HR
          have hst := stp_N (l := s.data.toList) (k := k) hnm
          unfold nmT at hst
          rw [hR] at hst
          have hrk := @rdN_ok_le s.data.toList k hk
          rw [hR] at hrk
          simp only at hst hrk
          have HRR := Lib.hid HR
          clear HR hR hnm
          by_cases he : er = 0
          · subst he
            obtain ⟨m, rfl, hm1, hm2⟩ := hrk rfl
            rw [len_data] at hm2
            rw [if_pos rfl] at hst
            have HST := Lib.hid hst
            clear hst hrk
            go_wp2_with (first | (go_at_call 15; refine (White_any _ _).mono ?_; rintro e w' ⟨rfl, rfl⟩))
            refine (HRR.out _ (by omega)).mono ?_
            rintro e w2 ⟨rfl, rfl⟩
            have OWN := HOWN.out.alloc (.cells #[.int .i64 3, .int .i64 t, .string ⟨#[]⟩, .int .i64 k] 44)
            have NEW := cells_new' (wr.alloc (.cells #[.int .i64 3, .int .i64 t, .string ⟨#[]⟩, .int .i64 k] 44)) 44 #[.int .i64 3, .int .i64 t, .string ⟨#[]⟩, .int .i64 k] (wr.heap.size + 1) (by simp)
            go_wp2_with (at_builtin; refine wpList_append_own _ rfl _ _ 34 rfl w.heap.size 44 i0 _ 4 40 Tryd.underlying34 hi hz0 hz1 hz2 rfl (by decide) u5 ts.length (toksC ts) rfl (OWN.alloc _) ⟨wr.heap.size + 1, 0, none⟩ 1 1 [.int .i64 3, .int .i64 t, .string ⟨#[]⟩, .int .i64 k] rfl rfl NEW ?_ ?_ ?_ ?_ ?_; (simp [Value.oneCell']); (unfold maxLen; omega); omega; (simp; omega); intro v9 w9 hown9 hg9 _)
            go_roundw
            case rel =>
              refine ⟨m, ts ++ [(3, t, [], (k : Int))], by go_num, HSC.out.snoc hk HST.out, ?_, ?_⟩
              · rw [toksC_app, toksC_one, List.length_append]; exact hown9
              · exact Below.grown ((hbel.alloc hle _).alloc (by simp; omega) _) hg9 (by simp; omega) (fun g hg => (HOWN.out.lt g hg).1)
            case measure => simp [intOf]; omega
          · rw [if_neg he] at hst
            have HST := Lib.hid hst
            have hne : (er != 0) = true := by rw [bne_iff_ne]; exact he
            have HX := Lib.hid (show scn s.data.toList 0 = ([], n, er) by rw [HSC.out.scn, scn_err hk (by rw [HST.out]; exact he), HST.out, consR, if_neg he])
            clear hst hrk
            go_wp2_with (first | (go_at_call 15; refine (White_any _ _).mono ?_; rintro e w' ⟨rfl, rfl⟩))
            refine (HRR.out _ (by omega)).mono ?_
            rintro e w2 ⟨rfl, rfl⟩
            go_wp2_with fail
            go_ret3
            rw [HX.out]
            exact ⟨_, rfl, World.ownsRow_nil _ _ _ _, hbel.alloc hle _⟩
        by_cases hm : isMk (s[k].toNat : Int) = true
        · rcases (isMk_iff _).1 hm with hc | hc | hc | hc | hc | hc
          all_goals
            have hw2 : isW 123 = false ∧ isW 125 = false ∧ isW 91 = false ∧ isW 93 = false ∧ isW 58 = false ∧ isW 44 = false := by decide
            obtain ⟨wk1, wk2, wk3, wk4, wk5, wk6⟩ := hw2
            clear hw hw' hm
            have hst := stp_M (l := s.data.toList) (k := k) (by rw [byt_get s k hk, hc]; decide)
            have hmk := mark_of hk
            have HMK := Lib.hid hmk
            have HST := Lib.hid hst
            have q1 : (k : Int) ≤ (k : Int) + 1 := by omega
            have q2 : (k : Int) + 1 ≤ (s.size : Int) := by omega
            have q3 : ((k : Int) + 1).toNat = k + 1 := by omega
            clear hst hmk
            have OWN := HOWN.out.alloc (.cells #[.int .i64 1, .int .i64 0, .string (s.extract k (k + 1)), .int .i64 k] 44)
            have NEW := cells_new' (wr.alloc (.cells #[.int .i64 1, .int .i64 0, .string (s.extract k (k + 1)), .int .i64 k] 44)) 44 #[.int .i64 1, .int .i64 0, .string (s.extract k (k + 1)), .int .i64 k] (wr.heap.size + 1) (by simp)
            go_wp2_with (first | (go_at_call 15; refine (White_any _ _).mono ?_; rintro e w' ⟨rfl, rfl⟩) | (at_builtin; refine wpList_append_own _ rfl _ _ 34 rfl w.heap.size 44 i0 _ 4 40 Tryd.underlying34 hi hz0 hz1 hz2 rfl (by decide) u5 ts.length (toksC ts) rfl (OWN.alloc _) ⟨wr.heap.size + 1, 0, none⟩ 1 1 [.int .i64 1, .int .i64 0, .string (s.extract k (k + 1)), .int .i64 k] rfl rfl NEW ?_ ?_ ?_ ?_ ?_; (simp [Value.oneCell']); (unfold maxLen; omega); omega; (simp; omega); intro v9 w9 hown9 hg9 _))
            rw [HMK.out] at hown9
            go_roundw
            case rel =>
              refine ⟨(k + 1), ts ++ [(1, 0, [s.data.toList.getD k 0], (k : Int))], by go_num, HSC.out.snoc hk HST.out, ?_, ?_⟩
              · rw [toksC_app, toksC_one, List.length_append]; exact hown9
              · exact Below.grown ((hbel.alloc hle _).alloc (by simp; omega) _) hg9 (by simp; omega) (fun g hg => (HOWN.out.lt g hg).1)
            case measure => simp [intOf]; omega
        by_cases hc116 : (s[k].toNat : Int) = 116
        · have hc0 := hc
          clear hc
          have hc := hc116
          have hwc : isW 116 = false := by decide
          clear hw hw' hc116 hc0 hm hcd
          have hbi : byt s.data.toList k = byt (wrds 0) 0 := by rw [byt_get s k hk, hc]; rfl
          have hwd := wdN_is (l := s.data.toList) (p := k) (k := 0) (by omega) hbi
          have hst := stp_wd (l := s.data.toList) (k := k) (i := 0) (by omega) hbi
          rw [show wrds 0 = wTrue from rfl] at hwd hst
          have HRW := fun w0 => rword_any s k w0 (by omega) hk
          unfold wrd at hst
          clear hbi
          by_cases hh : hasW s.data.toList k wTrue
          · rw [if_pos hh] at hwd hst
            rw [hwd] at HRW
            simp only [show wTrue.length = 4 from rfl] at HRW hst
            have hrk := @stp_ok s.data.toList k hk
            rw [hst] at hrk
            obtain ⟨m, hm0, hm1, hm2⟩ := hrk rfl
            simp only at hm0
            rw [len_data] at hm2
            have hm3 : k + 4 ≤ s.size := by omega
            have hex := ext_of (s := s) (k := k) (n := 4) hh.1
            have HEX := Lib.hid hex
            have HST := Lib.hid hst
            have HWW := Lib.hid HRW
            have q1 : (k : Int) ≤ (k : Int) + 4 := by omega
            have q2 : (k : Int) + 4 ≤ (s.size : Int) := by omega
            have q3 : ((k : Int) + 4).toNat = k + 4 := by omega
            have q4 : IntKind.i64.wrap ((k : Int) + 4) = (k : Int) + 4 := IntWalk.i64_in _ (by omega)
            clear hst hrk hm0 hm1 hm2 hwd hex HRW hh m
            go_wp2_with (first | (go_at_call 15; refine (White_any _ _).mono ?_; rintro e w' ⟨rfl, rfl⟩))
            refine (HWW.out _).mono ?_
            rintro e w2 ⟨rfl, hb2⟩
            have hsz2 := hb2.size
            simp only [World.alloc_heap_size] at hsz2
            have x0 : w2.heap[wr.heap.size]? = some (.cells #[.int .i64 0, .int .i64 0, .string ⟨#[]⟩, .int .i64 k] 44 (0, 0)) := (hb2.block wr.heap.size (by simp)).trans (heap_alloc_new wr _)
            have y0 : w2.cell? ⟨wr.heap.size, 0, none⟩ = some (.int .i64 0) := (cell_of_row _ _ 0 _ _ _ x0).trans rfl
            have y1 : w2.cell? ⟨wr.heap.size, 1, none⟩ = some (.int .i64 0) := (cell_of_row _ _ 1 _ _ _ x0).trans rfl
            have y2 : w2.cell? ⟨wr.heap.size, 2, none⟩ = some (.string ⟨#[]⟩) := (cell_of_row _ _ 2 _ _ _ x0).trans rfl
            have y3 : w2.cell? ⟨wr.heap.size, 3, none⟩ = some (.int .i64 k) := (cell_of_row _ _ 3 _ _ _ x0).trans rfl
            have z0 : w2.frozen? ⟨wr.heap.size, 0, none⟩ = false := frozen_of_row _ _ 0 _ _ x0
            have z2 : w2.frozen? ⟨wr.heap.size, 2, none⟩ = false := frozen_of_row _ _ 2 _ _ x0
            clear x0
            have own2 := own_far (own_below (HOWN.out.alloc _) hb2) ⟨wr.heap.size, 0, none⟩ (own_not HOWN.out (Nat.le_refl _)) (.int .i64 2)
            have xh : w2.heap[wr.heap.size]? = some (.cells #[.int .i64 0, .int .i64 0, .string ⟨#[]⟩, .int .i64 k] 44 (0, 0)) := (hb2.block wr.heap.size (by simp)).trans (heap_alloc_new wr _)
            have xs2 := heap_setCell_same w2 wr.heap.size 0 _ _ (.int .i64 2) xh
            have O2 := Lib.hid own2
            have XS := Lib.hid xs2
            clear own2 xs2 xh
            go_wp2_with fail
            refine (HWW.out _).mono ?_
            rintro e w3 ⟨rfl, hb3⟩
            have hsz3 := hb3.size
            simp only [World.setCell_size] at hsz3
            have x0 : w3.heap[wr.heap.size]? = some (.cells #[.int .i64 2, .int .i64 0, .string ⟨#[]⟩, .int .i64 k] 44 (0, 0)) := (hb3.block wr.heap.size (by simp; omega)).trans XS.out
            have yy0 : w3.cell? ⟨wr.heap.size, 0, none⟩ = some (.int .i64 2) := (cell_of_row _ _ 0 _ _ _ x0).trans rfl
            have yy1 : w3.cell? ⟨wr.heap.size, 1, none⟩ = some (.int .i64 0) := (cell_of_row _ _ 1 _ _ _ x0).trans rfl
            have yy2 : w3.cell? ⟨wr.heap.size, 2, none⟩ = some (.string ⟨#[]⟩) := (cell_of_row _ _ 2 _ _ _ x0).trans rfl
            have yy3 : w3.cell? ⟨wr.heap.size, 3, none⟩ = some (.int .i64 k) := (cell_of_row _ _ 3 _ _ _ x0).trans rfl
            have zz0 : w3.frozen? ⟨wr.heap.size, 0, none⟩ = false := frozen_of_row _ _ 0 _ _ x0
            have zz2 : w3.frozen? ⟨wr.heap.size, 2, none⟩ = false := frozen_of_row _ _ 2 _ _ x0
            clear x0
            have OWN := own_far (own_below O2.out hb3) ⟨wr.heap.size, 2, none⟩ (own_not HOWN.out (Nat.le_refl _)) (.string (s.extract k (k + 4)))
            have NEW := cells_new' (w3.setCell ⟨wr.heap.size, 2, none⟩ (.string (s.extract k (k + 4)))) 44 #[.int .i64 2, .int .i64 0, .string (s.extract k (k + 4)), .int .i64 k] (w3.heap.size) (by simp)
            go_wp2_with (at_builtin; refine wpList_append_own _ rfl _ _ 34 rfl w.heap.size 44 i0 _ 4 40 Tryd.underlying34 hi hz0 hz1 hz2 rfl (by decide) u5 ts.length (toksC ts) rfl (OWN.alloc _) ⟨w3.heap.size, 0, none⟩ 1 1 [.int .i64 2, .int .i64 0, .string (s.extract k (k + 4)), .int .i64 k] rfl rfl NEW ?_ ?_ ?_ ?_ ?_; (simp [Value.oneCell']); (unfold maxLen; omega); omega; (simp; omega); intro v9 w9 hown9 hg9 _)
            rw [HEX.out] at hown9
            go_roundw
            case rel =>
              refine ⟨(k + 4), ts ++ [(2, 0, wTrue, (k : Int))], by go_num, HSC.out.snoc hk HST.out, ?_, ?_⟩
              · rw [toksC_app, toksC_one, List.length_append]; exact hown9
              · exact Below.grown (((((((hbel.alloc hle _).trans (hb2.mono (by simp; omega))).setCell (show w.heap.size ≤ wr.heap.size from hle) _)).trans (hb3.mono (by simp; omega))).setCell (show w.heap.size ≤ wr.heap.size from hle) _).alloc (by simp; omega) _) hg9 (by simp; omega) (fun g hg => (HOWN.out.lt g hg).1)
            case measure => simp [intOf]; omega
          · rw [if_neg hh] at hwd hst
            rw [hwd] at HRW
            have HST := Lib.hid hst
            have HWW := Lib.hid HRW
            have HX := Lib.hid (show scn s.data.toList 0 = ([], (k : Int), 40) by rw [HSC.out.scn, scn_err hk (by rw [HST.out]; exact (show ¬ ((40 : Int) = 0) by decide)), HST.out, consR, if_neg (show ¬ ((40 : Int) = 0) by decide)])
            clear hst hwd HRW
            go_wp2_with (first | (go_at_call 15; refine (White_any _ _).mono ?_; rintro e w' ⟨rfl, rfl⟩))
            refine (HWW.out _).mono ?_
            rintro e w2 ⟨rfl, hb2⟩
            go_wp2_with fail
            go_ret3
            rw [HX.out]
            exact ⟨_, rfl, World.ownsRow_nil _ _ _ _, ((hbel.alloc hle _).trans (hb2.mono (by simp; omega)))⟩
        by_cases hc102 : (s[k].toNat : Int) = 102
        · have hc0 := hc
          clear hc
          have hc := hc102
          have hwc : isW 102 = false := by decide
          clear hw hw' hc102 hc0 hm hcd
          have hbi : byt s.data.toList k = byt (wrds 1) 0 := by rw [byt_get s k hk, hc]; rfl
          have hwd := wdN_is (l := s.data.toList) (p := k) (k := 1) (by omega) hbi
          have hst := stp_wd (l := s.data.toList) (k := k) (i := 1) (by omega) hbi
          rw [show wrds 1 = wFalse from rfl] at hwd hst
          have HRW := fun w0 => rword_any s k w0 (by omega) hk
          unfold wrd at hst
          clear hbi
          by_cases hh : hasW s.data.toList k wFalse
          · rw [if_pos hh] at hwd hst
            rw [hwd] at HRW
            simp only [show wFalse.length = 5 from rfl] at HRW hst
            have hrk := @stp_ok s.data.toList k hk
            rw [hst] at hrk
            obtain ⟨m, hm0, hm1, hm2⟩ := hrk rfl
            simp only at hm0
            rw [len_data] at hm2
            have hm3 : k + 5 ≤ s.size := by omega
            have hex := ext_of (s := s) (k := k) (n := 5) hh.1
            have HEX := Lib.hid hex
            have HST := Lib.hid hst
            have HWW := Lib.hid HRW
            have q1 : (k : Int) ≤ (k : Int) + 5 := by omega
            have q2 : (k : Int) + 5 ≤ (s.size : Int) := by omega
            have q3 : ((k : Int) + 5).toNat = k + 5 := by omega
            have q4 : IntKind.i64.wrap ((k : Int) + 5) = (k : Int) + 5 := IntWalk.i64_in _ (by omega)
            clear hst hrk hm0 hm1 hm2 hwd hex HRW hh m
            go_wp2_with (first | (go_at_call 15; refine (White_any _ _).mono ?_; rintro e w' ⟨rfl, rfl⟩))
            refine (HWW.out _).mono ?_
            rintro e w2 ⟨rfl, hb2⟩
            have hsz2 := hb2.size
            simp only [World.alloc_heap_size] at hsz2
            have x0 : w2.heap[wr.heap.size]? = some (.cells #[.int .i64 0, .int .i64 0, .string ⟨#[]⟩, .int .i64 k] 44 (0, 0)) := (hb2.block wr.heap.size (by simp)).trans (heap_alloc_new wr _)
            have y0 : w2.cell? ⟨wr.heap.size, 0, none⟩ = some (.int .i64 0) := (cell_of_row _ _ 0 _ _ _ x0).trans rfl
            have y1 : w2.cell? ⟨wr.heap.size, 1, none⟩ = some (.int .i64 0) := (cell_of_row _ _ 1 _ _ _ x0).trans rfl
            have y2 : w2.cell? ⟨wr.heap.size, 2, none⟩ = some (.string ⟨#[]⟩) := (cell_of_row _ _ 2 _ _ _ x0).trans rfl
            have y3 : w2.cell? ⟨wr.heap.size, 3, none⟩ = some (.int .i64 k) := (cell_of_row _ _ 3 _ _ _ x0).trans rfl
            have z0 : w2.frozen? ⟨wr.heap.size, 0, none⟩ = false := frozen_of_row _ _ 0 _ _ x0
            have z2 : w2.frozen? ⟨wr.heap.size, 2, none⟩ = false := frozen_of_row _ _ 2 _ _ x0
            clear x0
            have own2 := own_far (own_below (HOWN.out.alloc _) hb2) ⟨wr.heap.size, 0, none⟩ (own_not HOWN.out (Nat.le_refl _)) (.int .i64 2)
            have xh : w2.heap[wr.heap.size]? = some (.cells #[.int .i64 0, .int .i64 0, .string ⟨#[]⟩, .int .i64 k] 44 (0, 0)) := (hb2.block wr.heap.size (by simp)).trans (heap_alloc_new wr _)
            have xs2 := heap_setCell_same w2 wr.heap.size 0 _ _ (.int .i64 2) xh
            have O2 := Lib.hid own2
            have XS := Lib.hid xs2
            clear own2 xs2 xh
            go_wp2_with fail
            refine (HWW.out _).mono ?_
            rintro e w3 ⟨rfl, hb3⟩
            have hsz3 := hb3.size
            simp only [World.setCell_size] at hsz3
            have x0 : w3.heap[wr.heap.size]? = some (.cells #[.int .i64 2, .int .i64 0, .string ⟨#[]⟩, .int .i64 k] 44 (0, 0)) := (hb3.block wr.heap.size (by simp; omega)).trans XS.out
            have yy0 : w3.cell? ⟨wr.heap.size, 0, none⟩ = some (.int .i64 2) := (cell_of_row _ _ 0 _ _ _ x0).trans rfl
            have yy1 : w3.cell? ⟨wr.heap.size, 1, none⟩ = some (.int .i64 0) := (cell_of_row _ _ 1 _ _ _ x0).trans rfl
            have yy2 : w3.cell? ⟨wr.heap.size, 2, none⟩ = some (.string ⟨#[]⟩) := (cell_of_row _ _ 2 _ _ _ x0).trans rfl
            have yy3 : w3.cell? ⟨wr.heap.size, 3, none⟩ = some (.int .i64 k) := (cell_of_row _ _ 3 _ _ _ x0).trans rfl
            have zz0 : w3.frozen? ⟨wr.heap.size, 0, none⟩ = false := frozen_of_row _ _ 0 _ _ x0
            have zz2 : w3.frozen? ⟨wr.heap.size, 2, none⟩ = false := frozen_of_row _ _ 2 _ _ x0
            clear x0
            have OWN := own_far (own_below O2.out hb3) ⟨wr.heap.size, 2, none⟩ (own_not HOWN.out (Nat.le_refl _)) (.string (s.extract k (k + 5)))
            have NEW := cells_new' (w3.setCell ⟨wr.heap.size, 2, none⟩ (.string (s.extract k (k + 5)))) 44 #[.int .i64 2, .int .i64 0, .string (s.extract k (k + 5)), .int .i64 k] (w3.heap.size) (by simp)
            go_wp2_with (at_builtin; refine wpList_append_own _ rfl _ _ 34 rfl w.heap.size 44 i0 _ 4 40 Tryd.underlying34 hi hz0 hz1 hz2 rfl (by decide) u5 ts.length (toksC ts) rfl (OWN.alloc _) ⟨w3.heap.size, 0, none⟩ 1 1 [.int .i64 2, .int .i64 0, .string (s.extract k (k + 5)), .int .i64 k] rfl rfl NEW ?_ ?_ ?_ ?_ ?_; (simp [Value.oneCell']); (unfold maxLen; omega); omega; (simp; omega); intro v9 w9 hown9 hg9 _)
            rw [HEX.out] at hown9
            go_roundw
            case rel =>
              refine ⟨(k + 5), ts ++ [(2, 0, wFalse, (k : Int))], by go_num, HSC.out.snoc hk HST.out, ?_, ?_⟩
              · rw [toksC_app, toksC_one, List.length_append]; exact hown9
              · exact Below.grown (((((((hbel.alloc hle _).trans (hb2.mono (by simp; omega))).setCell (show w.heap.size ≤ wr.heap.size from hle) _)).trans (hb3.mono (by simp; omega))).setCell (show w.heap.size ≤ wr.heap.size from hle) _).alloc (by simp; omega) _) hg9 (by simp; omega) (fun g hg => (HOWN.out.lt g hg).1)
            case measure => simp [intOf]; omega
          · rw [if_neg hh] at hwd hst
            rw [hwd] at HRW
            have HST := Lib.hid hst
            have HWW := Lib.hid HRW
            have HX := Lib.hid (show scn s.data.toList 0 = ([], (k : Int), 40) by rw [HSC.out.scn, scn_err hk (by rw [HST.out]; exact (show ¬ ((40 : Int) = 0) by decide)), HST.out, consR, if_neg (show ¬ ((40 : Int) = 0) by decide)])
            clear hst hwd HRW
            go_wp2_with (first | (go_at_call 15; refine (White_any _ _).mono ?_; rintro e w' ⟨rfl, rfl⟩))
            refine (HWW.out _).mono ?_
            rintro e w2 ⟨rfl, hb2⟩
            go_wp2_with fail
            go_ret3
            rw [HX.out]
            exact ⟨_, rfl, World.ownsRow_nil _ _ _ _, ((hbel.alloc hle _).trans (hb2.mono (by simp; omega)))⟩
        by_cases hc110 : (s[k].toNat : Int) = 110
        · have hc0 := hc
          clear hc
          have hc := hc110
          have hwc : isW 110 = false := by decide
          clear hw hw' hc110 hc0 hm hcd
          have hbi : byt s.data.toList k = byt (wrds 2) 0 := by rw [byt_get s k hk, hc]; rfl
          have hwd := wdN_is (l := s.data.toList) (p := k) (k := 2) (by omega) hbi
          have hst := stp_wd (l := s.data.toList) (k := k) (i := 2) (by omega) hbi
          rw [show wrds 2 = wNull from rfl] at hwd hst
          have HRW := fun w0 => rword_any s k w0 (by omega) hk
          unfold wrd at hst
          clear hbi
          by_cases hh : hasW s.data.toList k wNull
          · rw [if_pos hh] at hwd hst
            rw [hwd] at HRW
            simp only [show wNull.length = 4 from rfl] at HRW hst
            have hrk := @stp_ok s.data.toList k hk
            rw [hst] at hrk
            obtain ⟨m, hm0, hm1, hm2⟩ := hrk rfl
            simp only at hm0
            rw [len_data] at hm2
            have hm3 : k + 4 ≤ s.size := by omega
            have hex := ext_of (s := s) (k := k) (n := 4) hh.1
            have HEX := Lib.hid hex
            have HST := Lib.hid hst
            have HWW := Lib.hid HRW
            have q1 : (k : Int) ≤ (k : Int) + 4 := by omega
            have q2 : (k : Int) + 4 ≤ (s.size : Int) := by omega
            have q3 : ((k : Int) + 4).toNat = k + 4 := by omega
            have q4 : IntKind.i64.wrap ((k : Int) + 4) = (k : Int) + 4 := IntWalk.i64_in _ (by omega)
            clear hst hrk hm0 hm1 hm2 hwd hex HRW hh m
            go_wp2_with (first | (go_at_call 15; refine (White_any _ _).mono ?_; rintro e w' ⟨rfl, rfl⟩))
            refine (HWW.out _).mono ?_
            rintro e w2 ⟨rfl, hb2⟩
            have hsz2 := hb2.size
            simp only [World.alloc_heap_size] at hsz2
            have x0 : w2.heap[wr.heap.size]? = some (.cells #[.int .i64 0, .int .i64 0, .string ⟨#[]⟩, .int .i64 k] 44 (0, 0)) := (hb2.block wr.heap.size (by simp)).trans (heap_alloc_new wr _)
            have y0 : w2.cell? ⟨wr.heap.size, 0, none⟩ = some (.int .i64 0) := (cell_of_row _ _ 0 _ _ _ x0).trans rfl
            have y1 : w2.cell? ⟨wr.heap.size, 1, none⟩ = some (.int .i64 0) := (cell_of_row _ _ 1 _ _ _ x0).trans rfl
            have y2 : w2.cell? ⟨wr.heap.size, 2, none⟩ = some (.string ⟨#[]⟩) := (cell_of_row _ _ 2 _ _ _ x0).trans rfl
            have y3 : w2.cell? ⟨wr.heap.size, 3, none⟩ = some (.int .i64 k) := (cell_of_row _ _ 3 _ _ _ x0).trans rfl
            have z0 : w2.frozen? ⟨wr.heap.size, 0, none⟩ = false := frozen_of_row _ _ 0 _ _ x0
            have z2 : w2.frozen? ⟨wr.heap.size, 2, none⟩ = false := frozen_of_row _ _ 2 _ _ x0
            clear x0
            have own2 := own_far (own_below (HOWN.out.alloc _) hb2) ⟨wr.heap.size, 0, none⟩ (own_not HOWN.out (Nat.le_refl _)) (.int .i64 2)
            have xh : w2.heap[wr.heap.size]? = some (.cells #[.int .i64 0, .int .i64 0, .string ⟨#[]⟩, .int .i64 k] 44 (0, 0)) := (hb2.block wr.heap.size (by simp)).trans (heap_alloc_new wr _)
            have xs2 := heap_setCell_same w2 wr.heap.size 0 _ _ (.int .i64 2) xh
            have O2 := Lib.hid own2
            have XS := Lib.hid xs2
            clear own2 xs2 xh
            go_wp2_with fail
            refine (HWW.out _).mono ?_
            rintro e w3 ⟨rfl, hb3⟩
            have hsz3 := hb3.size
            simp only [World.setCell_size] at hsz3
            have x0 : w3.heap[wr.heap.size]? = some (.cells #[.int .i64 2, .int .i64 0, .string ⟨#[]⟩, .int .i64 k] 44 (0, 0)) := (hb3.block wr.heap.size (by simp; omega)).trans XS.out
            have yy0 : w3.cell? ⟨wr.heap.size, 0, none⟩ = some (.int .i64 2) := (cell_of_row _ _ 0 _ _ _ x0).trans rfl
            have yy1 : w3.cell? ⟨wr.heap.size, 1, none⟩ = some (.int .i64 0) := (cell_of_row _ _ 1 _ _ _ x0).trans rfl
            have yy2 : w3.cell? ⟨wr.heap.size, 2, none⟩ = some (.string ⟨#[]⟩) := (cell_of_row _ _ 2 _ _ _ x0).trans rfl
            have yy3 : w3.cell? ⟨wr.heap.size, 3, none⟩ = some (.int .i64 k) := (cell_of_row _ _ 3 _ _ _ x0).trans rfl
            have zz0 : w3.frozen? ⟨wr.heap.size, 0, none⟩ = false := frozen_of_row _ _ 0 _ _ x0
            have zz2 : w3.frozen? ⟨wr.heap.size, 2, none⟩ = false := frozen_of_row _ _ 2 _ _ x0
            clear x0
            have OWN := own_far (own_below O2.out hb3) ⟨wr.heap.size, 2, none⟩ (own_not HOWN.out (Nat.le_refl _)) (.string (s.extract k (k + 4)))
            have NEW := cells_new' (w3.setCell ⟨wr.heap.size, 2, none⟩ (.string (s.extract k (k + 4)))) 44 #[.int .i64 2, .int .i64 0, .string (s.extract k (k + 4)), .int .i64 k] (w3.heap.size) (by simp)
            go_wp2_with (at_builtin; refine wpList_append_own _ rfl _ _ 34 rfl w.heap.size 44 i0 _ 4 40 Tryd.underlying34 hi hz0 hz1 hz2 rfl (by decide) u5 ts.length (toksC ts) rfl (OWN.alloc _) ⟨w3.heap.size, 0, none⟩ 1 1 [.int .i64 2, .int .i64 0, .string (s.extract k (k + 4)), .int .i64 k] rfl rfl NEW ?_ ?_ ?_ ?_ ?_; (simp [Value.oneCell']); (unfold maxLen; omega); omega; (simp; omega); intro v9 w9 hown9 hg9 _)
            rw [HEX.out] at hown9
            go_roundw
            case rel =>
              refine ⟨(k + 4), ts ++ [(2, 0, wNull, (k : Int))], by go_num, HSC.out.snoc hk HST.out, ?_, ?_⟩
              · rw [toksC_app, toksC_one, List.length_append]; exact hown9
              · exact Below.grown (((((((hbel.alloc hle _).trans (hb2.mono (by simp; omega))).setCell (show w.heap.size ≤ wr.heap.size from hle) _)).trans (hb3.mono (by simp; omega))).setCell (show w.heap.size ≤ wr.heap.size from hle) _).alloc (by simp; omega) _) hg9 (by simp; omega) (fun g hg => (HOWN.out.lt g hg).1)
            case measure => simp [intOf]; omega
          · rw [if_neg hh] at hwd hst
            rw [hwd] at HRW
            have HST := Lib.hid hst
            have HWW := Lib.hid HRW
            have HX := Lib.hid (show scn s.data.toList 0 = ([], (k : Int), 40) by rw [HSC.out.scn, scn_err hk (by rw [HST.out]; exact (show ¬ ((40 : Int) = 0) by decide)), HST.out, consR, if_neg (show ¬ ((40 : Int) = 0) by decide)])
            clear hst hwd HRW
            go_wp2_with (first | (go_at_call 15; refine (White_any _ _).mono ?_; rintro e w' ⟨rfl, rfl⟩))
            refine (HWW.out _).mono ?_
            rintro e w2 ⟨rfl, hb2⟩
            go_wp2_with fail
            go_ret3
            rw [HX.out]
            exact ⟨_, rfl, World.ownsRow_nil _ _ _ _, ((hbel.alloc hle _).trans (hb2.mono (by simp; omega)))⟩
        have hm' : isMk (s[k].toNat : Int) = false := by simpa using hm
        have t1 : ((s[k].toNat : Int) == 34) = false := by rw [beq_eq_false_iff_ne]; exact hc
        have t2 : ((s[k].toNat : Int) == 45) = false := by rw [beq_eq_false_iff_ne]; exact hc45
        have nmk : ∀ x : Int, (x = 123 ∨ x = 125 ∨ x = 91 ∨ x = 93 ∨ x = 58 ∨ x = 44) → ((s[k].toNat : Int) == x) = false := by
          intro x hx
          rw [beq_eq_false_iff_ne]
          intro e
          rw [e, (isMk_iff x).2 hx] at hm'
          cases hm'
        have m1 := nmk 123 (by omega)
        have m2 := nmk 125 (by omega)
        have m3 := nmk 91 (by omega)
        have m4 := nmk 93 (by omega)
        have m5 := nmk 58 (by omega)
        have m6 := nmk 44 (by omega)
        have hst : stp s.data.toList k = (none, (k : Int), 40) := by
          have g := byt_get s k hk
          refine stp_E (by rw [g]; exact hw') (by rw [g]; exact hm') (by rw [g]; exact hc) ?_ (by rw [g]; exact hc116) (by rw [g]; exact hc102) (by rw [g]; exact hc110)
          rw [g]
          exact bool_no (isNm_iff _) (by omega)
        have HRW := fun w0 => rword_any s k w0 (by omega) hk
        rw [wdN_no (by rw [byt_get s k hk]; exact hc116) (by rw [byt_get s k hk]; exact hc102) (by rw [byt_get s k hk]; exact hc110)] at HRW
        have HST := Lib.hid hst
        have HWW := Lib.hid HRW
        have HX := Lib.hid (show scn s.data.toList 0 = ([], (k : Int), 40) by rw [HSC.out.scn, scn_err hk (by rw [HST.out]; exact (show ¬ ((40 : Int) = 0) by decide)), HST.out, consR, if_neg (show ¬ ((40 : Int) = 0) by decide)])
        clear hst HRW hc hc45 hc116 hc102 hc110 nmk hm hw
        by_cases h48 : 48 ≤ (s[k].toNat : Int)
        · have t3 : decide ((48 : Int) ≤ (s[k].toNat : Int)) = true := decide_eq_true h48
          have t4 : decide ((s[k].toNat : Int) ≤ 57) = false := decide_eq_false (by omega)
          clear hcd
          go_wp2_with (first | (go_at_call 15; refine (White_any _ _).mono ?_; rintro e w' ⟨rfl, rfl⟩))
          refine (HWW.out _).mono ?_
          rintro e w2 ⟨rfl, hb2⟩
          go_wp2_with fail
          go_ret3
          rw [HX.out]
          exact ⟨_, rfl, World.ownsRow_nil _ _ _ _, ((hbel.alloc hle _).trans (hb2.mono (by simp; omega)))⟩
        · have t3 : decide ((48 : Int) ≤ (s[k].toNat : Int)) = false := decide_eq_false h48
          clear hcd
          go_wp2_with (first | (go_at_call 15; refine (White_any _ _).mono ?_; rintro e w' ⟨rfl, rfl⟩))
          refine (HWW.out _).mono ?_
          rintro e w2 ⟨rfl, hb2⟩
          go_wp2_with fail
          go_ret3
          rw [HX.out]
          exact ⟨_, rfl, World.ownsRow_nil _ _ _ _, ((hbel.alloc hle _).trans (hb2.mono (by simp; omega)))⟩
      · have hkd : decide ((k : Int) < (s.size : Int)) = false := decide_eq_false (by omega)
        have hkd2 : decide (k < s.size) = false := decide_eq_false hk
        obtain rfl : k = s.size := by omega
        have HX := Lib.hid (show scn s.data.toList 0 = (ts, 0, 0) by rw [HSC.out.scn, scn_end (by rw [len_data]; omega), consR, if_pos rfl, List.append_nil])
        go_wp2_with fail
        go_ret3
        rw [HX.out]
        exact ⟨_, rfl, HOWN.out, hbel⟩
end Go.Proofs.YtoflogckoepioaaDoor.Sc
