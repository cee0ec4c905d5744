import Derived.Test.YthokaeaefmajjaaDoorScD
/- Contract of package scan's Tokens. -/
namespace Go.Proofs.YthokaeaefmajjaaDoor.Sc
open Go.RowKit
open Go.Proofs.YthokaeaefmajjaaDoor.Utf

/-- What Tokens hands back: tokens in new memory, a place, an error; what was there stays. -/
def GivesToks (r : List Tok × Int × Int) (w : World) (e : Ending) (w' : World) : Prop :=
  ∃ v, e = .returned (.tuple #[v, .int .i64 r.2.1, .int .i64 r.2.2]) ∧ w'.ownsRow w.heap.size 34 4 v r.1.length (toksC r.1) ∧ Below w.heap.size w w'
/-- the place of the scanner that lies in a block -/
def posOf (w : World) (b : Nat) : Nat := match w.cell? ⟨b, 1, none⟩ with
  | some (.int _ k) => k.toNat
  | _ => 0
theorem Scr.pos {B b : Nat} {s : ByteArray} {k : Nat} {ts : List Tok} {w : World} (h : Scr B b s k ts w) : posOf w b = k := by
  unfold posOf
  rw [h.cells.2.2.1]
  exact Int.toNat_natCast k

set_option maxHeartbeats 2000000 in
theorem Tokens_any (s : ByteArray) (w : World) (hs : s.size ≤ 9223372036854775807) :
    Calls Tryd.prog 5 #[.string s] w (GivesToks (scnS s.data.toList) w) := by
  by_cases hl : 65536 < s.size
  · have hd : decide (65536 < s.size) = true := decide_eq_true hl
    have hd2 : decide ((65536 : Int) < (s.size : Int)) = true := decide_eq_true (by omega)
    rw [scnS, if_pos (by rw [len_data]; exact hl)]
    go_enter Tryd.func5, Tryd.ntmps5
    go_wp2_with fail
    go_ret3
    exact ⟨_, rfl, World.ownsRow_nil _ _ _ _, Below.refl _ _⟩
  · have hd : decide (65536 < s.size) = false := decide_eq_false hl
    have hd2 : decide ((65536 : Int) < (s.size : Int)) = false := decide_eq_false (by omega)
    have hs' : s.size ≤ 65536 := by omega
    rw [scnS, if_neg (by rw [len_data]; exact hl)]
    clear hl hs
    go_enter Tryd.func5, Tryd.ntmps5
    go_wp2_with fail
    go_loopw [6, 7] (fun _ _ wr => ∃ (k : Nat) (ts : List Tok), Scr w.heap.size w.heap.size s k ts wr ∧ Scan s.data.toList 0 ts k ∧ Below w.heap.size w wr) (fun _ _ wr => s.size - posOf wr w.heap.size)
    case atStart =>
      refine ⟨0, [], ⟨.slice none 0 0, heap_alloc_new w _, World.ownsRow_nil _ _ _ _, Nat.le_refl _⟩, .nil _, (Below.refl _ _).alloc (Nat.le_refl _) _⟩
    case round =>
      obtain ⟨k, ts, hscr, hscan, hbel⟩ := hrel
      obtain ⟨hlt, c0, c1, f1⟩ := hscr.cells
      have hle := hscan.le
      rw [len_data] at hle
      have hpos := hscr.pos
      by_cases hk : k < s.size
      · have hkd : decide ((k : Int) < (s.size : Int)) = true := decide_eq_true (by omega)
        have hkd2 : decide (k < s.size) = true := decide_eq_true hk
        have HC := step_any w.heap.size w.heap.size s k ts wr hscr (by omega) (by omega) hs' hk
        rcases hst : stp s.data.toList k with ⟨o, n, e⟩
        rw [hst] at HC
        by_cases he : e = 0
        · subst he
          obtain ⟨m, h3, h4, h5⟩ := stp_ok hk (by rw [hst])
          rw [hst] at h3
          simp only at h3
          subst h3
          have HX := Lib.hid (hscan.snoc hk hst)
          have HP := Lib.hid hpos
          have HCC := Lib.hid HC
          clear hst HC hpos hscan hscr
          go_wp2_with fail
          refine HCC.out.mono ?_
          rintro e w2 ⟨hb2, ⟨_, rfl, hs2⟩ | ⟨h, _⟩⟩
          · go_wp2_with fail
            go_roundw
            case rel => exact ⟨m, _, hs2, HX.out, hbel.trans hb2⟩
            case measure => rw [hs2.pos, HP.out]; omega
          · exact absurd rfl h
        · have hne : (e != 0) = true := by rw [bne_iff_ne]; exact he
          have hsc : scn s.data.toList 0 = ([], n, e) := by
            rw [hscan.scn, scn_err hk (by rw [hst]; exact he), hst, consR, if_neg he]
          have HX := Lib.hid hsc
          have HCC := Lib.hid HC
          clear hst HC hpos hscan hscr hsc
          go_wp2_with fail
          refine HCC.out.mono ?_
          rintro e2 w2 ⟨hb2, ⟨h, _⟩ | ⟨_, rfl⟩⟩
          · exact absurd h he
          · go_wp2_with fail
            go_ret3
            rw [HX.out]
            exact ⟨_, rfl, World.ownsRow_nil _ _ _ _, hbel.trans hb2⟩
      · have hkd : decide ((k : Int) < (s.size : Int)) = false := decide_eq_false (by omega)
        have hkd2 : decide (k < s.size) = false := decide_eq_false hk
        obtain rfl : k = s.size := by omega
        have hsc : scn s.data.toList 0 = (ts, 0, 0) := by
          rw [hscan.scn, scn_end (by rw [len_data]; omega), consR, if_pos rfl, List.append_nil]
        have HX := Lib.hid hsc
        obtain ⟨v, h1, hown, _⟩ := hscr
        have c2 : wr.cell? ⟨w.heap.size, 2, none⟩ = some v := by rw [cell_of_row wr w.heap.size 2 _ _ _ h1]; rfl
        clear h1 hsc hpos hscan
        go_wp2_with fail
        go_ret3
        rw [HX.out]
        exact ⟨_, rfl, hown, hbel⟩
end Go.Proofs.YthokaeaefmajjaaDoor.Sc
