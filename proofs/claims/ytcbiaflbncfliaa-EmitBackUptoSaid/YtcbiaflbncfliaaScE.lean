import Derived.Test.YtcbiaflbncfliaaScD
/- Contract of package scan's Tokens. -/
namespace Go.Proofs.Ytcbiaflbncfliaa.Sc
open Go.RowKit
open Go.Proofs.Ytcbiaflbncfliaa.Utf

/-- What Tokens hands back: tokens in new memory, a place, an error; what was there stays. -/
def GivesToks (r : List Tok × Int × Int) (w : World) (e : Ending) (w' : World) : Prop :=
  ∃ v, e = .returned (.tuple #[v, .int .i64 r.2.1, .int .i64 r.2.2]) ∧ w'.ownsRow w.heap.size 47 4 v r.1.length (toksC r.1) ∧ Below w.heap.size w w'
/-- the place of the scanner that lies in a block -/
def posOf (w : World) (b : Nat) : Nat := match w.cell? ⟨b, 1, none⟩ with
  | some (.int _ k) => k.toNat
  | _ => 0
theorem Scr.pos {B b : Nat} {s : ByteArray} {k : Nat} {ts : List Tok} {w : World} (h : Scr B b s k ts w) : posOf w b = k := by
  unfold posOf
  rw [h.cells.2.2.1]
  exact Int.toNat_natCast k

set_option maxRecDepth 100000 in
set_option maxHeartbeats 2000000 in
theorem Tokens_any (s : ByteArray) (w : World) (hs : s.size ≤ 9223372036854775807) :
    Calls Try.prog 14 #[.string s] w (GivesToks (scnS s.data.toList) w) := by
  by_cases hl : 65536 < s.size
  · have hd : decide (65536 < s.size) = true := decide_eq_true hl
    have hd2 : decide ((65536 : Int) < (s.size : Int)) = true := decide_eq_true (by omega)
    rw [scnS, if_pos (by rw [len_data]; exact hl)]
    go_enter Try.func14, Try.ntmps14
    go_wp2_with fail
    go_ret3
    exact ⟨_, rfl, World.ownsRow_nil _ _ _ _, Below.refl _ _⟩
  · have hd : decide (65536 < s.size) = false := decide_eq_false hl
    have hd2 : decide ((65536 : Int) < (s.size : Int)) = false := decide_eq_false (by omega)
    have hs' : s.size ≤ 65536 := by omega
    rw [scnS, if_neg (by rw [len_data]; exact hl)]
    clear hl hs
    go_enter Try.func14, Try.ntmps14
    go_wp2_with fail
    go_loopw [6, 7] (fun _ _ wr => ∃ (k : Nat) (ts : List Tok), Scr w.heap.size w.heap.size s k ts wr ∧ Scan s.data.toList 0 ts k ∧ Below w.heap.size w wr) (fun _ _ wr => s.size - posOf wr w.heap.size)
    case atStart =>
      refine ⟨0, [], ⟨.slice none 0 0, heap_alloc_new w _, World.ownsRow_nil _ _ _ _, Nat.le_refl _⟩, .nil _, (Below.refl _ _).alloc (Nat.le_refl _) _⟩
    case round =>
      obtain ⟨k, ts, hscr, hscan, hbel⟩ := hrel
      obtain ⟨hlt, c0, c1, f1⟩ := hscr.cells
      have hle := hscan.le
      rw [len_data] at hle
      have hpos := hscr.pos
      by_cases hk : k < s.size
      · have hkd : decide ((k : Int) < (s.size : Int)) = true := decide_eq_true (by omega)
        have hkd2 : decide (k < s.size) = true := decide_eq_true hk
        have HC := step_any w.heap.size w.heap.size s k ts wr hscr (by omega) (by omega) hs' hk
        rcases hst : stp s.data.toList k with ⟨o, n, e⟩
        rw [hst] at HC
        by_cases he : e = 0
        · subst he
          obtain ⟨m, h3, h4, h5⟩ := stp_ok hk (by rw [hst])
          rw [hst] at h3
          simp only at h3
          subst h3
          have HX := Lib.hid (hscan.snoc hk hst)
          have HP := Lib.hid hpos
          have HCC := Lib.hid HC
          clear hst HC hpos hscan hscr
          go_wp2_with fail
          refine HCC.out.mono ?_
          rintro e w2 ⟨hb2, ⟨_, rfl, hs2⟩ | ⟨h, _⟩⟩
          · go_wp2_with fail
            go_roundw
            case rel => exact ⟨m, _, hs2, HX.out, hbel.trans hb2⟩
            case measure => rw [hs2.pos, HP.out]; omega
          · exact absurd rfl h
        · have hne : (e != 0) = true := by rw [bne_iff_ne]; exact he
          have hsc : scn s.data.toList 0 = ([], n, e) := by
            rw [hscan.scn, scn_err hk (by rw [hst]; exact he), hst, consR, if_neg he]
          have HX := Lib.hid hsc
          have HCC := Lib.hid HC
          clear hst HC hpos hscan hscr hsc
          go_wp2_with fail
          refine HCC.out.mono ?_
          rintro e2 w2 ⟨hb2, ⟨h, _⟩ | ⟨_, rfl⟩⟩
          · exact absurd h he
          · go_wp2_with fail
            go_ret3
            rw [HX.out]
            exact ⟨_, rfl, World.ownsRow_nil _ _ _ _, hbel.trans hb2⟩
      · have hkd : decide ((k : Int) < (s.size : Int)) = false := decide_eq_false (by omega)
        have hkd2 : decide (k < s.size) = false := decide_eq_false hk
        obtain rfl : k = s.size := by omega
        have hsc : scn s.data.toList 0 = (ts, 0, 0) := by
          rw [hscan.scn, scn_end (by rw [len_data]; omega), consR, if_pos rfl, List.append_nil]
        have HX := Lib.hid hsc
        obtain ⟨v, h1, hown, _⟩ := hscr
        have c2 : wr.cell? ⟨w.heap.size, 2, none⟩ = some v := by rw [cell_of_row wr w.heap.size 2 _ _ _ h1]; rfl
        clear h1 hsc hpos hscan
        go_wp2_with fail
        go_ret3
        rw [HX.out]
        exact ⟨_, rfl, hown, hbel⟩
end Go.Proofs.Ytcbiaflbncfliaa.Sc
/- A slice that reads as tokens; contracts of the document's answer's White and Same. -/
namespace Go.Proofs.Ytcbiaflbncfliaa.Sc
open Go.RowKit
open Go.Proofs.Ytcbiaflbncfliaa.Utf

/-- In w the slice value v reads as the tokens ts, which lie below block B; nil and empty ones too. -/
def RdT (w : World) (B : Nat) (v : Value) (ts : List Tok) : Prop :=
  ∃ A c, v = .slice A ts.length c ∧ (0 < ts.length → ∃ g, A = some ⟨g, 0, none⟩ ∧ g < B ∧ ∀ j u, (toksC ts)[j]? = some u → w.cell? ⟨g, j, none⟩ = some u)
theorem RdT.keep {w w' : World} {B : Nat} {v : Value} {ts : List Tok} (h : RdT w B v ts) (hk : ∀ p : Addr, p.block < B → w'.cell? p = w.cell? p) : RdT w' B v ts := by
  obtain ⟨A, c, rfl, hc⟩ := h
  refine ⟨A, c, rfl, fun h0 => ?_⟩
  obtain ⟨g, rfl, hb, hx⟩ := hc h0
  exact ⟨g, rfl, hb, fun j u hu => (hk ⟨g, j, none⟩ hb).trans (hx j u hu)⟩
theorem RdT.below {w w' : World} {B B' : Nat} {v : Value} {ts : List Tok} (h : RdT w B v ts) (hb : Below B' w w') (hB : B ≤ B') : RdT w' B v ts := h.keep fun _ hp => hb.cell (by omega)
theorem RdT.more {w : World} {B B' : Nat} {v : Value} {ts : List Tok} (h : RdT w B v ts) (hB : B ≤ B') : RdT w B' v ts := by
  obtain ⟨A, c, rfl, hc⟩ := h
  refine ⟨A, c, rfl, fun h0 => ?_⟩
  obtain ⟨g, rfl, hb, hx⟩ := hc h0
  exact ⟨g, rfl, by omega, hx⟩
theorem RdT.of_own {w : World} {base E : Nat} {v : Value} {ts : List Tok} (h : w.ownsRow base E 4 v ts.length (toksC ts)) : RdT w w.heap.size v ts := by
  have hlt := h.lt
  have hcell := @World.ownsRow.cells w base E 4 v ts.length (toksC ts) h
  rcases h.2 with ⟨rfl, h0⟩ | ⟨g, cap, cur, rfl, _, _, _⟩
  · exact ⟨none, 0, by rw [h0], fun h => by omega⟩
  · refine ⟨some ⟨g, 0, none⟩, cap, rfl, fun _ => ⟨g, rfl, (hlt g rfl).2, fun j u hu => ?_⟩⟩
    have := hcell rfl j u hu
    rwa [show (⟨g, 0, none⟩ : Addr).add j = ⟨g, j, none⟩ by unfold Addr.add; split <;> simp_all] at this
theorem toksC_at (ts : List Tok) : ∀ (i : Nat) (h : i < ts.length) (j : Nat), j < 4 → (toksC ts)[i * 4 + j]? = (tokC ts[i])[j]? := by
  induction ts with
  | nil => intro i h; simp at h
  | cons t r ih =>
    intro i h j hj
    have e : toksC (t :: r) = tokC t ++ toksC r := by rw [show t :: r = [t] ++ r from rfl, toksC_app, toksC_one]
    have l : (tokC t).length = 4 := rfl
    rw [e]
    cases i with
    | zero => rw [List.getElem?_append_left (by rw [l]; omega)]; simp
    | succ i =>
      rw [List.getElem?_append_right (by rw [l]; omega), l]
      have := ih i (by simpa using h) j hj
      rw [show (i + 1) * 4 + j - 4 = i * 4 + j by omega, this]
      simp
/-- the cells of a token -/
theorem RdT.at_ {w : World} {B : Nat} {v : Value} {ts : List Tok} (h : RdT w B v ts) (i : Nat) (hi : i < ts.length) : ∃ g c, v = .slice (some ⟨g, 0, none⟩) ts.length c ∧ g < B ∧
    w.cell? ⟨g, i * 4, none⟩ = some (.int .i64 ts[i].1) ∧ w.cell? ⟨g, i * 4 + 1, none⟩ = some (.int .i64 ts[i].2.1) ∧ w.cell? ⟨g, i * 4 + 2, none⟩ = some (.string (strOf ts[i].2.2.1)) ∧ w.cell? ⟨g, i * 4 + 3, none⟩ = some (.int .i64 ts[i].2.2.2) := by
  obtain ⟨A, c, rfl, hc⟩ := h
  obtain ⟨g, rfl, hb, hx⟩ := hc (by omega)
  have a0 := toksC_at ts i hi 0 (by omega)
  exact ⟨g, c, rfl, hb, hx _ _ a0, hx _ _ (toksC_at ts i hi 1 (by omega)), hx _ _ (toksC_at ts i hi 2 (by omega)), hx _ _ (toksC_at ts i hi 3 (by omega))⟩

/-- the tests of a round of Same -/
def GivesB (q : Prop) (w : World) (e : Ending) (w' : World) : Prop := (∃ b, e = .returned (.bool b) ∧ (b = true ↔ q)) ∧ Below w.heap.size w w'

end Go.Proofs.Ytcbiaflbncfliaa.Sc
/- Contract of the awake of layer 4's law. -/
namespace Go.Proofs.Ytcbiaflbncfliaa.Sc
open Go.RowKit
open Go.Proofs.Ytcbiaflbncfliaa.Utf

theorem aw1 : scnS [123, 34, 97, 34, 58, 45, 49, 125] = ([(1, 0, [123], 0), (4, 0, [97], 1), (1, 0, [58], 4), (3, -1, [], 5), (1, 0, [125], 7)], 0, 0) := by decide +kernel
theorem aw2 : scnS [110, 117, 108, 108, 115] = ([], 0, 40) := by decide +kernel
theorem aw3 : scnS [91, 49, 46, 53, 93] = ([], 1, 30) := by decide +kernel
theorem tokens_closed (l : List UInt8) (r : List Tok × Int × Int) (w : World) (hl : l.length ≤ 9223372036854775807) (h : scnS l = r) :
    Calls Try.prog 14 #[.string ⟨l.toArray⟩] w (GivesToks r w) := by
  have := Tokens_any ⟨l.toArray⟩ w hl
  rw [show (ByteArray.mk l.toArray).data.toList = l from rfl, h] at this
  exact this

end Go.Proofs.Ytcbiaflbncfliaa.Sc
