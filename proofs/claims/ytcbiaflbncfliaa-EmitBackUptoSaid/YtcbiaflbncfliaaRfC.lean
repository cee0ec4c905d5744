import Derived.Test.YtcbiaflbncfliaaRfB
/- Contract of package read's name: a member's name, which none of those ahead is. -/
namespace Go.Proofs.Ytcbiaflbncfliaa.Re
open Go.RowKit Go.Maps
open Go.Proofs.Ytcbiaflbncfliaa.Utf
open Go.Proofs.Ytcbiaflbncfliaa.Sc

/-- what was there stays, but for two blocks -/
def Fr2 (w w' : World) (rb mb : Nat) : Prop := w'.os = w.os ∧ w'.tape = w.tape ∧ w'.output = w.output ∧ w.heap.size ≤ w'.heap.size ∧ ∀ k, k < w.heap.size → k ≠ rb → k ≠ mb → w'.heap[k]? = w.heap[k]?
theorem Fr2.of_rb {w w' : World} {rb : Nat} (mb : Nat) (h : w.grownBy w' (some rb)) : Fr2 w w' rb mb := ⟨h.os, h.tape, h.output, h.size, fun k hk h1 _ => h.block k hk (fun e => h1 (Option.some.inj e))⟩
theorem Fr2.of_mb {w w' : World} {mb : Nat} (rb : Nat) (h : w.grownBy w' (some mb)) : Fr2 w w' rb mb := ⟨h.os, h.tape, h.output, h.size, fun k hk _ h2 => h.block k hk (fun e => h2 (Option.some.inj e))⟩
theorem Fr2.trans {w w1 w2 : World} {rb mb : Nat} (h : Fr2 w w1 rb mb) (k : Fr2 w1 w2 rb mb) : Fr2 w w2 rb mb :=
  ⟨k.1.trans h.1, k.2.1.trans h.2.1, k.2.2.1.trans h.2.2.1, Nat.le_trans h.2.2.2.1 k.2.2.2.1, fun j hj h1 h2 => (k.2.2.2.2 j (Nat.lt_of_lt_of_le hj h.2.2.2.1) h1 h2).trans (h.2.2.2.2 j hj h1 h2)⟩
/-- from a world in which the second block was not there yet -/
theorem Fr2.one {w0 w w' : World} {rb mb : Nat} (h0 : w0.grownBy w (some rb)) (h : Fr2 w w' rb mb) (hm : w0.heap.size ≤ mb) : w0.grownBy w' (some rb) :=
  ⟨h.1.trans h0.os, h.2.1.trans h0.tape, h.2.2.1.trans h0.output, Nat.le_trans h0.size h.2.2.2.1, fun k hk hne => (h.2.2.2.2 k (Nat.lt_of_lt_of_le hk h0.size) (fun e => hne (by rw [e])) (by omega)).trans (h0.block k hk hne)⟩

/-- the set of names -/
def nmK (n : List UInt8) : Lit := .string n
def nmD (ns : List (List UInt8)) : DataW Unit := setOf (.agg []) (ns.map nmK)
theorem nmD_snoc (ns : List (List UInt8)) (n : List UInt8) : nmD (ns ++ [n]) = (nmD ns).put (nmK n) (.agg []) := by
  unfold nmD; rw [List.map_append]; exact setOf_snoc _ _ _
theorem nmD_has (ns : List (List UInt8)) (n : List UInt8) : Maps.has (nmD ns) (nmK n) = decide (n ∈ ns) := by
  unfold nmD
  rw [has_setOf _ _ _ (fun x hx => by
    obtain ⟨y, _, rfl⟩ := List.mem_map.1 hx
    trivial)]
  rw [List.any_map, Bool.eq_iff_iff, List.any_eq_true, decide_eq_true_iff]
  constructor
  · rintro ⟨x, h1, h2⟩
    have : x = n := by simpa [nmK, Lit.sameKey] using h2
    rw [← this]; exact h1
  · intro h
    exact ⟨n, h, by simp [nmK, Lit.sameKey]⟩
theorem keyStr : Keyed Try.prog 9 := string_keyed Try.underlying9
theorem zeroUnit (w : World) : (zeroValue 92).run Try.prog w = .ok (.agg #[]) w := by kernel_rfl
/-- a set of names in memory -/
def NmS (w : World) (mb n : Nat) (ns : List (List UInt8)) : Prop := w.ownsMap Try.prog 9 (unitElem (H := Unit)) mb n (nmD ns)

/-- what name hands back -/
def GivesNm (rb mb : Nat) (vL : Value) (t : Tok) (ns : List (List UInt8)) (n i p : Nat) (w : World) (e : Ending) (w' : World) : Prop :=
  Fr2 w w' rb mb ∧
    ((t.1 ≠ 4 ∧ e = Gone t.2.2.2 50) ∨ (t.1 = 4 ∧ t.2.2.1 ∈ ns ∧ e = Gone t.2.2.2 52) ∨
      (t.1 = 4 ∧ t.2.2.1 ∉ ns ∧ e = .returned (.string (strOf t.2.2.1)) ∧ Rdr w' rb vL (i + 1) p ∧ NmS w' mb (n + 1) (ns ++ [t.2.2.1])))

set_option maxRecDepth 100000 in
set_option maxHeartbeats 4000000 in
theorem name_any (rb mb : Nat) (vL : Value) (ts : List Tok) (E : Int) (i p n : Nat) (ns : List (List UInt8)) (w : World) (hp : Rdr w rb vL i p) (hr : RdT w rb vL (withE ts E)) (hi : i ≤ ts.length) (hi2 : ts.length ≤ 4611686018427387904)
    (hm : NmS w mb n ns) (hn : n ≤ 4611686018427387904) (hne : mb ≠ rb) (hrm : rb < mb) (hsl : (tk ts E i).2.2.1.length ≤ 4611686018427387904) :
    Calls Try.prog 54 #[.pointer (some ⟨rb, 0, none⟩), .map (some mb)] w (GivesNm rb mb vL (tk ts E i) ns n i p w) := by
  obtain ⟨hlt, c0, c1, c2, fz⟩ := hp.cells
  have hr0 := hr
  obtain ⟨g, c, rfl, hg, a0, a1, a2, a3⟩ := RdT_atE hr hi
  have k0 : (0 : Int) ≤ (i : Int) := by omega
  have k1 : (i : Int) < (ts.length : Int) + 1 := by omega
  have hn1 : w.heap.size ≠ rb := by omega
  have hn3 : w.heap.size ≠ g := by omega
  have HF := fun y w1 hp1 hr1 => rfail_any rb (.slice (some ⟨g, 0, none⟩) (ts.length + 1) c) ts E i p y w1 hp1 hr1 hi
  have HT := fun w1 hp1 hr1 => take_any rb (.slice (some ⟨g, 0, none⟩) (ts.length + 1) c) ts E i p w1 hp1 hr1 hi hi2
  have hk1 := Go.WideMaps.keyOf_string_mk (P := Try.prog) (k := 9) Try.underlying9 (s := strOf (tk ts E i).2.2.1) (by rw [strOf_size]; unfold maxLen; omega)
  rcases htk : tk ts E i with ⟨x1, x2, x3, x4⟩
  rw [htk] at a0 a1 a2 a3 HF HT hsl hk1
  unfold tokV at HT
  simp only at a0 a1 a2 a3 HF HT hsl hk1
  rw [strOf_data] at hk1
  clear htk
  obtain ⟨X, hX⟩ : ∃ X, X = strOf x3 := ⟨_, rfl⟩
  have hX2 := hX
  rw [← hX] at a2 HT hk1
  have hfd2 : ∀ w : World, (Instr.field 47 (.agg #[.int .i64 x1, .int .i64 x2, .string X, .int .i64 x4]) 2).run Try.prog w = .ok (.string X) w := fun _ => by kernel_rfl
  have HFF := Lib.hid HF; clear HF
  have HTT := Lib.hid HT; clear HT
  have HP := Lib.hid hp; clear hp
  have HR := Lib.hid hr0; clear hr hr0
  have HZ := Lib.hid fz; clear fz
  have HM := Lib.hid hm; clear hm
  have HX := Lib.hid hX2; clear hX2
  have HK := Lib.hid hk1; clear hk1
  clear hX
  unfold GivesNm
  simp only
  by_cases h4 : x1 = 4
  · have t1 : (x1 != 4) = false := by rw [bne_eq_false_iff_eq]; exact h4
    have t2 : (x1 == 4) = true := by rw [beq_iff_eq]; exact h4
    have H4 := Lib.hid h4; clear h4
    by_cases hin : x3 ∈ ns
    · have hh : Maps.has (nmD ns) (nmK x3) = true := by rw [nmD_has]; exact decide_eq_true hin
      have HIN := Lib.hid hin; clear hin
      go_enter Try.func54, Try.ntmps54
      go_wp2_with fail
      go_region_held3 (fun w' => w'.cell? ⟨rb, 0, none⟩ = some (.slice (some ⟨g, 0, none⟩) (ts.length + 1) c) ∧ w'.cell? ⟨rb, 1, none⟩ = some (.int .i64 i) ∧ w'.cell? ⟨g, i * 4, none⟩ = some (.int .i64 x1) ∧ w'.cell? ⟨g, i * 4 + 1, none⟩ = some (.int .i64 x2) ∧ w'.cell? ⟨g, i * 4 + 2, none⟩ = some (.string X) ∧ w'.cell? ⟨g, i * 4 + 3, none⟩ = some (.int .i64 x4)) (go_keep) (fail)
      all_goals
        go_wp2_with (at_lookup; refine wpList_lookup_own_unit _ rfl _ _ 89 rfl 9 92 keyStr Try.underlying89 (zeroUnit _) mb n (nmD ns) rfl (World.ownsMap.drew (World.ownsMap.alloc HM.out _)) _ _ rfl HK.out ?_; rw [show (Lit.string x3) = nmK x3 from rfl, hh])
        have hb : Below w.heap.size w ((w.alloc (.cells #[.int .i64 x1, .int .i64 x2, .string X, .int .i64 x4] 47)).alloc (.cells #[] 92)).drew := (((Below.refl _ _).alloc (Nat.le_refl _) _).alloc (by rw [szAlloc']; omega) _).drew
        refine (HFF.out 52 _ (HP.out.below hb) (RdT_fr HR.out (Nat.le_of_lt hlt) (Fr.of rb hb))).mono ?_
        rintro e w1 ⟨rfl, hb1⟩
        exact bodyPost_gone rfl ⟨Fr2.of_rb mb (Fr.of rb (hb.trans (hb1.mono hb.size))), .inr (.inl ⟨H4.out, HIN.out, rfl⟩)⟩
    · have hh : Maps.has (nmD ns) (nmK x3) = false := by rw [nmD_has]; exact decide_eq_false hin
      have HIN := Lib.hid hin; clear hin
      go_enter Try.func54, Try.ntmps54
      go_wp2_with fail
      go_region_held3 (fun w' => w'.cell? ⟨rb, 0, none⟩ = some (.slice (some ⟨g, 0, none⟩) (ts.length + 1) c) ∧ w'.cell? ⟨rb, 1, none⟩ = some (.int .i64 i) ∧ w'.cell? ⟨g, i * 4, none⟩ = some (.int .i64 x1) ∧ w'.cell? ⟨g, i * 4 + 1, none⟩ = some (.int .i64 x2) ∧ w'.cell? ⟨g, i * 4 + 2, none⟩ = some (.string X) ∧ w'.cell? ⟨g, i * 4 + 3, none⟩ = some (.int .i64 x4)) (go_keep) (fail)
      all_goals
        go_wp2_with (first
          | (at_lookup; refine wpList_lookup_own_unit _ rfl _ _ 89 rfl 9 92 keyStr Try.underlying89 (zeroUnit _) mb n (nmD ns) rfl (World.ownsMap.drew (World.ownsMap.alloc HM.out _)) _ _ rfl HK.out ?_; rw [show (Lit.string x3) = nmK x3 from rfl, hh])
          | (at_mapUpdate; refine wpList_mapUpdate_own _ rfl _ _ _ 89 rfl 9 92 keyStr Try.underlying89 (unitElem (H := Unit)) mb n (nmD ns) rfl (World.ownsMap.drew (World.ownsMap.alloc (World.ownsMap.alloc HM.out _) _)) (by unfold maxLen; omega) _ _ _ rfl rfl HK.out _ [] unitElem_mk ?_; intro w1 hown1 hgrow1))
        have hb : Below w.heap.size w ((w.alloc (.cells #[.int .i64 x1, .int .i64 x2, .string X, .int .i64 x4] 47)).alloc (.cells #[] 92)).drew := (((Below.refl _ _).alloc (Nat.le_refl _) _).alloc (by rw [szAlloc']; omega) _).drew
        have hlm : mb < w.heap.size := HM.out.lt
        have hp1 : Rdr w1 rb (.slice (some ⟨g, 0, none⟩) (ts.length + 1) c) i p := (hgrow1.block rb (Nat.lt_of_lt_of_le hlt hb.size) (fun e => hne (Option.some.inj e).symm)).trans (HP.out.below hb)
        have hr1 : RdT w1 rb (.slice (some ⟨g, 0, none⟩) (ts.length + 1) c) (withE ts E) := (RdT_fr HR.out (Nat.le_of_lt hlt) (Fr.of rb hb)).keep fun q hq => World.cell?_of_block (hgrow1.block q.block (by have := hb.size; omega) (fun e => by have := Option.some.inj e; omega))
        refine (HTT.out w1 hp1 hr1).mono ?_
        rintro e w2 ⟨rfl, hf2, hp2⟩
        go_wp2_with fail
        go_ret
        refine ⟨Fr2.trans (Fr2.of_rb mb (Fr.of rb hb)) (Fr2.trans (Fr2.of_mb rb hgrow1) (Fr2.of_rb mb hf2)), .inr (.inr ⟨H4.out, HIN.out, by rw [HX.out]; rfl, hp2, ?_⟩)⟩
        unfold NmS
        rw [nmD_snoc]
        exact hown1.kept hf2 (fun e => hne (Option.some.inj e))
  · have t1 : (x1 != 4) = true := by rw [bne_iff_ne]; exact h4
    have t2 : (x1 == 4) = false := by rw [beq_eq_false_iff_ne]; exact h4
    go_enter Try.func54, Try.ntmps54
    go_wp2_with fail
    go_region_held3 (fun w' => w'.cell? ⟨rb, 0, none⟩ = some (.slice (some ⟨g, 0, none⟩) (ts.length + 1) c) ∧ w'.cell? ⟨rb, 1, none⟩ = some (.int .i64 i) ∧ w'.cell? ⟨g, i * 4, none⟩ = some (.int .i64 x1) ∧ w'.cell? ⟨g, i * 4 + 1, none⟩ = some (.int .i64 x2) ∧ w'.cell? ⟨g, i * 4 + 2, none⟩ = some (.string X) ∧ w'.cell? ⟨g, i * 4 + 3, none⟩ = some (.int .i64 x4)) (go_keep) (fail)
    all_goals
      go_wp2_with fail
      have hb : Below w.heap.size w (w.alloc (.cells #[.int .i64 x1, .int .i64 x2, .string X, .int .i64 x4] 47)).drew := ((Below.refl _ _).alloc (Nat.le_refl _) _).drew
      refine (HFF.out 50 _ (HP.out.below hb) (RdT_fr HR.out (Nat.le_of_lt hlt) (Fr.of rb hb))).mono ?_
      rintro e w1 ⟨rfl, hb1⟩
      exact bodyPost_gone rfl ⟨Fr2.of_rb mb (Fr.of rb (hb.trans (hb1.mono hb.size))), .inl ⟨h4, rfl⟩⟩
end Go.Proofs.Ytcbiaflbncfliaa.Re
