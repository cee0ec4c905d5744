/- Merged: EmA EmB. -/
import Derived.Test.YtbfogkcnfnjcaaaTt6
import Derived.Test.YtbfogkcnfnjcaaaTt9
import Derived.Test.YtbfogkcnfnjcaaaTt5
import Derived.BigQuiet
import Derived.IntWalk
import Derived.Deep.RegionHeld3
import Derived.Maps.OwnSet
namespace Go.Proofs.Ytbfogkcnfnjcaaa.Em
open Go.RowKit Go.Maps
open Go.Proofs.Ytbfogkcnfnjcaaa.Utf
open Go.Proofs.Ytbfogkcnfnjcaaa.Sc
open Go.Proofs.Ytbfogkcnfnjcaaa.Re

def Tells (q : Prop) (w : World) (e : Ending) (w' : World) : Prop := (∃ b, e = .returned (.bool b) ∧ (b = true ↔ q)) ∧ Below w.heap.size w w'
def oth (k n : Int) (S : ByteArray) (ll lm : Nat) : Prop := (n ≠ 0 ∧ k ≠ 2 ∧ k ≠ 3) ∨ (S.toList ≠ [] ∧ k ≠ 4) ∨ (ll ≠ 0 ∧ k ≠ 5) ∨ (lm ≠ 0 ∧ k ≠ 6)

set_option maxRecDepth 100000 in
set_option maxHeartbeats 4000000 in
theorem hasOthers_any (k n : Int) (S : ByteArray) (A A2 : Option Addr) (ll c lm c2 : Nat) (w : World) :
    Calls Try.prog 46 #[.agg #[.int .i64 k, .int .i64 n, .string S, .slice A ll c, .slice A2 lm c2]] w (Tells (oth k n S ll lm) w) := by
  go_enter Try.func46, Try.ntmps46
  go_wp2_with fail
  all_goals
    go_ret
    refine ⟨⟨_, rfl, ?_⟩, (Below.refl _ _).alloc (Nat.le_refl _) _⟩
    unfold oth
    simp_all
    try omega

set_option maxRecDepth 100000 in
set_option maxHeartbeats 4000000 in
theorem areBytes_any (s : ByteArray) (w : World) (hs : s.size ≤ maxLen) : Calls Try.prog 47 #[.string s] w fun e w' => (∃ b, e = .returned (.bool b) ∧ (b = true ↔ okS s.data.toList)) ∧ w = w' := by
  have hb := Bad_any s w hs
  have hi : ((ptsL s.data.toList).2 : Int) = (s.size : Int) ↔ okS s.data.toList := by unfold okS; rw [len_data]; omega
  generalize ((ptsL s.data.toList).2 : Int) = x at *
  have HB := Lib.hid hb; clear hb
  go_enter Try.func47, Try.ntmps47
  go_wp2_with (go_at_call 71; refine HB.out.mono ?_; rintro e w' ⟨rfl, rfl⟩)
  all_goals
    go_ret
    exact ⟨⟨_, rfl, by rw [← hi]; simp⟩, rfl⟩

def nK (n : List UInt8) : Lit := .string n
def nD (ns : List (List UInt8)) : DataW Unit := setOf (.agg []) (ns.map nK)
theorem nD_snoc (ns : List (List UInt8)) (n : List UInt8) : nD (ns ++ [n]) = (nD ns).put (nK n) (.agg []) := by
  unfold nD; rw [List.map_append]; exact setOf_snoc _ _ _
theorem nD_has (ns : List (List UInt8)) (n : List UInt8) : Maps.has (nD ns) (nK n) = decide (n ∈ ns) := by
  unfold nD
  rw [has_setOf _ _ _ (fun x hx => by
    obtain ⟨y, _, rfl⟩ := List.mem_map.1 hx
    trivial)]
  rw [List.any_map, Bool.eq_iff_iff, List.any_eq_true, decide_eq_true_iff]
  constructor
  · rintro ⟨x, h1, h2⟩
    have : x = n := by simpa [nK, Lit.sameKey] using h2
    rw [← this]; exact h1
  · intro h
    exact ⟨n, h, by simp [nK, Lit.sameKey]⟩
theorem keyS : Keyed Try.prog 9 := string_keyed Try.underlying9
theorem zeroU (w : World) : (zeroValue 108).run Try.prog w = .ok (.agg #[]) w := by kernel_rfl
def Nms (w : World) (mb n : Nat) (ns : List (List UInt8)) : Prop := w.ownsMap Try.prog 9 (unitElem (H := Unit)) mb n (nD ns)
end Go.Proofs.Ytbfogkcnfnjcaaa.Em
namespace Go.Proofs.Ytbfogkcnfnjcaaa.Em
open Go.RowKit Go.Maps
open Go.Proofs.Ytbfogkcnfnjcaaa.Utf
open Go.Proofs.Ytbfogkcnfnjcaaa.Sc
open Go.Proofs.Ytbfogkcnfnjcaaa.Re

set_option maxRecDepth 100000 in
set_option maxHeartbeats 4000000 in
theorem areNames_any (A : Option Addr) (c : Nat) (ns : List (List UInt8)) (ms : List V) (lo : Nat) (w : World) (hn : ns.length = ms.length) (hR : 0 < ms.length → ∃ g o, A = some ⟨g, o, none⟩ ∧ lo ≤ g ∧ g < w.heap.size ∧ RdAM w lo w.heap.size g o ns ms)
    (hs : ∀ x ∈ ns, x.length ≤ maxLen) (hz : ms.length ≤ 4611686018427387904) :
    Calls Try.prog 48 #[.slice A ms.length c] w (Tells (nmsOk ns) w) := by
  have hmm : ∀ (n : Int) (w : World), (Instr.makeMap 107 (some (.int .i64 n))).run Try.prog w = .ok (.map (some w.heap.size)) (w.alloc (.map #[] 0)) := fun _ _ => by kernel_rfl
  by_cases h8 : ms.length ≤ 8192
  · have hq : nmsOk ns ↔ (∀ x ∈ ns, okS x) ∧ ns.Nodup := by unfold nmsOk; rw [hn]; exact ⟨fun h => h h8, fun h _ => h⟩
    generalize nmsOk ns = Q at *
    obtain ⟨n, hnn⟩ : ∃ n, ms.length = n := ⟨_, rfl⟩
    rw [hnn] at h8 hz ⊢
    have hd : decide ((8192 : Int) < (n : Int)) = false := decide_eq_false (by omega)
    have hd2 : decide (8192 < n) = false := decide_eq_false (by omega)
    have HQ := Lib.hid hq; clear hq
    have HN := Lib.hid hn; clear hn
    have HM := Lib.hid hnn
    have HS := Lib.hid hs; clear hs
    have HR := Lib.hid (fun h => hR (by rw [hnn]; exact h)); clear hR hnn
    go_enter Try.func48, Try.ntmps48
    go_wp2_with fail
    go_loopw [16] (fun i wr => ∃ k : Nat, i = .int .i64 k ∧ k ≤ n ∧ ((∀ x ∈ ns.take k, okS x) ∧ (ns.take k).Nodup) ∧ Nms wr w.heap.size k (ns.take k) ∧ Below w.heap.size w wr) (fun i _ => n - (intOf i).toNat)
    case atStart => exact ⟨0, rfl, by omega, by simp, World.ownsMap_made _ _ _ _, (Below.refl _ _).alloc (Nat.le_refl _) _⟩
    case round =>
      obtain ⟨k, rfl, hk, hall, hown, hbel⟩ := hrel
      by_cases hlt0 : k < n
      · have hlt : k < ms.length := by rw [HM.out]; exact hlt0
        have hlt2 : k < ns.length := by rw [HN.out]; exact hlt
        have hlb : decide ((k : Int) < (n : Int)) = true := decide_eq_true (by omega)
        have hlb2 : decide (k < n) = true := decide_eq_true hlt0
        have k0 : (0 : Int) ≤ (k : Int) := by omega
        have k1 : (k : Int) < (n : Int) := by omega
        obtain ⟨g, o, e1, _, hg, hRR⟩ := HR.out (by omega)
        subst e1
        obtain ⟨a0, xa, hxa, hva⟩ := RdAM.at_ _ _ o hRR k hlt hlt2
        obtain ⟨p1, p2, p3, p4, ea, _⟩ := hva.cells; rename_i hjunk; clear hjunk
        rw [ea] at hxa
        have b0 := (hbel.cell (p := ⟨g, o + k * 6, none⟩) hg).trans a0
        have b1 := (hbel.cell (p := ⟨g, o + k * 6 + 1, none⟩) hg).trans (hxa 0 _ rfl)
        have b2 := (hbel.cell (p := ⟨g, o + k * 6 + 2, none⟩) hg).trans (hxa 1 _ rfl)
        have b3 := (hbel.cell (p := ⟨g, o + k * 6 + 3, none⟩) hg).trans (hxa 2 _ rfl)
        have b4 := (hbel.cell (p := ⟨g, o + k * 6 + 4, none⟩) hg).trans (hxa 3 _ rfl)
        have b5 := (hbel.cell (p := ⟨g, o + k * 6 + 5, none⟩) hg).trans (hxa 4 _ rfl)
        have hsl := HS.out ns[k] (List.getElem_mem hlt2)
        have hkey := Go.WideMaps.keyOf_string_mk (P := Try.prog) (k := 9) Try.underlying9 (s := strOf ns[k]) (by rw [strOf_size]; exact hsl)
        have hby := fun w => areBytes_any (strOf ns[k]) w (by rw [strOf_size]; exact hsl)
        rw [strOf_data] at hkey hby
        have htk : ns.take (k + 1) = ns.take k ++ [ns[k]] := take_succ' ns k hlt2
        have hmem : ns[k] ∈ ns := List.getElem_mem hlt2
        have hnod : ns[k] ∈ ns.take k → ¬ ns.Nodup := fun hin hno => by
          have := (List.take_sublist (k + 1) ns).nodup hno
          rw [htk, List.nodup_append] at this
          exact this.2.2 _ hin _ (by simp) rfl
        generalize ns[k] = x at *
        generalize ms[k].k = y1 at *
        generalize ms[k].n = y2 at *
        generalize strOf ms[k].s = y3 at *
        generalize ms[k].l.length = y4 at *
        generalize ms[k].ms.length = y5 at *
        have HH := Lib.hid hall; clear hall
        have HO := Lib.hid hown; clear hown
        have HK := Lib.hid hkey; clear hkey
        have HB := Lib.hid hby; clear hby
        have HT := Lib.hid htk; clear htk
        have HD := Lib.hid hnod; clear hnod
        have HX := Lib.hid hmem; clear hmem
        have hbn : ∀ w' : World, Below wr.heap.size wr w' → Below w.heap.size w w' := fun w' h => hbel.trans (h.mono hbel.size)
        have HBN := Lib.hid hbn; clear hbn
        clear hxa hva hRR ea hsl a0 HR
        generalize strOf x = X at *
        by_cases hin : x ∈ ns.take k
        · have hh : Maps.has (nD (ns.take k)) (nK x) = true := by rw [nD_has]; exact decide_eq_true hin
          have HI := Lib.hid hin; clear hin
          go_wp2_with (at_lookup; refine wpList_lookup_own_unit _ rfl _ _ 107 rfl 9 108 keyS Try.underlying107 (zeroU _) w.heap.size k (nD (ns.take k)) rfl (World.ownsMap.alloc HO.out _) _ _ rfl HK.out ?_; rw [show (Lit.string x) = nK x from rfl, hh])
          go_ret
          exact ⟨⟨_, rfl, by rw [HQ.out]; simp; exact fun _ => HD.out HI.out⟩, HBN.out _ (((Below.refl _ _).alloc (Nat.le_refl _) _).alloc (by simp) _)⟩
        · have hh : Maps.has (nD (ns.take k)) (nK x) = false := by rw [nD_has]; exact decide_eq_false hin
          have HI := Lib.hid hin; clear hin
          by_cases hs0 : okS x
          · have HB2 := Lib.hid (fun w => (HB.out w).mono fun e w' h => by
              obtain ⟨⟨b, e1, e2⟩, e3⟩ := h
              have : b = true := e2.2 hs0
              subst this
              exact (⟨e1, e3⟩ : e = .returned (.bool true) ∧ w = w'))
            have HS0 := Lib.hid hs0; clear hs0 HB
            go_wp2_with (first
              | (at_lookup; refine wpList_lookup_own_unit _ rfl _ _ 107 rfl 9 108 keyS Try.underlying107 (zeroU _) w.heap.size k (nD (ns.take k)) rfl (World.ownsMap.alloc HO.out _) _ _ rfl HK.out ?_; rw [show (Lit.string x) = nK x from rfl, hh])
              | (at_mapUpdate; refine wpList_mapUpdate_own _ rfl _ _ _ 107 rfl 9 108 keyS Try.underlying107 (unitElem (H := Unit)) w.heap.size k (nD (ns.take k)) rfl (World.ownsMap.alloc (World.ownsMap.alloc HO.out _) _) (by unfold maxLen; omega) _ _ _ rfl rfl HK.out _ [] unitElem_mk ?_; intro w1 hown1 hgrow1)
              | (go_at_call 47; refine (HB2.out _).mono ?_; rintro e w' ⟨rfl, rfl⟩))
            go_roundw
            case rel =>
              refine ⟨k + 1, by go_num, by omega, ⟨?_, ?_⟩, ?_, ?_⟩
              · rw [HT.out]; intro z hz; rcases List.mem_append.1 hz with hz | hz
                · exact HH.out.1 z hz
                · rw [List.mem_singleton] at hz; rw [hz]; exact HS0.out
              · rw [HT.out, List.nodup_append]
                exact ⟨HH.out.2, by simp, fun z hz y hy => by rw [List.mem_singleton] at hy; subst hy; rintro rfl; exact HI.out hz⟩
              · unfold Nms
                rw [HT.out, nD_snoc]
                exact hown1
              · exact (HBN.out _ (((Below.refl _ _).alloc (Nat.le_refl _) _).alloc (by simp) _)).grown hgrow1 (by have := hbel.size; simp; omega) (fun j hj => by cases hj; exact Nat.le_refl _)
            case measure => simp [intOf]; omega
          · have HB2 := Lib.hid (fun w => (HB.out w).mono fun e w' h => by
              obtain ⟨⟨b, e1, e2⟩, e3⟩ := h
              have : b = false := by
                rcases b with _ | _
                · rfl
                · exact absurd (e2.1 rfl) hs0
              subst this
              exact (⟨e1, e3⟩ : e = .returned (.bool false) ∧ w = w'))
            have HS0 := Lib.hid hs0; clear hs0 HB
            go_wp2_with (first
              | (at_lookup; refine wpList_lookup_own_unit _ rfl _ _ 107 rfl 9 108 keyS Try.underlying107 (zeroU _) w.heap.size k (nD (ns.take k)) rfl (World.ownsMap.alloc HO.out _) _ _ rfl HK.out ?_; rw [show (Lit.string x) = nK x from rfl, hh])
              | (go_at_call 47; refine (HB2.out _).mono ?_; rintro e w' ⟨rfl, rfl⟩))
            go_ret
            exact ⟨⟨_, rfl, by rw [HQ.out]; simp; exact fun h => absurd (h x HX.out) HS0.out⟩, HBN.out _ (((Below.refl _ _).alloc (Nat.le_refl _) _).alloc (by simp) _)⟩
      · have hlb : decide ((k : Int) < (n : Int)) = false := decide_eq_false (by omega)
        have hlb2 : decide (k < n) = false := decide_eq_false hlt0
        have hfin : ns.take k = ns := List.take_of_length_le (by rw [HN.out, HM.out]; omega)
        rw [hfin] at hall
        go_wp2_with fail
        go_ret
        exact ⟨⟨_, rfl, by rw [HQ.out]; simp; exact hall⟩, hbel⟩
  · have hq : nmsOk ns := fun h => absurd h (by omega)
    have hd : decide ((8192 : Int) < (ms.length : Int)) = true := decide_eq_true (by omega)
    have hd2 : decide (8192 < ms.length) = true := decide_eq_true (by omega)
    go_enter Try.func48, Try.ntmps48
    go_wp2_with fail
    go_ret
    exact ⟨⟨_, rfl, by simp; exact hq⟩, Below.refl _ _⟩

theorem own_iff {k n : Int} {S : ByteArray} {s : List UInt8} {a b : Nat} {ns : List (List UInt8)} (hS : S.toList = s) : own k n s a ns b ↔ ¬ oth k n S a b ∧ (k = 1 ∨ k = 5 ∨ (k = 2 ∧ (n = 0 ∨ n = 1)) ∨ (k = 3 ∧ -9007199254740991 ≤ n ∧ n ≤ 9007199254740991) ∨ (k = 4 ∧ okS s) ∨ (k = 6 ∧ nmsOk ns)) := by
  unfold own oth
  rw [hS]
  generalize okS s = P1
  generalize nmsOk ns = P2
  constructor
  · rintro ⟨⟨h1, h2, h3, h4, h5⟩, h6, h7, h8, h9⟩
    refine ⟨?_, ?_⟩
    · rintro (⟨a1, a2⟩ | ⟨a1, a2⟩ | ⟨a1, a2⟩ | ⟨a1, a2⟩)
      · exact a1 (h2 a2)
      · exact a1 (h3 a2)
      · exact a1 (h4 a2)
      · exact a1 (h5 a2)
    · rcases (show k = 1 ∨ k = 2 ∨ k = 3 ∨ k = 4 ∨ k = 5 ∨ k = 6 by omega) with e | e | e | e | e | e
      · exact .inl e
      · exact .inr (.inr (.inl ⟨e, h6 e⟩))
      · exact .inr (.inr (.inr (.inl ⟨e, h7 e⟩)))
      · exact .inr (.inr (.inr (.inr (.inl ⟨e, h8 e⟩))))
      · exact .inr (.inl e)
      · exact .inr (.inr (.inr (.inr (.inr ⟨e, h9 e⟩))))
  · rintro ⟨hn, h⟩
    refine ⟨⟨by omega, fun e => ?_, fun e => ?_, fun e => ?_, fun e => ?_⟩, ?_⟩
    · exact Classical.byContradiction fun x => hn (.inl ⟨x, e⟩)
    · exact Classical.byContradiction fun x => hn (.inr (.inl ⟨x, e⟩))
    · exact Classical.byContradiction fun x => hn (.inr (.inr (.inl ⟨x, e⟩)))
    · exact Classical.byContradiction fun x => hn (.inr (.inr (.inr ⟨x, e⟩)))
    · rcases h with e | e | ⟨e, h⟩ | ⟨e, h⟩ | ⟨e, h⟩ | ⟨e, h⟩ <;> subst e <;> simp <;> exact h

set_option maxRecDepth 100000 in
set_option maxHeartbeats 4000000 in
theorem isRight_any (v : V) (cs : List Value) (lo : Nat) (w : World) (hR : RdA w lo w.heap.size v cs) (h1 : v.s.length ≤ maxLen) (h2 : ∀ x ∈ v.ns, x.length ≤ maxLen) (h3 : v.ms.length ≤ 4611686018427387904) :
    Calls Try.prog 35 #[.agg cs.toArray] w (Tells (own v.k v.n v.s v.l.length v.ns v.ms.length) w) := by
  obtain ⟨A, c, A2, c2, rfl, hn, _, hM⟩ := hR.cells
  have hO := fun w => hasOthers_any v.k v.n (strOf v.s) A A2 v.l.length c v.ms.length c2 w
  have hI : own v.k v.n v.s v.l.length v.ns v.ms.length ↔ _ := own_iff (strOf_list v.s)
  have hB := fun w => areBytes_any (strOf v.s) w (by rw [strOf_size]; exact h1)
  rw [strOf_data] at hB
  have hN := fun w1 (hb : Below w.heap.size w w1) => areNames_any A2 c2 v.ns v.ms lo w1 hn (fun h0 => by
    obtain ⟨g, o, e, g1, g2, g3⟩ := hM h0
    exact ⟨g, o, e, g1, Nat.lt_of_lt_of_le g2 hb.size, RdAM.keep (fun p _ hp => hb.cell hp) (Nat.le_refl _) hb.size _ _ _ _ g1 g2 g3⟩) h2 h3
  clear hM hn hR h1 h2
  generalize own v.k v.n v.s v.l.length v.ns v.ms.length = Q at *
  generalize oth v.k v.n (strOf v.s) v.l.length v.ms.length = O at *
  generalize okS v.s = P1 at *
  generalize nmsOk v.ns = P2 at *
  generalize strOf v.s = S at *
  generalize v.k = k at *
  generalize v.n = n at *
  generalize v.l.length = a at *
  generalize v.ms.length = b at *
  have HI := Lib.hid hI; clear hI
  have HO := Lib.hid hO; clear hO
  have HB := Lib.hid hB; clear hB
  have HN := Lib.hid hN; clear hN
  go_enter Try.func35, Try.ntmps35
  go_wp2_with fail
  refine (HO.out _).mono ?_
  rintro e w1 ⟨⟨x, rfl, hx⟩, hb⟩
  have hbw : Below w.heap.size w w1 := ((Below.refl w.heap.size w).alloc (Nat.le_refl _) _).trans (hb.mono (by simp))
  have f0 := (hb.cell (p := ⟨w.heap.size, 0, none⟩) (by simp)).trans ((cell_of_row _ _ 0 _ _ _ (heap_alloc_new w _)).trans rfl)
  have f1 := (hb.cell (p := ⟨w.heap.size, 1, none⟩) (by simp)).trans ((cell_of_row _ _ 1 _ _ _ (heap_alloc_new w _)).trans rfl)
  have f2 := (hb.cell (p := ⟨w.heap.size, 2, none⟩) (by simp)).trans ((cell_of_row _ _ 2 _ _ _ (heap_alloc_new w _)).trans rfl)
  have f4 := (hb.cell (p := ⟨w.heap.size, 4, none⟩) (by simp)).trans ((cell_of_row _ _ 4 _ _ _ (heap_alloc_new w _)).trans rfl)
  have HBW := Lib.hid hbw
  have HX := Lib.hid hx
  clear hb hx hbw
  cases x with
  | true =>
    go_wp2_with fail
    go_ret
    exact ⟨⟨_, rfl, by rw [HI.out]; simp; exact fun h => absurd (HX.out.1 (by trivial)) h⟩, HBW.out⟩
  | false =>
    have hno : ¬ O := fun h => by have := HX.out.2 h; simp at this
    go_wp2_with (first | (go_at_call 47; refine (HB.out _).mono ?_; rintro e w' ⟨⟨y, rfl, hy⟩, rfl⟩) | (go_at_call 48; refine (HN.out _ HBW.out).mono ?_; rintro e w2 ⟨⟨y, rfl, hy⟩, hb2⟩))
    all_goals
      go_ret
      refine ⟨⟨_, rfl, ?_⟩, by first | exact HBW.out | exact HBW.out.trans (hb2.mono HBW.out.size)⟩
      have hq := HI.out
      clear HI HO HB HN HBW HX
      rw [hq]
      clear hq
      simp_all
      try omega
end Go.Proofs.Ytbfogkcnfnjcaaa.Em
