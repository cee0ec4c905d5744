/- Merged: TlD TlE TlPl2 TlPl3. -/
import Derived.Test.YtfdibmcjjclgkaaTt5
import Derived.Test.YtfdibmcjjclgkaaTt0
import Derived.Deep.AppendLies
import Derived.Deep.RegionHeld3
namespace Go.Proofs.Ytfdibmcjjclgkaa.Tl
open Go.Proofs Go.RowKit
open Go.Proofs.Ytfdibmcjjclgkaa.Utf
open Go.Proofs.Ytfdibmcjjclgkaa.Ro

theorem infoPa : (Try.prog.info? 45).map (fun i => (i.zero, i.size, i.bytes)) = some (some (.agg #[.string ByteArray.empty, .bool false, .bool false, .int .i64 0]), 4, 32) := by kernel_rfl
section
variable {l : List En} {s z : Int} {id : List UInt8} {i j m : Nat}
end
theorem own_slice {w : World} {B E s n : Nat} {v : Value} {xs : List Value} (h : w.ownsRow B E s v n xs) : ∃ A c, v = .slice A n c := by
  rcases h.2 with ⟨rfl, rfl⟩ | ⟨g, cap, cur, rfl, _⟩
  · exact ⟨none, 0, rfl⟩
  · exact ⟨_, cap, rfl⟩
theorem row4 {w : World} {b : Nat} {t : TypeId} {v0 v1 v2 v3 : Value} (h : w.heap[b]? = some (.cells #[v0, v1, v2, v3] t (0, 0))) : w.cell? ⟨b, 0, none⟩ = some v0 ∧ w.cell? ⟨b, 1, none⟩ = some v1 ∧ w.cell? ⟨b, 2, none⟩ = some v2 ∧ w.cell? ⟨b, 3, none⟩ = some v3 :=
  ⟨(cell_of_row w b 0 _ _ _ h).trans rfl, (cell_of_row w b 1 _ _ _ h).trans rfl, (cell_of_row w b 2 _ _ _ h).trans rfl, (cell_of_row w b 3 _ _ _ h).trans rfl⟩
def GivesSn (l : List En) (s : Int) (T : TypeId) (w : World) (e : Ending) (w' : World) : Prop :=
  ∃ x, e = .returned x ∧ w'.ownsRow w.heap.size T 4 x (sinS l s).length (paC (sinS l s)).flatten ∧ Below w.heap.size w w'
end Go.Proofs.Ytfdibmcjjclgkaa.Tl
namespace Go.Proofs.Ytfdibmcjjclgkaa.Tl
open Go.Proofs Go.RowKit
open Go.Proofs.Ytfdibmcjjclgkaa.Utf
open Go.Proofs.Ytfdibmcjjclgkaa.Ro

def GivesPs (l : List Pa) (T : TypeId) (w : World) (e : Ending) (w' : World) : Prop :=
  ∃ x, e = .returned x ∧ w'.ownsRow w.heap.size T 4 x l.length (paC l).flatten ∧ Below w.heap.size w w'
set_option maxRecDepth 100000 in
set_option maxHeartbeats 2000000 in
theorem pasts_any (v : Value) (l : List Pa) (w : World) (hl : RdP w w.heap.size v l) (hn : l.length ≤ 1000000000) :
    Calls Try.prog 16 #[v] w (GivesPs l 45 w) := by
  have mixed : Try.prog.follows .mixedOrders = true := by kernel_rfl
  obtain ⟨i0, hi0, hz0, hz1, hz2⟩ := info_parts infoPa
  obtain ⟨A, c, rfl⟩ := RdP.form hl
  have HL := Lib.hid hl
  clear hl
  obtain ⟨n, hn'⟩ : ∃ n, l.length = n := ⟨_, rfl⟩
  have HN := Lib.hid hn'
  rw [hn'] at hn HL
  clear hn'
  rw [HN.out]
  go_enter Try.func16, Try.ntmps16
  go_wp2_with fail
  go_loopw [3, 4] (fun v ii wr => ∃ i : Nat, ii = .int .i64 (i : Int) ∧ i ≤ n ∧ Aside (wr.ownsRow w.heap.size 45 4 v i (paC (l.take i)).flatten) ∧ Aside (Below w.heap.size w wr)) (fun _ ii _ => n - (intOf ii).toNat)
  case atStart => exact ⟨0, rfl, by omega, (show World.ownsRow _ _ _ _ _ _ _ from World.ownsRow_nil _ _ _ _), (show Below _ _ _ from Below.refl _ _)⟩
  case round =>
    obtain ⟨i, rfl, hin, hrow, hbel⟩ := hrel
    have HRO := Lib.hid hrow.out
    have HBE := Lib.hid hbel.out
    clear hrow hbel
    obtain ⟨wz, hwz⟩ : ∃ wo, wo = wr := ⟨_, rfl⟩
    subst hwz
    by_cases hlt : i < n
    · have t0 : decide ((i : Int) < (n : Int)) = true := decide_eq_true (by omega)
      have t1 : decide (i < n) = true := decide_eq_true hlt
      have k0 : (0 : Int) ≤ (i : Int) := by omega
      have k1 : (i : Int) < (n : Int) := by omega
      have k2 : ((i : Int)).toNat = i := by omega
      have hil : i < l.length := by rw [HN.out]; exact hlt
      obtain ⟨g, o, c, e1, hg, a0, a1, a2, a3⟩ := RdP.at_ HL.out HBE.out hil
      injection e1 with e1 z1 z2
      subst e1
      clear z1 z2
      rcases hx : l[i] with ⟨eid, b1, b2, eq⟩
      rw [hx] at a0 a1 a2 a3
      have HEi := Lib.hid hx
      simp only at a0 a1 a2 a3
      clear hx
      obtain ⟨XE, hXE⟩ : ∃ z, strOf eid = z := ⟨_, rfl⟩
      have HXS := Lib.hid hXE
      rw [hXE] at a0
      clear hXE
      have hgz : g < wz.heap.size := Nat.lt_of_lt_of_le hg HBE.out.size
      obtain ⟨Ao, co, rfl⟩ := own_slice HRO.out
      have hown := HRO.out
      have hle := hin
      have hqs := HBE.out.size
      have HROW := Lib.hid (show (paC (l.take i)).flatten ++ [.string XE, .bool b1, .bool b2, .int .i64 eq] = (paC (l.take (i + 1))).flatten by
        rw [List.take_succ_eq_append_getElem hil, HEi.out]
        unfold paC
        rw [List.map_append, List.flatten_append, List.map_cons, List.map_nil, List.flatten_singleton]
        unfold paR
        rw [HXS.out])
      have hbd : Below wz.heap.size wz wz.drew := (Below.refl _ _).drew
      have hba : ∀ o, Below wz.heap.size wz (wz.alloc o).drew := fun o => ((Below.refl _ _).alloc (Nat.le_refl _) o).drew
      have hgo : ∀ k, some k = (Value.slice Ao i co).ownBlock → g = k → False := fun k e h => by have := (hown.lt k e.symm).1; omega
      have HNB := Lib.hid (show ((wz.alloc (.cells #[.string XE, .bool b1, .bool b2, .int .i64 eq] 45)).drew).heap[wz.heap.size]? = some (.cells #[.string XE, .bool b1, .bool b2, .int .i64 eq] 45 (0, 0)) from heap_alloc_new wz _)
      go_wp2_with fail
      go_region_held3 (fun w' => w'.cell? ⟨g, o + i * 4, none⟩ = some (.string XE) ∧ w'.cell? ⟨g, o + i * 4 + 1, none⟩ = some (.bool b1) ∧ w'.cell? ⟨g, o + i * 4 + 2, none⟩ = some (.bool b2) ∧ w'.cell? ⟨g, o + i * 4 + 3, none⟩ = some (.int .i64 eq)) (first | go_keep | exact ⟨(hg8.cell_far ⟨g, o + i * 4, none⟩ (by simp; omega) (fun e => hgo g e rfl)).trans (((hba _).cell (p := ⟨g, o + i * 4, none⟩) hgz).trans a0), (hg8.cell_far ⟨g, o + i * 4 + 1, none⟩ (by simp; omega) (fun e => hgo g e rfl)).trans (((hba _).cell (p := ⟨g, o + i * 4 + 1, none⟩) hgz).trans a1), (hg8.cell_far ⟨g, o + i * 4 + 2, none⟩ (by simp; omega) (fun e => hgo g e rfl)).trans (((hba _).cell (p := ⟨g, o + i * 4 + 2, none⟩) hgz).trans a2), (hg8.cell_far ⟨g, o + i * 4 + 3, none⟩ (by simp; omega) (fun e => hgo g e rfl)).trans (((hba _).cell (p := ⟨g, o + i * 4 + 3, none⟩) hgz).trans a3)⟩)
        ((refine step_append_lies _ (by rfl) _ _ _ (by rfl) w.heap.size 45 i0 _ 4 32 Try.underlying32 hi0 hz0 hz1 hz2 (by rfl) (by decide) (.slice Ao i co) i (paC (l.take i)).flatten (by rfl) ((hown.alloc _).drew) ⟨wz.heap.size, 0, none⟩ 1 1 [.string XE, .bool b1, .bool b2, .int .i64 eq] (by rfl) (by rfl) (World.news_of_block (cs := #[.string XE, .bool b1, .bool b2, .int .i64 eq]) (t := 45) (fr := (0, 0)) HNB.out) (by intro u hu; simp at hu; rcases hu with rfl | rfl | rfl | rfl <;> rfl) (by omega) (by unfold maxLen; omega) (by omega) (by simp; omega) (wz.heap.size + 1) (by simp) ?_; intro gb cap w8 hown8 hg8 hat hgl))
      have HO8 := Lib.hid (show w8.ownsRow w.heap.size 45 4 (.slice (some ⟨gb, 0, none⟩) (i + 1) cap) (i + 1) (paC (l.take (i + 1))).flatten by rw [← HROW.out]; exact hown8)
      have HB8 := Lib.hid (show Below w.heap.size w w8 from ((HBE.out.alloc hqs _).drew).grown hg8 (by simp; omega) (fun k hk => (hown.lt k hk).1))
      go_wp2_with fail
      go_roundw
      case rel => exact ⟨i + 1, by go_num, by omega, HO8.out, HB8.out⟩
      case measure => simp [intOf]; omega
    · have t0 : decide ((i : Int) < (n : Int)) = false := decide_eq_false (by omega)
      have t1 : decide (i < n) = false := decide_eq_false hlt
      obtain rfl : i = n := by omega
      have HT := Lib.hid (show l.take i = l from List.take_of_length_le (by rw [HN.out]; exact Nat.le_refl _))
      rw [HT.out] at HRO
      go_wp2_with fail
      go_ret
      exact ⟨_, rfl, by rw [HN.out]; exact HRO.out, HBE.out⟩

theorem rd_block {w : World} {B g s c : Nat} {cs : Array Value} {t : TypeId} {fr : Nat × Nat} {rows : List (List Value)} (h : w.heap[g]? = some (.cells cs t fr)) (hs : ∀ r ∈ rows, r.length = s) (hc : rows.flatten = cs.toList) (hg : g < B) : RdR w B s (.slice (some ⟨g, 0, none⟩) rows.length c) rows := by
  refine ⟨hs, _, _, rfl, fun _ => ⟨g, 0, rfl, hg, fun k hk j u hu => ?_⟩⟩
  have hj : j < s := by
    have := (List.getElem?_eq_some_iff.1 hu).1
    rwa [hs _ (List.getElem_mem hk)] at this
  rw [Nat.zero_add, cell_of_row w g _ cs t fr h, ← Array.getElem?_toList, ← hc, flat_at rows hs k hk j hj]
  exact hu
def exE : List En := [(1, [97], 1), (2, [98], 1), (3, [97], 3), (4, [98], 2)]
def GivesE (l : List En) (w : World) (e : Ending) (w' : World) : Prop := ∃ x, e = .returned x ∧ RdE w' w'.heap.size x l ∧ (∀ A m c, x = .slice A m c → m ≤ c) ∧ Below w.heap.size w w'
set_option maxHeartbeats 1000000 in
set_option maxRecDepth 100000 in
theorem example_any (w : World) : Calls Try.prog 21 #[] w (GivesE exE w) := by
  go_enter Try.func21, Try.ntmps21
  go_wp2_with fail
  go_ret
  exact ⟨_, rfl, rd_block (rows := enC exE) (heap_alloc_new w _) (fun r hr => by obtain ⟨q, -, rfl⟩ := List.mem_map.1 hr; rfl) rfl (by simp), (fun _ _ _ h => by injection h with h1 h2 h3; omega), (Below.refl _ _).alloc (Nat.le_refl _) _⟩
end Go.Proofs.Ytfdibmcjjclgkaa.Tl
namespace Go.Proofs.Ytfdibmcjjclgkaa.Tl
open Go.Proofs Go.RowKit
open Go.Proofs.Ytfdibmcjjclgkaa.Utf

theorem hit_is {s : Int} {id : List UInt8} {x : En} : hit s id x = true ↔ x.2.1 = id ∧ s < x.1 := by unfold hit; rw [decide_eq_true_iff]
theorem can_mem {s : Int} {l : List En} {x : Pa} : ∀ (d k : Nat), l.length - k = d → x ∈ canS s (l.take k) (l.drop k) → ∃ (e : Nat) (h : e < l.length), k ≤ e ∧ x = pastT s (l.take (e + 1)) l[e] ∧ s < l[e].1 ∧ (l.drop (e + 1)).any (hit s l[e].2.1) = false
  | 0, k, hd, hx => by
    rw [List.drop_eq_nil_of_le (by omega), canS] at hx
    cases hx
  | d + 1, k, hd, hx => by
    have hk : k < l.length := by omega
    rw [can_step hk] at hx
    rcases List.mem_append.1 hx with hx | hx
    · split at hx
      · rename_i hc
        rw [List.mem_singleton] at hx
        exact ⟨k, hk, Nat.le_refl _, hx, hc.1, hc.2⟩
      · cases hx
    · obtain ⟨e, he, h1, h2⟩ := can_mem d (k + 1) (by omega) hx
      exact ⟨e, he, by omega, h2⟩
theorem can_rise {f s : Int} {l : List En} (hok : okFrom f [] l = true) : ∀ (d k : Nat), l.length - k = d → (canS s (l.take k) (l.drop k)).Pairwise fun a b => a.2.2.2 < b.2.2.2
  | 0, k, hd => by
    rw [List.drop_eq_nil_of_le (by omega), canS]
    exact List.Pairwise.nil
  | d + 1, k, hd => by
    have hk : k < l.length := by omega
    rw [can_step hk]
    have ih := can_rise (s := s) hok d (k + 1) (by omega)
    split
    · rw [List.singleton_append, List.pairwise_cons]
      refine ⟨fun b hb => ?_, ih⟩
      obtain ⟨e, he, h1, h2, -⟩ := can_mem d (k + 1) (by omega) hb
      rw [h2]
      show l[k].1 < l[e].1
      rw [ok_seq hok hk, ok_seq hok he]
      omega
    · rw [List.nil_append]; exact ih
theorem fold_rise : ∀ (c O : List Pa), c.Pairwise (fun a b => a.2.2.2 < b.2.2.2) → (∀ x ∈ O, ∀ y ∈ c, x.2.2.2 < y.2.2.2) → c.foldl insP O = O ++ c := by
  intro c
  induction c with
  | nil => intro O _ _; rw [List.foldl_nil, List.append_nil]
  | cons p r ih =>
    intro O hp hO
    rw [List.pairwise_cons] at hp
    rw [List.foldl_cons, ins_end fun x hx => Int.le_of_lt (hO x hx p List.mem_cons_self), ih _ hp.2 ?_, List.append_assoc, List.singleton_append]
    intro x hx y hy
    rcases List.mem_append.1 hx with hx | hx
    · exact hO x hx y (List.mem_cons_of_mem _ hy)
    · rw [List.mem_singleton.1 hx]
      exact hp.1 y hy
theorem sin_can {f s : Int} {l : List En} (hok : okFrom f [] l = true) : sinS l s = canS s [] l := by
  have h := can_rise (s := s) hok l.length 0 (by omega)
  rw [List.take_zero, List.drop_zero] at h
  unfold sinS
  rw [fold_rise _ _ h (fun x hx => by cases hx), List.nil_append]
section
variable {f s : Int} {l : List En} {x : Pa}
end
end Go.Proofs.Ytfdibmcjjclgkaa.Tl
namespace Go.Proofs.Ytfdibmcjjclgkaa.Tl
open Go.Proofs Go.RowKit
open Go.Proofs.Ytfdibmcjjclgkaa.Utf

theorem ok_drop {f : Int} : ∀ (r p q : List En), okFrom f (p ++ q) r = true → okFrom (f + (p.length : Int)) q r = true := by
  intro r
  induction r with
  | nil => intro p q _; rfl
  | cons e r ih =>
    intro p q h
    rw [okFrom, Bool.and_eq_true] at h
    rw [okFrom, Bool.and_eq_true]
    refine ⟨?_, ih p (q ++ [e]) (by rw [← List.append_assoc]; exact h.2)⟩
    have h1 := ok_is.1 h.1
    refine ok_is.2 ⟨?_, h1.2.1, h1.2.2.1, fun e1 => ?_, fun e1 => ?_⟩
    · have := h1.1
      rw [List.length_append] at this
      omega
    · have h2 := h1.2.2.2.1 e1
      rw [was_app] at h2
      by_cases ha : q.any (fun x => decide (x.2.1 = e.2.1)) = true
      · rwa [if_pos ha] at h2
      · exact was_none fun x hx hxe => ha (List.any_eq_true.2 ⟨x, hx, decide_eq_true hxe⟩)
    · have h2 := h1.2.2.2.2 e1
      rw [was_app] at h2
      by_cases ha : q.any (fun x => decide (x.2.1 = e.2.1)) = true
      · rwa [if_pos ha] at h2
      · rw [was_none fun x hx hxe => ha (List.any_eq_true.2 ⟨x, hx, decide_eq_true hxe⟩)]
        decide
theorem can_ahead {s : Int} {p : List En} (hp : ∀ x ∈ p, x.1 ≤ s) : ∀ (r q : List En), canS s (p ++ q) r = canS s q r := by
  intro r
  induction r with
  | nil => intro q; rfl
  | cons e r ih =>
    intro q
    rw [canS, canS, List.append_assoc, ih (q ++ [e])]
    have hpt : pastT s (p ++ (q ++ [e])) e = pastT s (q ++ [e]) e := by
      unfold pastT
      rw [List.find?_append, List.find?_eq_none.2 (fun x hx => by
        intro hh
        have := (hit_is.1 hh).2
        have := hp x hx
        omega), Option.none_or]
    rw [hpt]
theorem can_skip {s : Int} : ∀ (p q r : List En), (∀ x ∈ p, x.1 ≤ s) → canS s q (p ++ r) = canS s (q ++ p) r := by
  intro p
  induction p with
  | nil => intro q r _; rw [List.nil_append, List.append_nil]
  | cons e p ih =>
    intro q r hp
    rw [List.cons_append, canS, if_neg (fun h => by have := hp e List.mem_cons_self; have := h.1; omega), List.nil_append, ih (q ++ [e]) r (fun x hx => hp x (List.mem_cons_of_mem _ hx)), List.append_assoc, List.singleton_append]
section
variable {l : List En} {f keep : Int} {e : En}
theorem right_is {l : List En} {f s : Int} : rightS l f s = true ↔ (0 ≤ f ∧ 0 ≤ s ∧ s ≤ 9007199254740991 ∧ f ≤ s ∧ s - f = (l.length : Int)) ∧ okFrom f [] l = true := by
  unfold rightS
  rw [Bool.and_eq_true, decide_eq_true_iff]
theorem cutS_le : cutS l keep ≤ (l ++ [e]).length := by
  unfold cutS
  rw [List.length_append, List.length_singleton]; omega
theorem flr_is (h : rightS (l ++ [e]) f (f + (l.length : Int) + 1) = true) : flrS l f keep e = f + (cutS l keep : Int) := by
  unfold flrS
  split
  · rename_i h0; rw [h0]; simp
  · rename_i h0
    have hc := cutS_le (l := l) (keep := keep) (e := e)
    have hlt : cutS l keep - 1 < (l ++ [e]).length := by omega
    rw [List.getD_eq_getElem?_getD, List.getElem?_eq_getElem hlt, Option.getD_some, ok_seq (right_is.1 h).2 hlt]
    omega
theorem goes_right (h : rightS (l ++ [e]) f (f + (l.length : Int) + 1) = true) : rightS (outS l keep e) (flrS l f keep e) (f + (l.length : Int) + 1) = true := by
  obtain ⟨⟨h0, h1, h2, h3, h4⟩, hok⟩ := right_is.1 h
  have hc := cutS_le (l := l) (keep := keep) (e := e)
  rw [flr_is h]
  have hlen : (outS l keep e).length = (l ++ [e]).length - cutS l keep := by unfold outS; rw [List.length_drop]
  have hl2 : (l ++ [e]).length = l.length + 1 := by rw [List.length_append, List.length_singleton]
  refine right_is.2 ⟨⟨by omega, h1, h2, by omega, by omega⟩, ?_⟩
  have e1 : l ++ [e] = (l ++ [e]).take (cutS l keep) ++ (l ++ [e]).drop (cutS l keep) := (List.take_append_drop _ _).symm
  rw [e1, ok_app, Bool.and_eq_true] at hok
  have h5 := ok_drop (f := f) ((l ++ [e]).drop (cutS l keep)) ((l ++ [e]).take (cutS l keep)) [] (by rw [List.append_nil]; exact hok.2)
  rwa [List.length_take, Nat.min_eq_left hc] at h5
theorem goes_floor (h : rightS (l ++ [e]) f (f + (l.length : Int) + 1) = true) : f ≤ flrS l f keep e := by rw [flr_is h]; omega
theorem goes_len : (outS l keep e).length ≤ keep.toNat := by
  unfold outS cutS
  rw [List.length_drop, List.length_append, List.length_singleton]; omega
theorem goes_same (h : rightS (l ++ [e]) f (f + (l.length : Int) + 1) = true) : sinS (outS l keep e) (flrS l f keep e) = sinS (l ++ [e]) (flrS l f keep e) := by
  have h1 := (right_is.1 (goes_right (keep := keep) h)).2
  have hok := (right_is.1 h).2
  rw [sin_can h1, sin_can hok, flr_is h]
  unfold outS
  have e1 : l ++ [e] = (l ++ [e]).take (cutS l keep) ++ (l ++ [e]).drop (cutS l keep) := (List.take_append_drop _ _).symm
  have hp : ∀ x ∈ (l ++ [e]).take (cutS l keep), x.1 ≤ f + (cutS l keep : Int) := fun x hx => by
    rw [List.mem_take_iff_getElem] at hx
    obtain ⟨m, hm, rfl⟩ := hx
    rw [ok_seq hok (by omega)]
    omega
  have h2 : canS (f + (cutS l keep : Int)) [] ((l ++ [e]).take (cutS l keep) ++ (l ++ [e]).drop (cutS l keep)) = canS (f + (cutS l keep : Int)) [] ((l ++ [e]).drop (cutS l keep)) := by
    rw [can_skip _ _ _ hp, List.nil_append]
    have := can_ahead hp ((l ++ [e]).drop (cutS l keep)) []
    rwa [List.append_nil] at this
  rw [← e1] at h2
  exact h2.symm
end
end Go.Proofs.Ytfdibmcjjclgkaa.Tl
