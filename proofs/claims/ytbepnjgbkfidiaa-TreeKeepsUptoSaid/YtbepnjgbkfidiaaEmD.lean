import Derived.Test.YtbepnjgbkfidiaaEmB
import Derived.Test.YtbepnjgbkfidiaaRaOpen
import Derived.Test.YtbepnjgbkfidiaaReC
import Derived.Test.YtbepnjgbkfidiaaChW0
import Derived.Test.YtbepnjgbkfidiaaNuD
import Derived.Lib.AppendStr
/- Contracts of package emit: the writer's put, truth, quote, comma. -/
namespace Go.Proofs.Ytbepnjgbkfidiaa.Em
open Go.RowKit
open Go.Proofs.Ytbepnjgbkfidiaa.Utf
open Go.Proofs.Ytbepnjgbkfidiaa.Sc
open Go.Proofs.Ytbepnjgbkfidiaa.Re

/-! ### a text's bytes appended, and where they lie -/
section
variable {P : Program} (w : World)
theorem append_str_at (base : Nat) (t u ty e : TypeId) (i : TypeInfo) (ht : P.underlying t = some (.slice e)) (hu : P.underlying u = some .string) (hi : P.info? e = some i) (hz : i.zero = some (.int .u8 0))
    (hsize : i.size = 1) (hby : i.bytes = 1) (v : Value) (n : Nat) (xs : List Value) (hown : w.ownsRow base e 1 v n xs) (s : ByteArray)
    (h63 : n + s.size ≤ maxLen) (hbytes : n + s.size ≤ 140737488355328) (hbase : base ≤ w.heap.size) :
    ∃ v' w', (Builtin.append_ #[t, u] ty #[v, .string s]).run P w = .ok v' w' ∧ w'.ownsRow base e 1 v' (n + s.size) (xs ++ Lib.strCells s) ∧ w.grownBy w' v.ownBlock ∧ (v'.ownBlock = v.ownBlock ∨ v'.ownBlock = some w.heap.size) := by
  obtain ⟨v', w', hr, h1, h2, h3⟩ := Lib.run_append_own_string (P := P) w base t u ty e i ht hu hi hz hsize hby v n xs hown s h63 hbytes hbase
  refine ⟨v', w', hr, h1, h2, ?_⟩
  have hsmall : n + s.size ≤ 9223372036854775807 := by simp only [maxLen] at h63; omega
  have hxl : xs.length = n := by simpa using hown.1
  rcases hown.2 with ⟨rfl, rfl⟩ | ⟨g, cap, cur, rfl, hbg, hg, hnc, hcm, hcs, htake⟩
  · by_cases hm : s.size = 0
    · rw [h3.2 ⟨rfl, hm⟩]; exact .inl rfl
    · have hr2 := run_append_nil_string (P := P) w t u ty e i (.int .u8 0) ht hu hi hz s (by omega) (by omega) (by rw [hby]; omega)
      rw [hr2] at hr
      obtain ⟨rfl, _⟩ := Result.ok.inj hr
      exact .inr rfl
  · by_cases hroom : n + s.size ≤ cap
    · have hcs' : cur.size = cap := by simpa using hcs
      have hr2 := Lib.run_append_room_string (P := P) w t u ty e i ht hu hi hsize g n cap cur hg s hroom (by omega)
      rw [hr2] at hr
      obtain ⟨rfl, _⟩ := Result.ok.inj hr
      exact .inl rfl
    · have hr2 := Lib.run_append_grow_string (P := P) w t u ty e i (.int .u8 0) ht hu hi hz ⟨g, 0, none⟩ n cap xs (by rw [hsize]; simpa using hxl) (hown.cells (g := g) rfl) s (by omega) (by omega) (by rw [hby]; exact growslice_fits (by omega) (by omega))
      rw [hr2] at hr
      obtain ⟨rfl, _⟩ := Result.ok.inj hr
      exact .inr rfl
theorem wpList_append_str_at {ops : Array Oper} {rest : List Oper} {o : Oper} {a : Act} {Q : Exit → Act → World → Prop} (hgd : o.guard = none) (sl x : Operand) (t u : TypeId)
    (ho : o.op = .call { callee := .builtin .append, args := #[sl, x], argTypes := #[t, u] })
    (base : Nat) (e : TypeId) (i : TypeInfo) (ht : P.underlying t = some (.slice e)) (hu : P.underlying u = some .string) (hi : P.info? e = some i) (hz : i.zero = some (.int .u8 0))
    (hsize : i.size = 1) (hby : i.bytes = 1) (v : Value) (n : Nat) (xs : List Value) (hs : a.eval sl = v) (hown : w.ownsRow base e 1 v n xs) (s : ByteArray) (hx : a.eval x = .string s)
    (h63 : n + s.size ≤ maxLen) (hbytes : n + s.size ≤ 140737488355328) (hbase : base ≤ w.heap.size)
    (h : ∀ v' w', w'.ownsRow base e 1 v' (n + s.size) (xs ++ Lib.strCells s) → w.grownBy w' v.ownBlock → (v'.ownBlock = v.ownBlock ∨ v'.ownBlock = some w.heap.size) → wpList P ops Q rest (a.put o.dst v') w') : wpList P ops Q (o :: rest) a w := by
  refine wpList_plain hgd fun K hK => ?_
  obtain ⟨v', w', hr, h2, h3, h4⟩ := append_str_at (P := P) w base t u o.type e i ht hu hi hz hsize hby v n xs hown s h63 hbytes hbase
  unfold Oper.wp execOp
  simp only [ho, resolve, invoke, builtin, Sem.run_bind, Sem.run_pure, Result.andThen_ok, List.map_toArray, List.map_cons, List.map_nil, hs, hx, hr]
  exact hK _ _ (h v' w' h2 h3 h4)
end

/-- what stays: all below block B, and the blocks of F -/
def Kp (B : Nat) (F : Nat → Prop) (w w' : World) : Prop := Below B w w' ∧ ∀ k, F k → w'.heap[k]? = w.heap[k]?
theorem Kp.trans {B : Nat} {F : Nat → Prop} {w w1 w2 : World} (h : Kp B F w w1) (k : Kp B F w1 w2) : Kp B F w w2 := ⟨h.1.trans k.1, fun j hj => (k.2 j hj).trans (h.2 j hj)⟩
theorem Kp.refl {B : Nat} {F : Nat → Prop} {w : World} (hB : B ≤ w.heap.size) : Kp B F w w := ⟨(Below.refl _ w).mono hB, fun _ _ => rfl⟩
theorem Kp.less {B : Nat} {F G : Nat → Prop} {w w' : World} (h : Kp B F w w') (hs : ∀ k, G k → F k) : Kp B G w w' := ⟨h.1, fun k hk => h.2 k (hs k hk)⟩
/-- the writer, in its block b: its text so far, in memory from B on; F: blocks of others -/
def Wtr (B b : Nat) (F : Nat → Prop) (X : List UInt8) (w : World) : Prop :=
  ∃ v, w.heap[b]? = some (.cells #[v] 69 (0, 0)) ∧ w.ownsRow B 5 1 v X.length (Lib.byteCells X) ∧ B ≤ b ∧ ¬ F b ∧ (∀ g, v.ownBlock = some g → ¬ F g) ∧ ∀ k, F k → k < w.heap.size
theorem Wtr.keep {B b : Nat} {F : Nat → Prop} {X : List UInt8} {w w' : World} (h : Wtr B b F X w) (hb : Below w.heap.size w w') : Wtr B b F X w' := by
  obtain ⟨v, h1, h2, h3, h4, h5, h6⟩ := h
  exact ⟨v, (hb.block b (Array.getElem?_eq_some_iff.1 h1).1).trans h1, own_below h2 hb, h3, h4, h5, fun k hk => Nat.lt_of_lt_of_le (h6 k hk) hb.size⟩
theorem Wtr.kp {B b : Nat} {F : Nat → Prop} {X : List UInt8} {w w' : World} (h : Wtr B b F X w) (hb : Below w.heap.size w w') (hB : B ≤ w.heap.size) : Kp B F w w' := by
  obtain ⟨v, h1, h2, h3, h4, h5, h6⟩ := h
  exact ⟨hb.mono hB, fun k hk => hb.block k (h6 k hk)⟩
theorem Wtr.lt {B b : Nat} {F : Nat → Prop} {X : List UInt8} {w : World} (h : Wtr B b F X w) : b < w.heap.size ∧ B ≤ b := by
  obtain ⟨v, h1, _, h3, _⟩ := h
  exact ⟨(Array.getElem?_eq_some_iff.1 h1).1, h3⟩
/-- a block more of others -/
theorem Wtr.more {B b : Nat} {F : Nat → Prop} {X : List UInt8} {w : World} (h : Wtr B b F X w) (o : Obj) : Wtr B b (fun k => F k ∨ k = w.heap.size) X (w.alloc o) := by
  obtain ⟨v, h1, h2, h3, h4, h5, h6⟩ := h
  have hb : Below w.heap.size w (w.alloc o) := (Below.refl _ _).alloc (Nat.le_refl _) _
  have hlt := (Array.getElem?_eq_some_iff.1 h1).1
  refine ⟨v, (hb.block b hlt).trans h1, own_below h2 hb, h3, ?_, ?_, ?_⟩
  · rintro (h | h)
    · exact h4 h
    · omega
  · rintro g hg (h | h)
    · exact h5 g hg h
    · have := (h2.lt g hg).2; omega
  · rintro k (h | h)
    · have := h6 k h; simp; omega
    · simp; omega
theorem Wtr.less {B b : Nat} {F G : Nat → Prop} {X : List UInt8} {w : World} (h : Wtr B b F X w) (hs : ∀ k, G k → F k) : Wtr B b G X w := by
  obtain ⟨v, h1, h2, h3, h4, h5, h6⟩ := h
  exact ⟨v, h1, h2, h3, fun h => h4 (hs _ h), fun g hg h => h5 g hg (hs _ h), fun k hk => h6 k (hs _ hk)⟩
/-- what a call hands back that writes: the writer has more -/
def Wrote (B b : Nat) (F : Nat → Prop) (X : List UInt8) (w : World) (e : Ending) (w' : World) : Prop := e = .returned (.tuple #[]) ∧ Wtr B b F X w' ∧ Kp B F w w'

theorem own_shape {w : World} {base E n : Nat} {v : Value} {xs : List Value} (h : w.ownsRow base E 1 v n xs) : ∃ A c, v = .slice A n c := by
  obtain ⟨_, h⟩ := h
  rcases h with ⟨rfl, rfl⟩ | ⟨g, cap, cur, rfl, _⟩
  · exact ⟨_, _, rfl⟩
  · exact ⟨_, _, rfl⟩

set_option maxRecDepth 100000 in
set_option maxHeartbeats 4000000 in
theorem put_any (B b : Nat) (F : Nat → Prop) (X : List UInt8) (s : ByteArray) (w : World) (h : Wtr B b F X w) (hr : X.length + s.size ≤ 140737488355328) :
    Calls Try.prog 50 #[.pointer (some ⟨b, 0, none⟩), .string s] w (Wrote B b F (X ++ s.data.toList) w) := by
  obtain ⟨v, hb, hown, hBb, hFb, hFo, hFs⟩ := h
  obtain ⟨i0, hi, hz0, hz1, hz2⟩ := info_parts infoU8
  have hlt : b < w.heap.size := (Array.getElem?_eq_some_iff.1 hb).1
  have c0 : w.cell? ⟨b, 0, none⟩ = some v := by rw [cell_of_row w b 0 _ _ _ hb]; rfl
  have f0 : w.frozen? ⟨b, 0, none⟩ = false := frozen_of_row w b 0 _ _ hb
  have hne : some b ≠ v.ownBlock := by
    intro e
    rcases hown.2 with ⟨rfl, _⟩ | ⟨g, cap, cur, rfl, _, hg, _⟩
    · cases e
    · have e2 : b = g := by simpa [Value.ownBlock] using e
      subst e2
      rw [hb] at hg
      simp at hg
  go_enter Try.func50, Try.ntmps50
  go_wp2_with (at_builtin; refine wpList_append_str_at _ rfl _ _ 67 9 rfl B 5 i0 Try.underlying67 Try.underlying9 hi hz0 hz1 hz2 _ _ _ rfl hown s rfl ?_ ?_ ?_ ?_; (unfold maxLen; omega); omega; omega; intro v2 w2 hown2 hg2' hat; have hg2 : w.grownBy w2 v.ownBlock := hg2'; clear hg2'; obtain ⟨A2, cc2, rfl⟩ := own_shape hown2; have x0 := (hg2.block b hlt hne).trans hb; have x1 := frozen_of_row w2 b 0 _ _ x0; have x2 := (cell_of_row w2 b 0 _ _ _ x0).trans rfl)
  go_end0
  have x3 := heap_setCell_same w2 b 0 _ _ (.slice A2 (X.length + s.size) cc2) x0
  have hsz := hg2.size
  refine ⟨rfl, ⟨_, x3, ?_, hBb, hFb, ?_, fun k hk => by have := hFs k hk; simp; omega⟩, ?_, fun k hk => ?_⟩
  · have h2 := own_other hown2 x0 (by decide) ⟨b, 0, none⟩ rfl (.slice A2 (X.length + s.size) cc2)
    rw [List.length_append, len_data, Lib.byteCells_append]
    exact h2
  · intro g hg hFg
    rcases hat with hat | hat
    · rw [hat] at hg; exact hFo g hg hFg
    · rw [hat] at hg
      have := Option.some.inj hg
      have := hFs g hFg
      omega
  · exact (((Below.refl B w).grown hg2 (by omega) (fun k hk => (hown.lt k hk).1)).setCell hBb _)
  · rw [heap_setCell_other w2 ⟨b, 0, none⟩ k _ (fun e => hFb (by have e' : k = b := e; rw [← e']; exact hk))]
    exact hg2.block k (hFs k hk) (fun e => hFo k e.symm hk)

theorem lit_data (l : List UInt8) : (⟨l.toArray⟩ : ByteArray).data.toList = l := rfl
set_option maxRecDepth 100000 in
set_option maxHeartbeats 4000000 in
theorem truth_any (B b : Nat) (F : Nat → Prop) (X : List UInt8) (n : Int) (w : World) (h : Wtr B b F X w) (hr : X.length + 5 ≤ 140737488355328) :
    Calls Try.prog 51 #[.pointer (some ⟨b, 0, none⟩), .int .i64 n] w (Wrote B b F (X ++ if n = 1 then wTrue else wFalse) w) := by
  by_cases hn : n = 1
  · subst hn
    rw [if_pos rfl]
    go_enter Try.func51, Try.ntmps51
    go_wp2_with fail
    refine (put_any B b F X ⟨#[116, 114, 117, 101]⟩ _ h (by show X.length + 4 ≤ _; omega)).mono ?_
    rintro e w1 ⟨rfl, h1, hb⟩
    go_wp2_with fail
    go_end0
    exact ⟨rfl, h1, hb⟩
  · have t1 : (n == 1) = false := by rw [beq_eq_false_iff_ne]; exact hn
    rw [if_neg hn]
    go_enter Try.func51, Try.ntmps51
    go_wp2_with fail
    refine (put_any B b F X ⟨#[102, 97, 108, 115, 101]⟩ _ h (by show X.length + 5 ≤ _; omega)).mono ?_
    rintro e w1 ⟨rfl, h1, hb⟩
    go_wp2_with fail
    go_end0
    exact ⟨rfl, h1, hb⟩

set_option maxRecDepth 100000 in
set_option maxHeartbeats 4000000 in
theorem comma_any (B b : Nat) (F : Nat → Prop) (X : List UInt8) (k : Nat) (w : World) (h : Wtr B b F X w) (hB : B ≤ w.heap.size) (hr : X.length + 1 ≤ 140737488355328) :
    Calls Try.prog 63 #[.pointer (some ⟨b, 0, none⟩), .int .i64 k] w (Wrote B b F (X ++ if 0 < k then [44] else []) w) := by
  by_cases hk : 0 < k
  · have t1 : decide ((0 : Int) < (k : Int)) = true := decide_eq_true (by omega)
    have t2 : decide (0 < k) = true := decide_eq_true hk
    rw [if_pos hk]
    go_enter Try.func63, Try.ntmps63
    go_wp2_with fail
    refine (put_any B b F X ⟨#[44]⟩ _ h (by show X.length + 1 ≤ _; omega)).mono ?_
    rintro e w1 ⟨rfl, h1, hb⟩
    go_wp2_with fail
    go_end0
    exact ⟨rfl, h1, hb⟩
  · have t1 : decide ((0 : Int) < (k : Int)) = false := decide_eq_false (by omega)
    have t2 : decide (0 < k) = false := decide_eq_false hk
    rw [if_neg hk, List.append_nil]
    go_enter Try.func63, Try.ntmps63
    go_wp2_with fail
    go_end0
    exact ⟨rfl, h, Kp.refl hB⟩

/-- what a call hands back that writes, or can't -/
def WroteB (B b : Nat) (F : Nat → Prop) (X : List UInt8) (q : Prop) (w : World) (e : Ending) (w' : World) : Prop :=
  Kp B F w w' ∧ ((q ∧ e = .returned (.bool true) ∧ Wtr B b F X w') ∨ (¬ q ∧ e = .returned (.bool false)))

set_option maxRecDepth 100000 in
set_option maxHeartbeats 4000000 in
theorem quote_any (B b : Nat) (F : Nat → Prop) (X : List UInt8) (s : ByteArray) (w : World) (h : Wtr B b F X w) (hB : B ≤ w.heap.size) (hs : s.size ≤ 1099511627776) (hr : X.length + 6 * s.size + 2 ≤ 140737488355328) :
    Calls Try.prog 53 #[.pointer (some ⟨b, 0, none⟩), .string s] w (WroteB B b F (X ++ qt s.data.toList) (okS s.data.toList) w) := by
  have hq := Ch.Quote_fit s w (by omega)
  have hle := ptsL_le s.data.toList
  have hql := qt_len s.data.toList
  rw [len_data] at hql
  by_cases ho : okS s.data.toList
  · have e : Ch.quoteR s.data.toList = (qt s.data.toList, true) := Ch.quoteR_yes (by unfold okS at ho; omega)
    rw [e] at hq
    have HQ := Lib.hid hq; clear hq e
    have HO := Lib.hid ho; clear ho
    generalize qt s.data.toList = Y at *
    go_enter Try.func53, Try.ntmps53
    go_wp2_with fail
    refine HQ.out.mono ?_
    rintro e w1 ⟨rfl, hb1⟩
    go_wp2_with fail
    refine (put_any B b F X (strOf Y) _ (h.keep hb1) (by rw [strOf_size]; omega)).mono ?_
    rintro e w2 ⟨rfl, h2, hb2⟩
    go_wp2_with fail
    go_ret
    exact ⟨(h.kp hb1 hB).trans hb2, .inl ⟨HO.out, rfl, h2⟩⟩
  · have e : Ch.quoteR s.data.toList = ([], false) := Ch.quoteR_no (by unfold okS at ho; omega)
    rw [e] at hq
    have HQ := Lib.hid hq; clear hq e
    have HO := Lib.hid ho; clear ho
    go_enter Try.func53, Try.ntmps53
    go_wp2_with fail
    refine HQ.out.mono ?_
    rintro e w1 ⟨rfl, hb1⟩
    go_wp2_with fail
    refine (put_any B b F X (strOf []) _ (h.keep hb1) (by rw [strOf_size]; simp; omega)).mono ?_
    rintro e w2 ⟨rfl, h2, hb2⟩
    go_wp2_with fail
    go_ret
    exact ⟨(h.kp hb1 hB).trans hb2, .inr ⟨HO.out, rfl⟩⟩
end Go.Proofs.Ytbepnjgbkfidiaa.Em
