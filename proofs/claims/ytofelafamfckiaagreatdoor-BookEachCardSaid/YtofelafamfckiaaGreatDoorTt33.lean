/- Merged: TrU TrV TrW PaRaw CdRw. -/
import Derived.Test.YtofelafamfckiaaGreatDoorTt31
import Derived.Laws.CopyOwn
import Derived.Laws.CopyRow
import Derived.Laws.MakeOwn
import Derived.Test.YtofelafamfckiaaGreatDoorTt9
set_option maxRecDepth 100000
set_option maxHeartbeats 600000
namespace Go.Proofs.YtofelafamfckiaaGreatDoor
namespace Tr
open Go.Proofs Go.RowKit Go.Lib Utf Sc Re
theorem qdn {P:Program} (w:World) (dT sT ty elem:TypeId) (s n g o dLen dCap:Nat) (a:Addr) (sLen sCap:Nat) (cur:Array Value) (t:TypeId) (cs:List Value)
  (hu:P.underlying dT=some (.slice elem)) (hs:(P.info? elem).map (·.size)=some s)
  (hg:w.heap[g]? = some (.cells cur t (0,0))) (hn:n=Nat.min sLen dLen) (hl:cs.length=n*s)
  (hsrc:∀ j v,cs[j]? = some v→w.cell? (a.add j)=some v) (hfit:o+cs.length≤cur.size) (h1:∀ v∈cs,v.oneCell'=true) :
  (Builtin.copy_ #[dT,sT] ty #[.slice (some ⟨g,o,none⟩) dLen dCap,.slice (some a) sLen sCap]).run P w =
   .ok (goInt n) (w.setRow g (cur.toList.take o++cs++cur.toList.drop (o+cs.length)).toArray):=by
 have hld:=run_loadCells_list (P:=P) w a cs hsrc;have hst:=run_storeCells_at P g o t cs 0 cur w hg (by simpa using hfit) h1;cases hq:P.info? elem with
 | none=>simp [hq] at hs
 | some i=>
  have hi:i.size=s:=by simpa [hq] using hs
  simp [Builtin.copy_,run_underlying hu,Builtin.lenOf,Builtin.firstCells,sizeOf,typeInfo,hq,hi,←hn,←hl,hld,hst]
theorem qdm {P:Program} (w:World) (dT sT ty elem:TypeId) (d a:Option Addr) (dLen dCap sLen sCap:Nat) (hu:P.underlying dT=some (.slice elem)) (hs:((P.info? elem).map (·.size)).isSome=true) (hn:Nat.min sLen dLen=0) :
  (Builtin.copy_ #[dT,sT] ty #[.slice d dLen dCap,.slice a sLen sCap]).run P w = .ok (goInt 0) w:=by
 cases hq:P.info? elem with
 | none=>simp [hq] at hs
 | some i=>
  have hl:∀ (x:Addr),(loadCells x 0).run P w = .ok #[] w:=fun x=>by simpa using run_loadCells_list (P:=P) w x [] (by simp)
  cases d <;> cases a <;> simp [Builtin.copy_,run_underlying hu,Builtin.lenOf,Builtin.firstCells,sizeOf,typeInfo,hq,hn,storeCells,hl]
theorem aJ.of_items {w:World} {lo hi g:Nat}:∀ (ms:List V) (ns:List (List UInt8)) (o:Nat),ns.length=ms.length→(∀ k (h1:k<ms.length) (h2:k<ns.length),∃ cs,al w g (o+k*6) (.string (ae ns[k])::cs)∧RdA w lo hi ms[k] cs)→aJ w lo hi g o ns ms
 | [],ns,o,_,_=>by rw [aJ];trivial
 | v::r,ns,o,hn,h=>by
  cases ns with
  | nil=>simp at hn
  | cons nm ns=>
   obtain ⟨cs,h1,h2⟩:=h 0 (by simp) (by simp);rw [aJ];rw [Nat.zero_mul,Nat.add_zero] at h1;refine ⟨nm,ns,rfl,(h1 0 _ rfl).1,⟨cs,fun j u hu=>?_,h2⟩,aJ.of_items r ns (o+6) (by simpa using hn) fun k k1 k2=>?_⟩
   ·have:=(h1 (j+1) u (by simpa using hu)).1;rwa [show o+(j+1)=o+1+j by omega] at this
   ·have:=h (k+1) (by simpa using k1) (by simpa using k2);rw [show o+6+k*6=o+(k+1)*6 by omega];exact this
def qja (ns:List (List UInt8)) (ms:List V) (w:World) (e:Ending) (w':World):Prop:=
 (∃ A c,e = .returned (.agg #[.int .i64 6,.int .i64 0,.string ⟨#[]⟩,.slice none 0 0,.slice A ms.length c])∧ns.length=ms.length∧(0<ms.length→∃ g,A=some ⟨g,0,none⟩∧w.heap.size≤g∧g<w'.heap.size∧
  ∀ k (h1:k<ms.length) (h2:k<ns.length),∃ cs,al w' g (k*6) (.string (ae ns[k])::cs)∧RdA w' 0 w.heap.size ms[k] cs))∧Below w.heap.size w w'
theorem qja.rd {ns:List (List UInt8)} {ms:List V} {w w':World} {A:Option Addr} {c:Nat} (hc:ms.length≤c) (hn:ns.length=ms.length) (hb:w.heap.size≤w'.heap.size) (h:0<ms.length→∃ g,A=some ⟨g,0,none⟩∧w.heap.size≤g∧g<w'.heap.size∧
  ∀ k (h1:k<ms.length) (h2:k<ns.length),∃ cs,al w' g (k*6) (.string (ae ns[k])::cs)∧RdA w' 0 w.heap.size ms[k] cs):RdA w' 0 w'.heap.size (mpV (ns,ms)) [.int .i64 6,.int .i64 0,.string ⟨#[]⟩,.slice none 0 0,.slice A ms.length c]:=by
 unfold mpV;rw [RdA];refine ⟨none,0,A,c-ms.length,by rw [Nat.add_sub_of_le hc];rfl,hn,fun h=>by simp at h,fun h0=>?_⟩;obtain ⟨g,e,g1,g2,hk⟩:=h h0;refine ⟨g,0,e,Nat.zero_le _,g2,aJ.of_items ms ns 0 hn fun k k1 k2=>?_⟩;obtain ⟨cs,p1,p2⟩:=hk k k1 k2;rw [Nat.zero_add];exact ⟨cs,p1,RdA.keep (fun _ _ _=>rfl) (Nat.le_refl _) hb _ _ p2⟩
def qbB (v:V) (nm:List UInt8):List (List UInt8):=if nm∈inN v then inN v else inN v++[nm]
def qbA (v:V) (nm:List UInt8) (x:V):List V:=if nm∈inN v then (inM v).set ((inN v).idxOf nm) x else inM v++[x]
def woN (v:V) (nm:List UInt8):List (List UInt8):=(((inN v).zip (inM v)).filter fun p=>p.1≠nm).map Prod.fst
def woM (v:V) (nm:List UInt8):List V:=(((inN v).zip (inM v)).filter fun p=>p.1≠nm).map Prod.snd
theorem qfo {w:World} {g T n base:Nat} {cur:Array Value} {cs:List Value} (hg:w.heap[g]? = some (.cells cur T (0,0))) (hb:base≤g) (hn:n+1≤maxLen) (hcur:cur.size=(n+1)*6) (hl:cs.length=n*6) :
  (w.setRow g (cs++cur.toList.drop cs.length).toArray).ownsRow base T 6 (.slice (some ⟨g,0,none⟩) n (n+1)) n cs:=by
 refine ⟨hl,.inr ⟨g,n+1,_,rfl,hb,setRow_heap w g cur _ T (0,0) hg,by omega,hn,?_,?_⟩⟩
 ·simp;omega
 ·rw [List.toList_toArray,←hl,List.take_left'];rfl
theorem qd8 {P:Program} (w:World) (dT sT ty elem:TypeId) (n g cap sz:Nat) (hu:P.underlying dT=some (.slice elem)) (hsz:(P.info? elem).map (·.size)=some sz) (A:Option Addr) (sCap:Nat) (cur:Array Value) (t:TypeId) (hg:w.heap[g]? = some (.cells cur t (0,0))) (cs:List Value) (hl:cs.length=n*sz)
  (hA:0<n→∃ ad,A=some ad∧∀ j v,cs[j]? = some v→w.cell? (ad.add j)=some v) (hfit:cs.length≤cur.size) (h1:∀ v∈cs,v.oneCell'=true) :
  (Builtin.copy_ #[dT,sT] ty #[.slice (some ⟨g,0,none⟩) n cap,.slice A n sCap]).run P w = .ok (goInt n) (w.setRow g (cs++cur.toList.drop cs.length).toArray):=by
 by_cases h0:0<n
 ·obtain ⟨ad,rfl,hsrc⟩:=hA h0;have:=qdn (P:=P) w dT sT ty elem sz n g 0 n cap ad n sCap cur t cs hu hsz hg (by simp) hl hsrc (by omega) h1
  simpa using this
 ·have hn:n=0:=by omega
  subst hn;have hcs:cs=[]:=List.eq_nil_of_length_eq_zero (by omega);subst hcs;rw [qdm w dT sT ty elem _ A 0 cap 0 sCap hu (by rw [hsz];rfl) (by simp)];simp only [List.length_nil,List.drop_zero,List.nil_append,Array.toArray_toList];rw [setRow_self w g cur t (0,0) hg];rfl
theorem qmK (w:World) (a b c:Obj):(((w.alloc a).alloc b).alloc c).heap.size=w.heap.size+3:=by simp
def qdg (pd:List (M6×V)) (nm:List UInt8) (k:Nat):List (M6×V):=(pd.take k).filter fun p=>p.1.nm≠nm
end Tr
namespace Pa
open Go.Proofs Go.RowKit Go.Lib Utf Sc Re Tr
def qeX (w:World) (hi:Nat) (A:Option Addr) (d:List M6):Prop:=
 0<d.length→∃ g o,A=some ⟨g,o,none⟩∧g<hi∧∀ i (h:i<d.length),qbH w g (o+i*6) d[i]
theorem qeX.keep {w w':World} {hi:Nat} {A:Option Addr} {d:List M6} (h:qeX w hi A d) (hk:∀ p:Addr,p.block<hi→w'.cell? p=w.cell? p):qeX w' hi A d:=fun h0=>by
 obtain ⟨g,o,e,g1,hr⟩:=h h0;exact ⟨g,o,e,g1,fun i hi=>(hr i hi).keep fun j=>hk ⟨g,j,none⟩ g1⟩
theorem qie {w:World} {g o:Nat} {x:M6} (h:qbH w g o x):∀ j u,(bS x)[j]? = some u→w.cell? ⟨g,o+j,none⟩=some u:=by
 obtain ⟨h0,h1,h2,h3,h4,h5⟩:=h;intro j u hu
 match j with
 | 0=>simp [bS] at hu;subst hu;exact h0
 | 1=>simp [bS] at hu;subst hu;exact h1
 | 2=>simp [bS] at hu;subst hu;exact h2
 | 3=>simp [bS] at hu;subst hu;exact h3
 | 4=>simp [bS] at hu;subst hu;exact h4
 | 5=>simp [bS] at hu;subst hu;exact h5
 | j+6=>simp [bS] at hu
theorem qfl {w:World} {g o:Nat} {x:M6} (h:al w g o (bS x)):qbH w g o x:=
 ⟨(h 0 _ rfl).1,(h 1 _ rfl).1,(h 2 _ rfl).1,(h 3 _ rfl).1,(h 4 _ rfl).1,(h 5 _ rfl).1⟩
theorem qi4 (d:List M6):∀ r∈d.map bS,r.length=6:=by
 intro r hr;obtain ⟨x,_,rfl⟩:=List.mem_map.1 hr;rfl
theorem qmo (d:List M6):∀ u∈(d.map bS).flatten,u.oneCell'=true:=qbw (s:=6) (by
 intro r hr;obtain ⟨x,_,rfl⟩:=List.mem_map.1 hr;exact qjq x)
theorem qeX.src {w:World} {hi:Nat} {A:Option Addr} {d:List M6} (h:qeX w hi A d):0<d.length→∃ ad,A=some ad∧ad.block<hi∧∀ j u,(d.map bS).flatten[j]? = some u→w.cell? (ad.add j)=some u:=fun h0=>by
 obtain ⟨g,o,e,g1,hr⟩:=h h0;refine ⟨⟨g,o,none⟩,e,g1,fun j u hu=>?_⟩;rw [Addr.add_lit];refine qa2 (s:=6) (by decide) (w:=w) (g:=g) (o:=o) ⟨qi4 d,fun k hk t u hu=>?_⟩ j u hu;rw [List.length_map] at hk;rw [List.getElem_map] at hu;exact qie (hr k hk) t u hu
def qfT (d:List M6) (w:World) (e:Ending) (w':World):Prop:=
 (∃ A c,e = .returned (.agg #[.int .i64 6,.int .i64 0,.string ⟨#[]⟩,.slice none 0 0,.slice A d.length c])∧d.length≤c∧(0<d.length→∃ g,A=some ⟨g,0,none⟩∧w.heap.size≤g∧g<w'.heap.size∧
  ∀ k (h1:k<d.length),al w' g (k*6) (bS d[k])))∧Below w.heap.size w w'
theorem qfm (n:Int) (S:ByteArray) (A A2:Option Addr) (l c l2 c2:Nat) (w:World) :
  Calls Tryz.prog 34 #[.agg #[.int .i64 6,.int .i64 n,.string S,.slice A l c,.slice A2 l2 c2]] w fun e w'=>e = .returned (.tuple #[.slice none 0 0,.slice A2 l2 c2])∧Below w.heap.size w w':=by
 refine (qbJ 6 n S A A2 l c l2 c2 w).mono ?_;rintro e w1 ⟨⟨A',l',c',A2',l2',c2',rfl, -,h5,h6, -⟩,hb1⟩;obtain ⟨rfl,rfl,rfl⟩:=h5 (by decide);obtain ⟨rfl,rfl,rfl⟩:=h6 rfl;exact ⟨rfl,hb1⟩
def qeC (d:List M6) (x:M6):List M6:=if x.nm∈d.map M6.nm then d.set ((d.map M6.nm).idxOf x.nm) x else d++[x]
theorem qjz (d:List M6) (nn:Int) (S:ByteArray) (A0:Option Addr) (l c0:Nat) (A20:Option Addr) (c20:Nat) (x:M6) (w:World) (hd:qeX w w.heap.size A20 d) (hz:d.length<1466015503701) :
  Calls Tryz.prog 17 #[.agg #[.int .i64 6,.int .i64 nn,.string S,.slice A0 l c0,.slice A20 d.length c20],.string (ae x.nm),.agg #[.int .i64 x.k,.int .i64 x.n,.string x.s,.slice x.A x.l x.c,.slice x.A2 x.m x.c2]] w (qfT (qeC d x) w):=by
 obtain ⟨i0,hi,hz0,hz1,hz2⟩:=info_parts qbo;have hWD:qeC d x=if x.nm∈d.map M6.nm then d.set ((d.map M6.nm).idxOf x.nm) x else d++[x]:=rfl
 generalize qeC d x=WD at hWD ⊢;have HWD:=zh hWD;clear hWD;obtain ⟨nm,xk,xn,XS,X0,xl,d0,X20,xm,d20⟩:=x;simp only at HWD ⊢;have HD0:=zh hd;clear hd;obtain ⟨len,hln⟩:∃ len,d.length=len:=⟨_,rfl⟩
 have HLN:=zh hln;rw [hln] at hz ⊢;clear hln;have HI:=zh (fun (W:World)=>qfm nn S A0 A20 l c0 len c20 W);obtain ⟨W0,hW0⟩:∃ W0,W0=(((w.alloc (.cells #[.int .i64 6,.int .i64 nn,.string S,.slice A0 l c0,.slice A20 len c20] 25)).alloc (.cells #[.int .i64 xk,.int .i64 xn,.string XS,.slice X0 xl d0,.slice X20 xm d20] 25)).alloc (.cells #[.int .i64 0,.int .i64 0,.string ⟨#[]⟩,.slice none 0 0,.slice none 0 0] 25)):=⟨_,rfl⟩
 have HW0:=zh hW0;have HB0:Aside (Below w.heap.size w W0):=by rw [hW0];exact (((Below.refl _ _).alloc (Nat.le_refl _) _).alloc (by simp) _).alloc (by simp;omega) _
 have HS0:Aside (W0.heap.size=w.heap.size+3):=by rw [hW0];exact qmK _ _ _ _
 have HR0:Aside (W0.heap[w.heap.size+2]? = some (.cells #[.int .i64 0,.int .i64 0,.string ⟨#[]⟩,.slice none 0 0,.slice none 0 0] 25 (0,0))):=by
  rw [hW0,show w.heap.size+2=((w.alloc (.cells #[.int .i64 6,.int .i64 nn,.string S,.slice A0 l c0,.slice A20 len c20] 25)).alloc (.cells #[.int .i64 xk,.int .i64 xn,.string XS,.slice X0 xl d0,.slice X20 xm d20] 25)).heap.size by simp];exact aj _ _
 have HX0:Aside (W0.heap[w.heap.size+1]? = some (.cells #[.int .i64 xk,.int .i64 xn,.string XS,.slice X0 xl d0,.slice X20 xm d20] 25 (0,0))):=by
  rw [hW0];refine bq ?_ _;rw [show w.heap.size+1=(w.alloc (.cells #[.int .i64 6,.int .i64 nn,.string S,.slice A0 l c0,.slice A20 len c20] 25)).heap.size by simp];exact aj _ _
 clear hW0;go_enter Tryz.func17,Tryz.ntmps17;go_wp2_with fail;rw [←HW0.out];refine (HI.out _).mono ?_;rintro e w1 ⟨rfl,hb1⟩;have HB1:Aside (Below w.heap.size w w1):=HB0.out.trans (hb1.mono HB0.out.size);have HR1:Aside _:=(hb1.block (w.heap.size+2) (by rw [HS0.out];omega)).trans HR0.out;have HX1:Aside _:=(hb1.block (w.heap.size+1) (by rw [HS0.out];omega)).trans HX0.out;have HS1:Aside (w.heap.size+3≤w1.heap.size):=by have:=hb1.size;rw [HS0.out] at this;exact this
 obtain ⟨rows,hrows⟩:∃ rows,d.map bS=rows:=⟨_,rfl⟩
 have HROWS:=zh hrows;have HSIX:=zh (qi4 d);have HONE:=zh (qmo d);have HSRC:=zh ((HD0.out.keep (w':=w1) (fun p hp=>HB1.out.cell (p:=p) hp)).src);rw [hrows] at HSIX HONE HSRC;have HRL:=zh (show rows.length=len by rw [←hrows,List.length_map];exact HLN.out);clear hb1 HI HB0 HR0 HX0 hrows;have k0:(0:Int)≤(len:Int):=by omega
 have k1:(len:Int)+1<1466015503702:=by omega
 obtain ⟨M,hMM⟩:∃ M,madeCells (Value.agg #[.string ByteArray.empty,.int .i64 0,.int .i64 0,.string ByteArray.empty,.slice none 0 0,.slice none 0 0]).cells ((len+1)*6)=M:=⟨_,rfl⟩
 have hmk:∀ W:World,(Instr.makeSlice 23 (.int .i64 (len:Int)) (.int .i64 ((len:Int)+1))).run Tryz.prog W = .ok (.slice (some ⟨W.heap.size,0,none⟩) len (len+1)) (W.alloc (.cells M 37)):=fun W=>by
  have:=run_make W 23 37 i0 _ Tryz.underlying23 hi hz0 .i64 .i64 (len:Int) ((len:Int)+1) k0 (by omega) (by rw [hz2];omega) (by omega);rw [hz1] at this;rw [←hMM]
  simpa using this
 have HMS:Aside (M.size=(len+1)*6):=by rw [←hMM];exact size_madeCells _ _
 have hfl:rows.flatten.length=len*6:=by rw [cT 6 rows HSIX.out,HRL.out]
 have hs6:(Tryz.prog.info? 37).map (·.size)=some 6:=by rw [hi];exact congrArg some hz1
 have HG2:Aside ((w1.alloc (.cells M 37)).heap[w1.heap.size]? = some (.cells M 37 (0,0))):=aj _ _;obtain ⟨W3,hW3⟩:∃ W3,(w1.alloc (.cells M 37)).setRow w1.heap.size (rows.flatten++M.toList.drop rows.flatten.length).toArray=W3:=⟨_,rfl⟩
 have HW3:=zh hW3;have HFL:=zh hfl;have HOWN:Aside (W3.ownsRow w1.heap.size 37 6 (.slice (some ⟨w1.heap.size,0,none⟩) len (len+1)) len rows.flatten):=by rw [←hW3];exact qfo HG2.out (Nat.le_refl _) (by unfold maxLen;omega) HMS.out hfl
 have HB3:Aside (Below w.heap.size w W3):=by rw [←hW3];exact below_setRow (HB1.out.alloc (by have:=HS1.out;omega) _) (by have:=HS1.out;omega) _
 have HS3:Aside (w1.heap.size<W3.heap.size):=(show w1.heap.size<W3.heap.size from by rw [←hW3];simp)
 have HK3:Aside (∀ k,k<w1.heap.size→W3.heap[k]? = w1.heap[k]?):=(show ∀ _,_ from fun k hk=>by rw [←hW3,setRow_other _ _ _ _ (by omega)];exact Below.heap_alloc w1 _ k hk)
 have hcp:(Builtin.copy_ #[23,23] 3 #[.slice (some ⟨w1.heap.size,0,none⟩) len (len+1),.slice A20 len c20]).run Tryz.prog (w1.alloc (.cells M 37)) = .ok (goInt len) W3:=by
  rw [←hW3];refine qd8 _ _ _ _ 37 len w1.heap.size (len+1) 6 Tryz.underlying23 hs6 A20 c20 M _ HG2.out rows.flatten hfl (fun hpos=>?_) (by rw [hfl,HMS.out];omega) HONE.out;obtain ⟨ad,e,hb,hsrc⟩:=HSRC.out (by rw [HLN.out];exact hpos);exact ⟨ad,e,fun j u hu=>Lib.cell?_alloc_some _ (hsrc j u hu)⟩
 have HR3:Aside _:=(HK3.out (w.heap.size+2) (by have:=HS1.out;omega)).trans HR1.out;have HX3:Aside _:=(HK3.out (w.heap.size+1) (by have:=HS1.out;omega)).trans HX1.out;have HPL:=zh (qdN (some ⟨w1.heap.size,0,none⟩) len (len+1) d HLN.out (by omega) nm W3 (fun h=>by
  rw [HLN.out] at h;obtain ⟨g,e,_,g2,hc⟩:=qbi HOWN.out h;refine ⟨g,0,e,g2,fun i hi=>?_⟩;have:=hc.sub HSIX.out i (by rw [HRL.out,←HLN.out];exact hi);have er:rows[i]'(by rw [HRL.out,←HLN.out];exact hi)=bS d[i]:=by simp only [←HROWS.out,List.getElem_map]
  rw [er] at this;exact qfl this))
 clear hMM hW3 hfl HR1 HX1;go_wp2_with fail;refine HPL.out.mono ?_;rintro e w4 ⟨rfl,hb4⟩;have HR4:Aside _:=(hb4.block (w.heap.size+2) (by have:=HS1.out;have:=HS3.out;omega)).trans HR3.out;have HX4:Aside _:=(hb4.block (w.heap.size+1) (by have:=HS1.out;have:=HS3.out;omega)).trans HX3.out;have HOWN4:Aside (w4.ownsRow w1.heap.size 37 6 (.slice (some ⟨w1.heap.size,0,none⟩) len (len+1)) len rows.flatten):=by
  obtain ⟨q1,q⟩:=HOWN.out;refine ⟨q1,?_⟩;rcases q with q | ⟨g,cap,cur,e,q3,q4,q5⟩
  ·exact .inl q
  ·exact .inr ⟨g,cap,cur,e,q3,(hb4.block g (Array.getElem?_eq_some_iff.1 q4).1).trans q4,q5⟩
 have HB4:Aside (Below w.heap.size w w4):=HB3.out.trans (hb4.mono HB3.out.size);have HS4:=zh (show w1.heap.size<w4.heap.size from Nat.lt_of_lt_of_le HS3.out hb4.size);obtain ⟨⟨x0,x1,x2,x3,x4⟩, -⟩:=af HX4.out;clear hb4 HR3 HX3 HPL hcp hmk HSRC HK3 HOWN;have I0:=zh hi;have I1:=zh hz0;have I2:=zh hz1;have I3:=zh hz2;clear hi hz0 hz1 hz2 hs6;by_cases hin:nm∈d.map M6.nm
 ·have hlt:=List.idxOf_lt_length_of_mem hin;obtain ⟨i,hi⟩:∃ i,(d.map M6.nm).idxOf nm=i:=⟨_,rfl⟩
  have hp:plc (d.map M6.nm) nm=(i:Int):=by unfold plc;rw [if_pos hin,hi]
  rw [hp];have hil:i<len:=by rw [hi,List.length_map,HLN.out] at hlt;exact hlt
  have hid:i<d.length:=by rw [HLN.out];exact hil
  have HWD2:=zh (HWD.out.trans ((if_pos hin).trans (by rw [hi])));have HNMI:=zh (show d[i].nm=nm by
   have h1:(d.map M6.nm)[i]'(by rw [List.length_map];exact hid)=nm:=by
    have:=List.getElem_idxOf hlt;simp only [hi] at this;exact this
   rwa [List.getElem_map] at h1)
  have t1:decide ((i:Int)<0)=false:=zF (by omega);have t1b:decide (0≤(i:Int))=true:=zT (by omega);have k2:((i:Int)).toNat=i:=by omega
  have k3:(0:Int)≤(i:Int):=by omega
  have k4:(i:Int)<(len:Int):=by omega
  obtain ⟨g4,e4, -, -,hc4⟩:=qbi HOWN4.out (by omega);injection e4 with e4
  injection e4 with e4
  subst e4;have hall:=zh (show ∀ k (h:k<d.length),al w4 w1.heap.size (k*6) (bS d[k]) from fun k hk=>by
   have:=hc4.sub HSIX.out k (by rw [HRL.out,←HLN.out];exact hk);have er:rows[k]'(by rw [HRL.out,←HLN.out];exact hk)=bS d[k]:=by simp only [←HROWS.out,List.getElem_map]
   rw [er,Nat.zero_add] at this;exact this)
  have hrow3:=(bP.1 (hall.out i hid)).2;have HROW:=zh hrow3;clear hp hin hi hlt hc4;obtain ⟨a0,f0⟩:=hrow3 0 _ rfl;obtain ⟨a1,f1⟩:=hrow3 1 _ rfl;obtain ⟨a2,f2⟩:=hrow3 2 _ rfl;obtain ⟨a3,f3⟩:=hrow3 3 _ rfl;obtain ⟨a4,f4⟩:=hrow3 4 _ rfl;simp only [Nat.add_zero] at a0 f0;have HHZ:=zh hz;have HWB:=zh (show w.heap.size+1+1≠w1.heap.size by have:=HS1.out;omega);have HIL:=zh hil;have HID:=zh hid;obtain ⟨W5,hW5⟩:∃ W5,W5=qau w4 w1.heap.size (i*6+1) (.int .i64 xk) (.int .i64 xn) (.string XS) (.slice X0 xl d0) (.slice X20 xm d20):=⟨_,rfl⟩
  have hW5':((((w4.setCell ⟨w1.heap.size,i*6+1,none⟩ (.int .i64 xk)).setCell ⟨w1.heap.size,i*6+1+1,none⟩ (.int .i64 xn)).setCell ⟨w1.heap.size,i*6+1+2,none⟩ (.string XS)).setCell ⟨w1.heap.size,i*6+1+3,none⟩ (.slice X0 xl d0)).setCell ⟨w1.heap.size,i*6+1+4,none⟩ (.slice X20 xm d20)=W5:=hW5.symm;have hr5:=(bf (v0:= .int .i64 xk) (v1:= .int .i64 xn) (v2:= .string XS) (v3:= .slice X0 xl d0) (v4:= .slice X20 xm d20) (o:=i*6+1) (show w.heap.size+2≠w1.heap.size from HWB.out)).trans HR4.out;rw [←hW5] at hr5;have HR5:=zh hr5;clear hr5;obtain ⟨⟨z0,z1,z2,z3,z4⟩,⟨y0,y1,y2,y3,y4⟩⟩:=af HR5.out;have HW5:=zh hW5;clear hrow3 k1 k0 hz hW5 hil;go_wp2;refine bodyPost_ret (qfk rfl rfl (bF HR5.out (.int .i64 6) (.int .i64 0) (.string ⟨#[]⟩) (.slice none 0 0) (.slice (some ⟨w1.heap.size,0,none⟩) len (len+1)))) rfl ?_;have hml:WD.length=len:=by rw [HWD2.out];simpa using HLN.out
  have hb5:Below w.heap.size w W5:=HB4.out.trans (by rw [HW5.out];exact qaJ qcC (by have:=HS1.out;omega) HB4.out.size);refine ⟨⟨some ⟨w1.heap.size,0,none⟩,len+1,by rw [hml],by omega,fun _=>⟨w1.heap.size,rfl,by have:=HS1.out;omega,?_,fun kk h1=>?_⟩⟩,aZ hb5 (by omega) _ _ _ _ _⟩
  ·exact Nat.lt_of_lt_of_eq (show w1.heap.size<W5.heap.size by rw [HW5.out,qb1];exact HS4.out) (qaL (w:=W5) (b:=w.heap.size+2) _ _ _ _ _).symm
  ·refine al.keep (w:=W5) ?_ (qaR (by have:=HS1.out;omega) _ _ _ _ _);have hkd:kk<d.length:=by rw [HLN.out,←hml];exact h1
   simp only [HWD2.out];by_cases hik:i=kk
   ·subst hik;rw [List.getElem_set_self,HW5.out];have h2:=bP.1 (hall.out i hkd);rw [HNMI.out] at h2;exact bP.2 ⟨qaI (by simp) h2.1,qgN rfl h2.2⟩
   ·rw [List.getElem_set_ne hik,HW5.out];exact qaI (by rw [qh9];omega) (hall.out kk hkd)
 ·have hp:plc (d.map M6.nm) nm = -1:=by unfold plc;rw [if_neg hin]
  rw [hp];have HWD2:=zh (HWD.out.trans (if_neg hin));have HHZ:=zh hz;clear hin hp k0 k1 hz;have NEW:∀ j u,[Value.string (ae nm),.int .i64 xk,.int .i64 xn,.string XS,.slice X0 xl d0,.slice X20 xm d20][j]? = some u→(w4.alloc (.cells #[.string (ae nm),.int .i64 xk,.int .i64 xn,.string XS,.slice X0 xl d0,.slice X20 xm d20] 37)).cell? ((⟨w4.heap.size,0,none⟩:Addr).add j)=some u:=fun j u hu=>by
   rw [Addr.add_lit,Nat.zero_add];unfold World.cell?;rw [aj];simpa using hu
  have HNEW:=zh NEW;clear NEW;go_wp2_with (at_builtin;refine wpList_append_own _ rfl _ _ 23 rfl w1.heap.size 37 i0 _ 6 96 Tryz.underlying23 I0.out I1.out I2.out I3.out rfl (by decide) _ len rows.flatten rfl (HOWN4.out.alloc _) ⟨w4.heap.size,0,none⟩ 1 1 [Value.string (ae nm),.int .i64 xk,.int .i64 xn,.string XS,.slice X0 xl d0,.slice X20 xm d20] rfl rfl HNEW.out ?qc3 ?qc4 ?qc5 ?qc6 ?qc)
  case qc3=>simp [Value.oneCell']
  case qc4=>have:=HHZ.out;unfold maxLen;omega
  case qc5=>have:=HHZ.out;omega
  case qc6=>have:=HS4.out;simp;omega
  intro v' w5 hown hgrow hnil;obtain ⟨A',c',rfl⟩:=bD hown;have HO5:=zh hown;have HG5:=zh (show Below w.heap.size w w5 from (HB4.out.alloc HB4.out.size _).trans (qaJ (pb:=w1.heap.size) hgrow (by have:=HS1.out;omega) (by have:=HB4.out.size;simp;omega)));have hr5:=(hgrow.block (w.heap.size+2) (by have:=HS1.out;have:=HS4.out;rw [aD];omega) (by have:=HS1.out;simp [Value.ownBlock];omega)).trans (bq HR4.out _);have HR5:=zh hr5;obtain ⟨⟨z0,z1,z2,z3,z4⟩,⟨y0,y1,y2,y3,y4⟩⟩:=af HR5.out;clear hown hgrow hnil hr5;go_wp2;refine bodyPost_ret (qfk rfl rfl (bF HR5.out (.int .i64 6) (.int .i64 0) (.string ⟨#[]⟩) (.slice none 0 0) (.slice A' (len+1) c'))) rfl ?_;have hml:WD.length=len+1:=by rw [HWD2.out];simpa using HLN.out
  have hown:=HO5.out;have hrw:rows.flatten++[Value.string (ae nm),.int .i64 xk,.int .i64 xn,.string XS,.slice X0 xl d0,.slice X20 xm d20]=(WD.map bS).flatten:=by
   rw [HWD2.out,List.map_append,HROWS.out];simp [bS]
  rw [hrw] at hown;refine ⟨⟨A',c',by rw [hml],by rw [hml];exact qdS hown,fun h0=>?_⟩,aZ HG5.out (by omega) _ _ _ _ _⟩;obtain ⟨g,e,g1,g2,hc⟩:=qbi hown (by omega);refine ⟨g,e,by have:=HS1.out;omega,Nat.lt_of_lt_of_eq g2 (qaL (w:=w5) (b:=w.heap.size+2) _ _ _ _ _).symm,fun kk h1=>?_⟩;refine al.keep (w:=w5) ?_ (qaR (by have:=HS1.out;omega) _ _ _ _ _);have:=hc.sub (qi4 WD) kk (by rw [List.length_map];exact h1);rw [List.getElem_map,Nat.zero_add] at this;exact this
end Pa
namespace Cd
open Go.Proofs Go.RowKit Go.Lib Utf Sc Re Tr Po Pa
def tN (T:List (M6×V)):List (List UInt8):=T.map fun t=>t.1.nm
def tM (T:List (M6×V)):List V:=T.map Prod.snd
def mpT (T:List (M6×V)):V:=mpV (tN T,tM T)
theorem qct (T:List (M6×V)):mem (mpT T)=T.map fun t=>(t.1.nm,t.2):=by
 show (tN T).zip (tM T)=_;unfold tN tM;induction T with
 | nil=>rfl
 | cons a r ih=>simp only [List.map_cons,List.zip_cons_cons,ih]
theorem qe2 {w w':World} {e:Ending} {T:List (M6×V)} (h:qfT (T.map Prod.fst) w e w') (hr:∀ t∈T,RdA w 0 w.heap.size t.2 (qal t.1)) :
  (∃ A c,e = .returned (.agg #[.int .i64 6,.int .i64 0,.string ⟨#[]⟩,.slice none 0 0,.slice A T.length c])∧RdA w' 0 w'.heap.size (mpT T) [.int .i64 6,.int .i64 0,.string ⟨#[]⟩,.slice none 0 0,.slice A T.length c])∧Below w.heap.size w w':=by
 obtain ⟨⟨A,c,rfl,hc,hx⟩,hb⟩:=h;have hdl:(T.map Prod.fst).length=T.length:=List.length_map ..;rw [hdl] at hc ⊢;have hl:(tM T).length=T.length:=by unfold tM;rw [List.length_map]
 refine ⟨⟨A,c,rfl,?_⟩,hb⟩;have key:=qja.rd (ns:=tN T) (ms:=tM T) (w:=w) (w':=w') (A:=A) (c:=c) (by rw [hl];exact hc) (by unfold tN tM;rw [List.length_map,List.length_map]) hb.size fun h0=>by
  rw [hl] at h0;obtain ⟨g,e,g1,g2,hk⟩:=hx (by rw [hdl];exact h0);refine ⟨g,e,g1,g2,fun k h1 h2=>?_⟩;have hkT:k<T.length:=by rw [←hl];exact h1
  have hkd:k<(T.map Prod.fst).length:=by rw [List.length_map];exact hkT
  refine ⟨qal T[k].1,?_,?_⟩
  ·have:=hk k hkd;rw [List.getElem_map] at this;simp only [tN,List.getElem_map];exact this
  ·simp only [tM,List.getElem_map];exact RdA.keep (fun p _ hp=>hb.cell (p:=p) hp) (Nat.le_refl _) (Nat.le_refl _) _ _ (hr _ (List.getElem_mem hkT))
 rw [hl] at key;exact key
theorem cq {w:World} {v:V} {cs:List Value} (hv:RdA w 0 w.heap.size v cs):∃ (A:Option Addr) (c:Nat) (A2:Option Addr) (c2:Nat) (T:List (M6×V)),cs=[.int .i64 v.k,.int .i64 v.n,.string (ae v.s),.slice A v.l.length c,.slice A2 T.length c2]∧
  T.length=v.ms.length∧tM T=v.ms∧tN T=v.ns∧qeX w w.heap.size A2 (T.map Prod.fst)∧(∀ t∈T,RdA w 0 w.heap.size t.2 (qal t.1))∧v.ns.length=v.ms.length:=by
 obtain ⟨A,c,A2,c2,e,hn, -,hm⟩:=hv.cells;obtain ⟨d,hd1,hd2,hd3,hd4⟩:=qgx hn hm;refine ⟨A,c,A2,c2,d.zip v.ms,?_,?_,?_,?_,?_,?_,hn⟩
 ·rw [e,List.length_zip,hd1,Nat.min_self]
 ·rw [List.length_zip,hd1,Nat.min_self]
 ·unfold tM;exact List.map_snd_zip (by omega)
 ·unfold tN;rw [←hd2,show (fun t:M6×V=>t.1.nm)=M6.nm ∘ Prod.fst from rfl,←List.map_map,List.map_fst_zip (by omega)]
 ·rw [List.map_fst_zip (by omega)];intro h0;obtain ⟨g,o,e,_,g2,hr⟩:=hd3 h0;exact ⟨g,o,e,g2,hr⟩
 ·intro t ht;obtain ⟨i,hi,rfl⟩:=List.getElem_of_mem ht;rw [List.length_zip] at hi;rw [List.getElem_zip];exact hd4 i (by omega) (by omega)
theorem qh6 {B:Nat} {T:List (M6×V)} (h1:∀ t∈T,szA B t.2∧t.1.nm.length≤B) (h2:T.length*96≤B):szA B (mpT T):=by
 rw [bE];refine ⟨show (Lit.int .i64 6).wf=true by decide,show (Lit.int .i64 0).wf=true by decide,Nat.zero_le _,Nat.zero_le _,?_,?_,trivial,?_⟩
 ·show (tM T).length*96≤B;unfold tM;rw [List.length_map];exact h2
 ·intro nm hn;obtain ⟨t,ht,rfl⟩:=List.mem_map.1 (show nm∈T.map _ from hn);exact (h1 t ht).2
 ·have:∀ l:List V,(∀ x∈l,szA B x)→bm B l:=fun l=>by
   induction l with
   | nil=>intro _;rw [bm];trivial
   | cons a r ih=>intro h;rw [bm];exact ⟨h a List.mem_cons_self,ih fun x hx=>h x (List.mem_cons_of_mem _ hx)⟩
  refine this _ fun x hx=>?_;obtain ⟨t,ht,rfl⟩:=List.mem_map.1 (show x∈T.map Prod.snd from hx);exact (h1 t ht).1
theorem qf6 {B:Nat} {v:V} {T:List (M6×V)} (hz:szA B v) (h1:tM T=v.ms) (h2:tN T=v.ns):∀ t∈T,szA B t.2∧t.1.nm.length≤B:=fun t ht=>by
 have:=(bE B v).1 hz;refine ⟨bi this.2.2.2.2.2.2.2 ?_,this.2.2.2.2.2.1 _ ?_⟩
 ·rw [←h1];exact List.mem_map.2 ⟨t,ht,rfl⟩
 ·rw [←h2];exact List.mem_map.2 ⟨t,ht,rfl⟩
theorem qbM {v:V} {T:List (M6×V)} (h1:tM T=v.ms) (h2:tN T=v.ns):mem v=T.map fun t=>(t.1.nm,t.2):=by
 rw [←qct];show v.ns.zip v.ms=(tN T).zip (tM T);rw [h1,h2]
