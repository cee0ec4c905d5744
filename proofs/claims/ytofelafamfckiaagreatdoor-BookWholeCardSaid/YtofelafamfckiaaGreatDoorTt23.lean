/- Merged: RfA RfB RfC. -/
import Derived.Test.YtofelafamfckiaaGreatDoorTt20
import Derived.Recover
import Derived.Maps.OwnSet
set_option maxRecDepth 100000
set_option maxHeartbeats 4000000
namespace Go.Proofs.YtofelafamfckiaaGreatDoor
namespace Re
open Go.RowKit Utf Sc
def Rdr (w:World) (rb:Nat) (vL:Value) (i p:Nat):Prop:=
 w.heap[rb]? = some (.cells #[vL,.int .i64 i,.int .i64 p] 72 (0,0))
theorem Rdr.cells {w:World} {rb:Nat} {vL:Value} {i p:Nat} (h:Rdr w rb vL i p) :
  rb<w.heap.size∧w.cell? ⟨rb,0,none⟩=some vL∧w.cell? ⟨rb,1,none⟩=some (.int .i64 i)∧w.cell? ⟨rb,2,none⟩=some (.int .i64 p)∧(∀ j,w.frozen? ⟨rb,j,none⟩=false):=
 ⟨(Array.getElem?_eq_some_iff.1 h).1,(cell_of_row _ _ 0 _ _ _ h).trans rfl,(cell_of_row _ _ 1 _ _ _ h).trans rfl,(cell_of_row _ _ 2 _ _ _ h).trans rfl,fun j=>frozen_of_row _ _ j _ _ h⟩
theorem Rdr.below {w w':World} {rb:Nat} {vL:Value} {i p:Nat} (h:Rdr w rb vL i p) (hb:Below w.heap.size w w'):Rdr w' rb vL i p:=(hb.block rb (Array.getElem?_eq_some_iff.1 h).1).trans h
theorem Rdr.far {w:World} {rb:Nat} {vL:Value} {i p:Nat} (h:Rdr w rb vL i p) (q:Addr) (hq:q.block≠rb) (u:Value):Rdr (w.setCell q u) rb vL i p:=
 (heap_setCell_other w q rb u (fun e=>hq e.symm)).trans h
theorem Rdr.seti {w:World} {rb:Nat} {vL:Value} {i p:Nat} (h:Rdr w rb vL i p) (j:Nat):Rdr (w.setCell ⟨rb,1,none⟩ (.int .i64 j)) rb vL j p:=
 heap_setCell_same w rb 1 _ _ (.int .i64 j) h
theorem Rdr.setp {w:World} {rb:Nat} {vL:Value} {i p:Nat} (h:Rdr w rb vL i p) (j:Nat):Rdr (w.setCell ⟨rb,2,none⟩ (.int .i64 j)) rb vL i j:=
 heap_setCell_same w rb 2 _ _ (.int .i64 j) h
theorem Rdr.alloc {w:World} {rb:Nat} {vL:Value} {i p:Nat} (h:Rdr w rb vL i p) (o:Obj):Rdr (w.alloc o) rb vL i p:=h.below ((Below.refl _ _).alloc (Nat.le_refl _) _)
def aM (ts:List Tok) (E:Int):List Tok:=ts++[(0,0,[],E)]
theorem qbN (ts:List Tok) (E:Int):(aM ts E).length=ts.length+1:=by simp [aM]
theorem qiY {ts:List Tok} {E:Int} {i:Nat} (h:i≤ts.length) (h2:i<(aM ts E).length):(aM ts E)[i]=tk ts E i:=by
 have key:(aM ts E)[i]? = some (tk ts E i):=by
  unfold aM;rcases Nat.lt_or_ge i ts.length with g | g
  ·rw [qiI g,List.getElem?_append_left g,List.getElem?_eq_getElem g]
  ·obtain rfl:i=ts.length:=by omega
   rw [qbI g,List.getElem?_append_right (Nat.le_refl _)];simp
 rw [List.getElem?_eq_getElem h2] at key;exact Option.some.inj key
theorem qaQ {w:World} {B:Nat} {vL:Value} {ts:List Tok} {E:Int} (h:RdT w B vL (aM ts E)) {i:Nat} (hi:i≤ts.length):∃ g c,vL = .slice (some ⟨g,0,none⟩) (ts.length+1) c∧g<B∧
  w.cell? ⟨g,i*4,none⟩=some (.int .i64 (tk ts E i).1)∧w.cell? ⟨g,i*4+1,none⟩=some (.int .i64 (tk ts E i).2.1)∧w.cell? ⟨g,i*4+2,none⟩=some (.string (ae (tk ts E i).2.2.1))∧w.cell? ⟨g,i*4+3,none⟩=some (.int .i64 (tk ts E i).2.2.2):=by
 have hlt:i<(aM ts E).length:=by rw [qbN];omega
 have:=h.at_ i hlt;rw [qiY hi hlt,qbN] at this;exact this
def qcr (a y:Int):Value:= .iface 68 (.agg #[.int .i64 a,.int .i64 y])
def qdT (a y:Int):Ending:= .panicked [{ v:=qcr a y,recovered:=false }]
theorem ag {P:Program} {fn:Func} {R:Ending→World→Prop} {c:List PanicEntry} {a:Act} {w:World} (h1:a.defers=[]) (h2:R (.panicked c) w):bodyPost P fn R (.panic c) a w:=⟨h1,h2⟩
theorem Fr.drew {w w':World} {pb:Nat} (h:w.grownBy w' (some pb)):w.grownBy w'.drew (some pb):=⟨h.os,h.tape,h.output,h.size,h.block⟩
theorem qaL (rb:Nat) (vL:Value) (ts:List Tok) (E:Int) (i p:Nat) (y:Int) (w:World) (hp:Rdr w rb vL i p) (hr:RdT w rb vL (aM ts E)) (hi:i≤ts.length) :
  Calls Tryz.prog 52 #[.pointer (some ⟨rb,0,none⟩),.int .i64 y] w fun e w'=>e=qdT (tk ts E i).2.2.2 y∧Below w.heap.size w w':=by
 obtain ⟨hlt,c0,c1,_,_⟩:=hp.cells;obtain ⟨g,c,rfl,hg,a0,a1,a2,a3⟩:=qaQ hr hi;have k0:(0:Int)≤(i:Int):=by omega
 have k1:(i:Int)<(ts.length:Int)+1:=by omega
 generalize (tk ts E i).2.2.2=x4 at *;have HP:=zh hp;clear hp;have HR:=zh hr;clear hr;unfold qdT qcr;go_enter Tryz.func52,Tryz.ntmps52;go_wp2_with fail
 -- FAIL BEGIN
 refine wp_region_held_drew (S:=fun w'=>w'.cell? ⟨rb,0,none⟩=some (.slice (some ⟨g,0,none⟩) (ts.length+1) c)∧w'.cell? ⟨rb,1,none⟩=some (.int .i64 i)∧w'.cell? ⟨g,i*4+3,none⟩=some (.int .i64 x4)) (by kernel_rfl) (by go_keep) (fun hHeld=>?_);refine zm 0 ⟨some 4,.move (.tmp 0),89,"read.go:47",#[],none⟩ _ rfl (by kernel_rfl) (fun _ _ _ h=>h) (by rfl) hHeld (fun w hSw=>by go_simp;with_reducible rfl) ?_
 refine zm 1 ⟨some 5,.nilCheck (.tmp 4),0,"read.go:47",#[⟨0,.data⟩],none⟩ _ rfl (by kernel_rfl) (fun _ _ _ h=>h) (by rfl) hHeld (fun w hSw=>by go_simp;with_reducible rfl) ?_
 refine zm 2 ⟨some 6,.fieldAddr 72 (.tmp 5) 0,0,"read.go:47",#[⟨1,.data⟩],none⟩ _ rfl (by kernel_rfl) (fun _ _ _ h=>h) (by rfl) hHeld (fun w hSw=>by go_simp;with_reducible rfl) ?_
 refine zm 3 ⟨some 7,.load 64 (.tmp 6),64,"read.go:47",#[⟨2,.data⟩],none⟩ _ rfl (by kernel_rfl) (fun _ _ _ h=>h) (by rfl) hHeld (fun w hSw=>by go_simp;with_reducible rfl) ?_
 refine zm 4 ⟨some 8,.move (.tmp 0),89,"read.go:47",#[],none⟩ _ rfl (by kernel_rfl) (fun _ _ _ h=>h) (by rfl) hHeld (fun w hSw=>by go_simp;with_reducible rfl) ?_
 refine zm 5 ⟨some 9,.nilCheck (.tmp 8),0,"read.go:47",#[⟨4,.data⟩],none⟩ _ rfl (by kernel_rfl) (fun _ _ _ h=>h) (by rfl) hHeld (fun w hSw=>by go_simp;with_reducible rfl) ?_
 refine zm 6 ⟨some 10,.fieldAddr 72 (.tmp 9) 1,0,"read.go:47",#[⟨5,.data⟩],none⟩ _ rfl (by kernel_rfl) (fun _ _ _ h=>h) (by rfl) hHeld (fun w hSw=>by go_simp;with_reducible rfl) ?_
 refine zm 7 ⟨some 11,.load 3 (.tmp 10),3,"read.go:47",#[⟨6,.data⟩],none⟩ _ rfl (by kernel_rfl) (fun _ _ _ h=>h) (by rfl) hHeld (fun w hSw=>by go_simp;with_reducible rfl) ?_
 refine zm 8 ⟨some 12,.indexAddr 64 (.tmp 7) (.tmp 11),0,"read.go:47",#[⟨3,.data⟩,⟨7,.data⟩],none⟩ _ rfl (by kernel_rfl) (fun _ _ _ h=>h) (by rfl) hHeld (fun w hSw=>by go_simp;with_reducible rfl) ?_
 refine zm 9 ⟨some 13,.fieldAddr 70 (.tmp 12) 3,0,"read.go:47",#[⟨8,.data⟩],none⟩ _ rfl (by kernel_rfl) (fun _ _ _ h=>h) (by rfl) hHeld (fun w hSw=>by go_simp;with_reducible rfl) ?_
 refine zm 10 ⟨some 14,.load 3 (.tmp 13),3,"read.go:47",#[⟨9,.data⟩],none⟩ _ rfl (by kernel_rfl) (fun _ _ _ h=>h) (by rfl) hHeld (fun w hSw=>by go_simp;with_reducible rfl) ?_
 refine zm 11 ⟨some 15,.move (.tmp 1),43,"read.go:47",#[],none⟩ _ rfl (by kernel_rfl) (fun _ _ _ h=>h) (by rfl) hHeld (fun w hSw=>by go_simp;with_reducible rfl) ?_
 refine zm 12 ⟨some 16,.build 68 #[(0,.tmp 14),(1,.tmp 15)],68,"read.go:47",#[⟨10,.data⟩,⟨11,.data⟩],none⟩ _ rfl (by kernel_rfl) (fun _ _ _ h=>h) (by rfl) hHeld (fun w hSw=>by go_simp;with_reducible rfl) ?_
 refine zm 13 ⟨some 17,.makeInterface 68 (.tmp 16),20,"read.go:47",#[⟨12,.data⟩],none⟩ _ rfl (by kernel_rfl) (fun _ _ _ h=>h) (by rfl) hHeld (fun w hSw=>by go_simp;with_reducible rfl) ?_
 refine wpAnyH_ready (rs:=[14]) (by kernel_rfl) (by simp) ?_;refine AllReadyH.cons (o:=⟨none,.panic (.tmp 17),0,"read.go:47",#[⟨13,.data⟩],none⟩) rfl (fun K hK=>?_) AllReadyH.nil
 go_simp;exact ag rfl ⟨rfl,(Below.refl _ _).drew⟩
 -- FAIL END
def cd (t:Tok):Int:=if t.1=2 then (if t.2.2.1=ce then 1 else 2) else if t.1=3 then 3 else if t.1=4 then 4 else if t.1=1 then (if t.2.2.1=[91] then 5 else if t.2.2.1=[123] then 6 else 0) else 0
theorem qfH (t:Tok) (w:World):Calls Tryz.prog 77 #[qcR t] w fun e w'=>e = .returned (.int .i64 (cd t))∧Below w.heap.size w w':=by
 obtain ⟨x1,x2,x3,x4⟩:=t;unfold qcR cd;simp only;have hX:=aA x3;generalize ae x3=X at *;subst hX;have ha:∀ o:Obj,Below w.heap.size w (w.alloc o):=fun o=>(Below.refl _ _).alloc (Nat.le_refl _) _;have HA:=zh ha;clear ha;by_cases h2:x1=2
 ·subst h2;rw [if_pos rfl];by_cases hn:X.toList=ce
  ·rw [if_pos hn];have t1:(X.toList==[110,117,108,108])=true:=by rw [beq_iff_eq];exact hn
   clear hn;go_enter Tryz.func77,Tryz.ntmps77;go_wp2_with fail;go_ret;exact ⟨rfl,HA.out _⟩
  ·rw [if_neg hn];have t1:(X.toList==[110,117,108,108])=false:=by rw [beq_eq_false_iff_ne];exact hn
   clear hn;go_enter Tryz.func77,Tryz.ntmps77;go_wp2_with fail;go_ret;exact ⟨rfl,HA.out _⟩
 ·rw [if_neg h2];have t2:(x1==2)=false:=by rw [beq_eq_false_iff_ne];exact h2
  clear h2;by_cases h3:x1=3
  ·subst h3;rw [if_pos rfl];clear t2;go_enter Tryz.func77,Tryz.ntmps77;go_wp2_with fail;go_ret;exact ⟨rfl,HA.out _⟩
  ·rw [if_neg h3];have t3:(x1==3)=false:=by rw [beq_eq_false_iff_ne];exact h3
   clear h3;by_cases h4:x1=4
   ·subst h4;rw [if_pos rfl];clear t2 t3;go_enter Tryz.func77,Tryz.ntmps77;go_wp2_with fail;go_ret;exact ⟨rfl,HA.out _⟩
   ·rw [if_neg h4];have t4:(x1==4)=false:=by rw [beq_eq_false_iff_ne];exact h4
    clear h4;by_cases h1:x1=1
    ·subst h1;rw [if_pos rfl];clear t2 t3 t4;by_cases hn:X.toList=[91]
     ·rw [if_pos hn];have t1:(X.toList==[91])=true:=by rw [beq_iff_eq];exact hn
      clear hn;go_enter Tryz.func77,Tryz.ntmps77;go_wp2_with fail;go_ret;exact ⟨rfl,HA.out _⟩
     ·rw [if_neg hn];have t1:(X.toList==[91])=false:=by rw [beq_eq_false_iff_ne];exact hn
      clear hn;by_cases hm:X.toList=[123]
      ·rw [if_pos hm];have t5:(X.toList==[123])=true:=by rw [beq_iff_eq];exact hm
       clear hm;go_enter Tryz.func77,Tryz.ntmps77;go_wp2_with fail;go_ret;exact ⟨rfl,HA.out _⟩
      ·rw [if_neg hm];have t5:(X.toList==[123])=false:=by rw [beq_eq_false_iff_ne];exact hm
       clear hm;go_enter Tryz.func77,Tryz.ntmps77;go_wp2_with fail;go_ret;exact ⟨rfl,HA.out _⟩
    ·rw [if_neg h1];have t1:(x1==1)=false:=by rw [beq_eq_false_iff_ne];exact h1
     clear h1;go_enter Tryz.func77,Tryz.ntmps77;go_wp2_with fail;go_ret;exact ⟨rfl,HA.out _⟩
theorem cW (rb:Nat) (vL:Value) (ts:List Tok) (E:Int) (i p:Nat) (w:World) (hp:Rdr w rb vL i p) (hr:RdT w rb vL (aM ts E)) (hi:i≤ts.length) (hi2:ts.length≤4611686018427387904) :
  Calls Tryz.prog 99 #[.pointer (some ⟨rb,0,none⟩)] w fun e w'=>e = .returned (qcR (tk ts E i))∧w.grownBy w' (some rb)∧Rdr w' rb vL (i+1) p:=by
 obtain ⟨hlt,c0,c1,c2,fz⟩:=hp.cells;obtain ⟨g,c,rfl,hg,a0,a1,a2,a3⟩:=qaQ hr hi;have k0:(0:Int)≤(i:Int):=by omega
 have k1:(i:Int)<(ts.length:Int)+1:=by omega
 have f1:=fz 1;have hn1:w.heap.size≠rb:=by omega
 have hn2:w.heap.size+1≠rb:=by omega
 have hn3:w.heap.size≠g:=by omega
 have hn4:w.heap.size+1≠g:=by omega
 rcases htk:tk ts E i with ⟨x1,x2,x3,x4⟩;rw [htk] at a0 a1 a2 a3;simp only at a0 a1 a2 a3;clear htk;unfold qcR;simp only;generalize ae x3=X at *;have HP:=zh hp;clear hp;have HR:=zh hr;clear hr;have HF:=zh fz;clear fz;go_enter Tryz.func99,Tryz.ntmps99;go_wp2_with fail;go_region_held3 (fun w'=>w'.cell? ⟨rb,0,none⟩=some (.slice (some ⟨g,0,none⟩) (ts.length+1) c)∧w'.cell? ⟨rb,1,none⟩=some (.int .i64 i)∧w'.cell? ⟨g,i*4,none⟩=some (.int .i64 x1)∧w'.cell? ⟨g,i*4+1,none⟩=some (.int .i64 x2)∧w'.cell? ⟨g,i*4+2,none⟩=some (.string X)∧w'.cell? ⟨g,i*4+3,none⟩=some (.int .i64 x4)) (go_keep) (fail)
 all_goals
  go_wp2_with fail;refine bodyPost_ret (v:= .agg #[.int .i64 x1,.int .i64 x2,.string X,.int .i64 x4]) (by simp [results,Tryz.results99,go_sem]) rfl ⟨rfl,?_,?_⟩
  ·exact Fr.drew (Fr.alloc (Fr.alloc (Fr.set w rb 1 _) _) _)
  ·exact ((HP.out.seti (i+1)).alloc _).alloc _
theorem qeK (rb:Nat) (vL:Value) (ts:List Tok) (E:Int) (i p:Nat) (ch:UInt8) (s:ByteArray) (w:World) (hp:Rdr w rb vL i p) (hr:RdT w rb vL (aM ts E)) (hi:i≤ts.length) (hi2:ts.length≤4611686018427387904) (hs:s.toList=[ch]) :
  Calls Tryz.prog 114 #[.pointer (some ⟨rb,0,none⟩),.string s] w fun e w'=>e = .returned (.bool (isM (tk ts E i) ch))∧w.grownBy w' (some rb)∧Rdr w' rb vL (if isM (tk ts E i) ch=true then i+1 else i) p:=by
 obtain ⟨hlt,c0,c1,c2,fz⟩:=hp.cells;obtain ⟨g,c,rfl,hg,a0,a1,a2,a3⟩:=qaQ hr hi;have k0:(0:Int)≤(i:Int):=by omega
 have k1:(i:Int)<(ts.length:Int)+1:=by omega
 have f1:=fz 1;have hn1:w.heap.size≠rb:=by omega
 have hn3:w.heap.size≠g:=by omega
 have hm:isM (tk ts E i) ch=true↔((tk ts E i).1=1∧(ae (tk ts E i).2.2.1).toList=s.toList):=by
  rw [aA,hs];unfold isM;simp
 generalize isM (tk ts E i) ch=b at *;rcases htk:tk ts E i with ⟨x1,x2,x3,x4⟩;rw [htk] at a0 a1 a2 a3 hm;simp only at a0 a1 a2 a3 hm;clear htk;generalize ae x3=X at *;have HP:=zh hp;clear hp;have HR:=zh hr;clear hr;have HF:=zh fz;clear fz;have HS:=zh hs;clear hs;by_cases h1:x1=1
 ·by_cases h2:X.toList=s.toList
  ·have hb:b=true:=hm.2 ⟨h1,h2⟩;subst hb;have t1:(x1 != 1)=false:=by rw [bne_eq_false_iff_eq];exact h1
   have t2:(X.toList != s.toList)=false:=by rw [bne_eq_false_iff_eq];exact h2
   have t3:(x1==1)=true:=by rw [beq_iff_eq];exact h1
   have t4:(X.toList==s.toList)=true:=by rw [beq_iff_eq];exact h2
   clear hm h1 h2;go_enter Tryz.func114,Tryz.ntmps114;go_wp2_with fail;go_region_held3 (fun w'=>w'.cell? ⟨rb,0,none⟩=some (.slice (some ⟨g,0,none⟩) (ts.length+1) c)∧w'.cell? ⟨rb,1,none⟩=some (.int .i64 i)∧w'.cell? ⟨g,i*4,none⟩=some (.int .i64 x1)∧w'.cell? ⟨g,i*4+1,none⟩=some (.int .i64 x2)∧w'.cell? ⟨g,i*4+2,none⟩=some (.string X)∧w'.cell? ⟨g,i*4+3,none⟩=some (.int .i64 x4)) (go_keep) (fail)
   all_goals
    go_wp2_with fail;go_ret;refine ⟨rfl,?_,?_⟩
    ·exact Fr.drew (Fr.alloc (Fr.set w rb 1 _) _)
    ·exact (HP.out.seti (i+1)).alloc _
  ·have hb:b=false:=by
    rcases b with _ | _
    ·rfl
    ·exact absurd (hm.1 rfl).2 h2
   subst hb;have t1:(x1 != 1)=false:=by rw [bne_eq_false_iff_eq];exact h1
   have t2:(X.toList != s.toList)=true:=by rw [bne_iff_ne];exact h2
   have t3:(x1==1)=true:=by rw [beq_iff_eq];exact h1
   have t4:(X.toList==s.toList)=false:=by rw [beq_eq_false_iff_ne];exact h2
   clear hm h1 h2;go_enter Tryz.func114,Tryz.ntmps114;go_wp2_with fail;go_region_held3 (fun w'=>w'.cell? ⟨rb,0,none⟩=some (.slice (some ⟨g,0,none⟩) (ts.length+1) c)∧w'.cell? ⟨rb,1,none⟩=some (.int .i64 i)∧w'.cell? ⟨g,i*4,none⟩=some (.int .i64 x1)∧w'.cell? ⟨g,i*4+1,none⟩=some (.int .i64 x2)∧w'.cell? ⟨g,i*4+2,none⟩=some (.string X)∧w'.cell? ⟨g,i*4+3,none⟩=some (.int .i64 x4)) (go_keep) (fail)
   all_goals
    go_wp2_with fail;go_ret;refine ⟨rfl,?_,?_⟩
    ·exact Fr.drew (Fr.of rb ((Below.refl _ _).alloc (Nat.le_refl _) _))
    ·exact HP.out.alloc _
 ·have hb:b=false:=by
   rcases b with _ | _
   ·rfl
   ·exact absurd (hm.1 rfl).1 h1
  subst hb;have t1:(x1 != 1)=true:=by rw [bne_iff_ne];exact h1
  have t3:(x1==1)=false:=by rw [beq_eq_false_iff_ne];exact h1
  clear hm h1;go_enter Tryz.func114,Tryz.ntmps114;go_wp2_with fail;go_region_held3 (fun w'=>w'.cell? ⟨rb,0,none⟩=some (.slice (some ⟨g,0,none⟩) (ts.length+1) c)∧w'.cell? ⟨rb,1,none⟩=some (.int .i64 i)∧w'.cell? ⟨g,i*4,none⟩=some (.int .i64 x1)∧w'.cell? ⟨g,i*4+1,none⟩=some (.int .i64 x2)∧w'.cell? ⟨g,i*4+2,none⟩=some (.string X)∧w'.cell? ⟨g,i*4+3,none⟩=some (.int .i64 x4)) (go_keep) (fail)
  all_goals
   go_wp2_with fail;go_ret;refine ⟨rfl,?_,?_⟩
   ·exact Fr.drew (Fr.of rb ((Below.refl _ _).alloc (Nat.le_refl _) _))
   ·exact HP.out.alloc _
def qi0 (rb:Nat) (vL:Value) (ok:Bool) (i p:Nat) (a y:Int) (w:World) (e:Ending) (w':World):Prop:=
 w.grownBy w' (some rb)∧((ok=true∧e = .returned (.tuple #[])∧Rdr w' rb vL i p)∨(ok=false∧e=qdT a y))
theorem qbq (rb:Nat) (vL:Value) (ts:List Tok) (E:Int) (i p:Nat) (ch:UInt8) (s:ByteArray) (w:World) (hp:Rdr w rb vL i p) (hr:RdT w rb vL (aM ts E)) (hi:i≤ts.length) (hi2:ts.length≤4611686018427387904) (hs:s.toList=[ch]) :
  Calls Tryz.prog 100 #[.pointer (some ⟨rb,0,none⟩),.string s] w (qi0 rb vL (isM (tk ts E i) ch) (i+1) p (tk ts E i).2.2.2 50 w):=by
 have HP:=qeK rb vL ts E i p ch s w hp hr hi hi2 hs;have hlt:=hp.cells.1;have HF:=fun w1 hp1 (hr1:RdT w1 rb vL (aM ts E))=>qaL rb vL ts E i p 50 w1 hp1 hr1 hi;have HH:=zh HP;clear HP;have HG:=zh HF;clear HF;have HR:=zh hr;clear hr;clear hp hs;generalize (tk ts E i).2.2.2=x4 at *;by_cases h:isM (tk ts E i) ch=true
 ·have HI:=zh h;rw [h];clear h;go_enter Tryz.func100,Tryz.ntmps100;go_wp2_with fail;refine HH.out.mono ?_;rw [HI.out];rintro e w1 ⟨rfl,hf,hp1⟩;go_wp2_with fail;go_end0
  exact ⟨hf,.inl ⟨rfl,rfl,hp1⟩⟩
 ·rw [Bool.not_eq_true] at h;have HI:=zh h;rw [h];clear h;go_enter Tryz.func100,Tryz.ntmps100;go_wp2_with fail;refine HH.out.mono ?_;rw [HI.out];rintro e w1 ⟨rfl,hf,hp1⟩;go_wp2_with fail;refine (HG.out w1 hp1 (aW HR.out (Nat.le_of_lt hlt) hf)).mono ?_;rintro e w2 ⟨rfl,hb⟩;exact ag rfl ⟨Fr.trans hf (Fr.of rb hb),.inr ⟨rfl,rfl⟩⟩
def qfy (rb:Nat) (vL:Value) (k:Nat) (i p:Nat) (a y:Int) (w:World) (e:Ending) (w':World):Prop:=
 w.grownBy w' (some rb)∧((k=0∧e = .returned (.bool true)∧Rdr w' rb vL (i+1) p)∨(k=1∧e = .returned (.bool false)∧Rdr w' rb vL i p)∨(k=2∧e = .returned (.bool false)∧Rdr w' rb vL (i+1) p)∨(k=3∧e=qdT a y))
def qhf (t:Tok) (ch:UInt8) (n:Nat):Nat:=if isM t ch=true then 0 else if n=0 then 1 else if isM t 44=true then 2 else 3
theorem qe6 (rb:Nat) (vL:Value) (ts:List Tok) (E:Int) (i p n:Nat) (ch:UInt8) (s:ByteArray) (w:World) (hp:Rdr w rb vL i p) (hr:RdT w rb vL (aM ts E)) (hi:i≤ts.length) (hi2:ts.length≤4611686018427387904) (hs:s.toList=[ch]) :
  Calls Tryz.prog 101 #[.pointer (some ⟨rb,0,none⟩),.string s,.int .i64 n] w (qfy rb vL (qhf (tk ts E i) ch n) i p (tk ts E i).2.2.2 50 w):=by
 have HP:=qeK rb vL ts E i p ch s w hp hr hi hi2 hs;have hlt:=hp.cells.1;have HW:=fun w1 hp1 (hr1:RdT w1 rb vL (aM ts E))=>qbq rb vL ts E i p 44 ⟨#[44]⟩ w1 hp1 hr1 hi hi2 (by rw [ByteArray.toList_eq]);have HH:=zh HP;clear HP;have HG:=zh HW;clear HW;have HR:=zh hr;clear hr;clear hp hs;generalize (tk ts E i).2.2.2=x4 at *;unfold qhf;by_cases h:isM (tk ts E i) ch=true
 ·have HI:=zh h;rw [if_pos h];clear h;go_enter Tryz.func101,Tryz.ntmps101;go_wp2_with fail;refine HH.out.mono ?_;rw [HI.out];rintro e w1 ⟨rfl,hf,hp1⟩;go_wp2_with fail;go_ret;exact ⟨hf,.inl ⟨rfl,rfl,hp1⟩⟩
 ·rw [if_neg h];rw [Bool.not_eq_true] at h;have HI:=zh h;clear h;by_cases h0:n=0
  ·subst h0;rw [if_pos rfl];have hd:decide ((0:Int)<((0:Nat):Int))=false:=rfl;go_enter Tryz.func101,Tryz.ntmps101;go_wp2_with fail;refine HH.out.mono ?_;rw [HI.out];rintro e w1 ⟨rfl,hf,hp1⟩;go_wp2_with fail;go_ret;exact ⟨hf,.inr (.inl ⟨rfl,rfl,hp1⟩)⟩
  ·rw [if_neg h0];have hd:decide ((0:Int)<(n:Int))=true:=zT (by omega);have hd2:decide (0<n)=true:=zT (by omega);clear h0;by_cases hc:isM (tk ts E i) 44=true
   ·have HC:=zh hc;rw [if_pos hc];clear hc;go_enter Tryz.func101,Tryz.ntmps101;go_wp2_with fail;refine HH.out.mono ?_;rw [HI.out];rintro e w1 ⟨rfl,hf,hp1⟩;go_wp2_with fail;refine (HG.out w1 hp1 (aW HR.out (Nat.le_of_lt hlt) hf)).mono ?_;rw [HC.out];rintro e w2 ⟨hf2,⟨_,rfl,hp2⟩ | ⟨h,_⟩⟩
    ·go_wp2_with fail;go_ret;exact ⟨Fr.trans hf hf2,.inr (.inr (.inl ⟨rfl,rfl,hp2⟩))⟩
    ·cases h
   ·rw [if_neg hc];rw [Bool.not_eq_true] at hc;have HC:=zh hc;clear hc;go_enter Tryz.func101,Tryz.ntmps101;go_wp2_with fail;refine HH.out.mono ?_;rw [HI.out];rintro e w1 ⟨rfl,hf,hp1⟩;go_wp2_with fail;refine (HG.out w1 hp1 (aW HR.out (Nat.le_of_lt hlt) hf)).mono ?_;rw [HC.out];rintro e w2 ⟨hf2,⟨h,_⟩ | ⟨_,rfl⟩⟩
    ·cases h
    ·exact ag rfl ⟨Fr.trans hf hf2,.inr (.inr (.inr ⟨rfl,rfl⟩))⟩
def qei (k:Int) (d p:Nat):Int:=if k=0 then 50 else if 16<d then 51 else if p=8192 then 53 else 0
theorem qhu (rb:Nat) (vL:Value) (ts:List Tok) (E:Int) (i p d:Nat) (k:Int) (w:World) (hp:Rdr w rb vL i p) (hr:RdT w rb vL (aM ts E)) (hi:i≤ts.length) (hpp:p≤8192) :
  Calls Tryz.prog 78 #[.pointer (some ⟨rb,0,none⟩),.int .i64 k,.int .i64 d] w (qi0 rb vL (decide (qei k d p=0)) i (p+1) (tk ts E i).2.2.2 (qei k d p) w):=by
 obtain ⟨hlt,c0,c1,c2,fz⟩:=hp.cells;have f2:=fz 2;have HF:=fun y=>qaL rb vL ts E i p y w hp hr hi;have HG:=zh HF;clear HF;have HP:=zh hp;clear hp;clear fz hr;generalize (tk ts E i).2.2.2=x4 at *;unfold qei;by_cases h0:k=0
 ·subst h0;rw [if_pos rfl];go_enter Tryz.func78,Tryz.ntmps78;go_wp2_with fail;refine (HG.out 50).mono ?_;rintro e w1 ⟨rfl,hb⟩;exact ag rfl ⟨Fr.of rb hb,.inr ⟨rfl,rfl⟩⟩
 ·rw [if_neg h0];have t0:(k==0)=false:=by rw [beq_eq_false_iff_ne];exact h0
  clear h0;by_cases h1:16<d
  ·rw [if_pos h1];have t1:decide ((16:Int)<(d:Int))=true:=zT (by omega);have t2:decide (16<d)=true:=zT (by omega);clear h1;go_enter Tryz.func78,Tryz.ntmps78;go_wp2_with fail;refine (HG.out 51).mono ?_;rintro e w1 ⟨rfl,hb⟩;exact ag rfl ⟨Fr.of rb hb,.inr ⟨rfl,rfl⟩⟩
  ·rw [if_neg h1];have t1:decide ((16:Int)<(d:Int))=false:=zF (by omega);have t2:decide (16<d)=false:=zF (by omega);clear h1;by_cases h2:p=8192
   ·rw [if_pos h2];have t3:((p:Int)==8192)=true:=by rw [beq_iff_eq];omega
    clear h2;go_enter Tryz.func78,Tryz.ntmps78;go_wp2_with fail;refine (HG.out 53).mono ?_;rintro e w1 ⟨rfl,hb⟩;exact ag rfl ⟨Fr.of rb hb,.inr ⟨rfl,rfl⟩⟩
   ·rw [if_neg h2];have t3:((p:Int)==8192)=false:=by rw [beq_eq_false_iff_ne];omega
    clear h2;go_enter Tryz.func78,Tryz.ntmps78;go_wp2_with fail;go_end0
    exact ⟨Fr.set w rb 2 _,.inl ⟨rfl,rfl,HP.out.setp (p+1)⟩⟩
def NF (w:World) (u:Value):Prop:=∀ A n c,u = .slice A n c→0<n→∃ g,A=some ⟨g,0,none⟩∧g<w.heap.size∧∀ o,w.frozen? ⟨g,o,none⟩=false
def OkC (w:World) (l:List Value):Prop:=∀ u∈l,u.oneCell'=true∧NF w u
theorem OkC.one {w:World} {l:List Value} (h:OkC w l):∀ u∈l,u.oneCell'=true:=fun u hu=>(h u hu).1
theorem OkC.keep {w w':World} {l:List Value} (h:OkC w l) (hs:w.heap.size≤w'.heap.size) (hf:∀ p:Addr,p.block<w.heap.size→w'.frozen? p=w.frozen? p):OkC w' l:=fun u hu=>
 ⟨(h u hu).1,fun A n c e hn=>by
  obtain ⟨g,h1,h2,h3⟩:=(h u hu).2 A n c e hn;exact ⟨g,h1,by omega,fun o=>(hf ⟨g,o,none⟩ h2).trans (h3 o)⟩⟩
theorem NF.nil_ (w:World) (c:Nat):NF w (.slice none 0 c):=fun A n c' e hn=>by
 injection e with _ e2 _
 omega
theorem NF.of_own {w:World} {base E size n:Nat} {v:Value} {xs:List Value} (h:w.ownsRow base E size v n xs):NF w v:=fun A m c e hm=>by
 rcases h.2 with ⟨rfl,_⟩ | ⟨b,cap,cur,rfl,_,hb,_⟩
 ·injection e with _ e2 _
  omega
 ·injection e with e1 e2 e3
  subst e1;exact ⟨b,rfl,(Array.getElem?_eq_some_iff.1 hb).1,fun o=>frozen_of_row w b o _ _ hb⟩
theorem OkC.of {w:World} {k n:Int} {X:ByteArray} {A A2:Option Addr} {l c l2 c2:Nat} (h3:NF w (.slice A l c)) (h4:NF w (.slice A2 l2 c2)):OkC w [.int .i64 k,.int .i64 n,.string X,.slice A l c,.slice A2 l2 c2]:=fun u hu=>by
 simp only [List.mem_cons,List.not_mem_nil,or_false] at hu;rcases hu with rfl | rfl | rfl | rfl | rfl
 ·exact ⟨rfl,fun _ _ _ e=>by cases e⟩
 ·exact ⟨rfl,fun _ _ _ e=>by cases e⟩
 ·exact ⟨rfl,fun _ _ _ e=>by cases e⟩
 ·exact ⟨rfl,h3⟩
 ·exact ⟨rfl,h4⟩
def ck (rb:Nat) (vL:Value) (r:Rs V) (w:World) (e:Ending) (w':World):Prop:=
 w.grownBy w' (some rb)∧
  (match r with
  | .ok v j q=>∃ c0 c1 c2 c3 c4:Value,e = .returned (.agg #[c0,c1,c2,c3,c4])∧OkC w' [c0,c1,c2,c3,c4]∧RdV w' w.heap.size w'.heap.size v [c0,c1,c2,c3,c4]∧Rdr w' rb vL j q
  | .bad a y=>e=qdT a y)
section
variable {w w2:World} {rb b t:Nat} {vL:Value} {i p:Nat} {u0 u1 u2 u3 u4:Value}
theorem aX (h:Rdr w2 rb vL i p) (hb:b≠rb) (v0 v1 v2 v3 v4:Value) :
  Rdr (((((w2.setCell ⟨b,0,none⟩ v0).setCell ⟨b,1,none⟩ v1).setCell ⟨b,2,none⟩ v2).setCell ⟨b,3,none⟩ v3).setCell ⟨b,4,none⟩ v4) rb vL i p:=
 (((((h.far ⟨b,0,none⟩ hb _).far ⟨b,1,none⟩ hb _).far ⟨b,2,none⟩ hb _).far ⟨b,3,none⟩ hb _).far ⟨b,4,none⟩ hb _)
end
theorem au {w w':World} {rb b:Nat} (hf:w.grownBy w' (some rb)) (hb:b<w.heap.size) (hne:b≠rb) {o:Obj} (h:w.heap[b]? = some o):w'.heap[b]? = some o:=
 (hf.block b hb (fun e=>hne (Option.some.inj e))).trans h
theorem aw {w:World} {b t:Nat} {v0 v1 v2 v3 v4:Value} {fr:Nat×Nat} (h:w.heap[b]? = some (.cells #[v0,v1,v2,v3,v4] t fr)) :
  w.cell? ⟨b,0,none⟩=some v0∧w.cell? ⟨b,1,none⟩=some v1∧w.cell? ⟨b,2,none⟩=some v2∧w.cell? ⟨b,3,none⟩=some v3∧w.cell? ⟨b,4,none⟩=some v4:=
 ⟨(cell_of_row _ _ 0 _ _ _ h).trans rfl,(cell_of_row _ _ 1 _ _ _ h).trans rfl,(cell_of_row _ _ 2 _ _ _ h).trans rfl,(cell_of_row _ _ 3 _ _ _ h).trans rfl,(cell_of_row _ _ 4 _ _ _ h).trans rfl⟩
theorem aE {w:World} {b t:Nat} {cs:Array Value} (h:w.heap[b]? = some (.cells cs t (0,0))) :
  w.frozen? ⟨b,0,none⟩=false∧w.frozen? ⟨b,1,none⟩=false∧w.frozen? ⟨b,2,none⟩=false∧w.frozen? ⟨b,3,none⟩=false∧w.frozen? ⟨b,4,none⟩=false:=
 ⟨frozen_of_row _ _ 0 _ _ h,frozen_of_row _ _ 1 _ _ h,frozen_of_row _ _ 2 _ _ h,frozen_of_row _ _ 3 _ _ h,frozen_of_row _ _ 4 _ _ h⟩
theorem qiM (rb:Nat) (vL:Value) (ts:List Tok) (E:Int) (i p:Nat) (w:World) (hp:Rdr w rb vL i p) (hr:RdT w rb vL (aM ts E)) (hi:i≤ts.length) (hi2:ts.length≤4611686018427387904) :
  Calls Tryz.prog 79 #[.pointer (some ⟨rb,0,none⟩)] w (ck rb vL (.ok (V.mk 1 0 [] [] [] []) (i+1) p) w):=by
 have hlt:=hp.cells.1;obtain ⟨wa,hwa⟩:∃ wa,wa=w.alloc (.cells #[.int .i64 0,.int .i64 0,.string ⟨#[]⟩,.slice none 0 0,.slice none 0 0] 25):=⟨_,rfl⟩
 have hba:Below w.heap.size w wa:=by rw [hwa];exact (Below.refl _ _).alloc (Nat.le_refl _) _
 have hsa:wa.heap.size=w.heap.size+1:=by rw [hwa,aj]
 have hza:wa.heap[w.heap.size]? = some (.cells #[.int .i64 0,.int .i64 0,.string ⟨#[]⟩,.slice none 0 0,.slice none 0 0] 25 (0,0)):=by rw [hwa];exact heap_alloc_new w _
 have ht:=cW rb vL ts E i p wa (hp.below hba) (aW hr (Nat.le_of_lt hlt) (Fr.of rb hba)) hi hi2;rcases htk:tk ts E i with ⟨x1,x2,x3,x4⟩;rw [htk] at ht;unfold qcR at ht;simp only at ht ⊢;obtain ⟨X,hX⟩:∃ X,X=ae x3:=⟨_,rfl⟩
 rw [←hX] at ht;have hfd1:∀ w:World,(Instr.field 70 (.agg #[.int .i64 x1,.int .i64 x2,.string X,.int .i64 x4]) 1).run Tryz.prog w = .ok (.int .i64 x2) w:=fun _=>by kernel_rfl
 have hfd2:∀ w:World,(Instr.field 70 (.agg #[.int .i64 x1,.int .i64 x2,.string X,.int .i64 x4]) 2).run Tryz.prog w = .ok (.string X) w:=fun _=>by kernel_rfl
 rw [hwa] at ht;have HT:=zh ht;have HWA:=zh hwa;have HXX:=zh hX;have HFA:=zh (Fr.of rb hba);clear ht hwa hX hp hr hba htk;go_enter Tryz.func79,Tryz.ntmps79;go_wp2_with fail;refine HT.out.mono ?_;rw [←HWA.out];rintro e w1 ⟨rfl,hf1,hp1⟩;have hlt1:=hp1.cells.1;have hz1:=au hf1 (by omega) (by omega) hza;obtain ⟨z0,z1,z2,z3,z4⟩:=aw hz1;obtain ⟨q0,q1,q2,q3,q4⟩:=aE hz1;have hn:w.heap.size≠rb:=by omega
 have HP1:=zh hp1;clear hp1;have HZ1:=zh hz1;have HF1:=zh (Fr.trans HFA.out hf1);clear hz1 hza hf1;go_wp2_with fail;have R5:=aJ HZ1.out (.int .i64 1) (.int .i64 0) (.string ⟨#[]⟩) (.slice none 0 0) (.slice none 0 0);have P5:=aX HP1.out hn (.int .i64 1) (.int .i64 0) (.string ⟨#[]⟩) (.slice none 0 0) (.slice none 0 0);have F5:=bg HF1.out (Nat.le_refl _) (.int .i64 1) (.int .i64 0) (.string ⟨#[]⟩) (.slice none 0 0) (.slice none 0 0);refine bodyPost_ret (aV rfl rfl R5) rfl ⟨F5,_,_,_,_,_,rfl,OkC.of (NF.nil_ _ _) (NF.nil_ _ _),cC _ _ _ 1 0 [],P5⟩
theorem qe9 (rb:Nat) (vL:Value) (ts:List Tok) (E:Int) (i p:Nat) (w:World) (hp:Rdr w rb vL i p) (hr:RdT w rb vL (aM ts E)) (hi:i≤ts.length) (hi2:ts.length≤4611686018427387904) :
  Calls Tryz.prog 81 #[.pointer (some ⟨rb,0,none⟩)] w (ck rb vL (.ok (nmV (tk ts E i).2.1) (i+1) p) w):=by
 have hlt:=hp.cells.1;obtain ⟨wa,hwa⟩:∃ wa,wa=w.alloc (.cells #[.int .i64 0,.int .i64 0,.string ⟨#[]⟩,.slice none 0 0,.slice none 0 0] 25):=⟨_,rfl⟩
 have hba:Below w.heap.size w wa:=by rw [hwa];exact (Below.refl _ _).alloc (Nat.le_refl _) _
 have hsa:wa.heap.size=w.heap.size+1:=by rw [hwa,aj]
 have hza:wa.heap[w.heap.size]? = some (.cells #[.int .i64 0,.int .i64 0,.string ⟨#[]⟩,.slice none 0 0,.slice none 0 0] 25 (0,0)):=by rw [hwa];exact heap_alloc_new w _
 have ht:=cW rb vL ts E i p wa (hp.below hba) (aW hr (Nat.le_of_lt hlt) (Fr.of rb hba)) hi hi2;rcases htk:tk ts E i with ⟨x1,x2,x3,x4⟩;rw [htk] at ht;unfold qcR at ht;simp only at ht ⊢;obtain ⟨X,hX⟩:∃ X,X=ae x3:=⟨_,rfl⟩
 rw [←hX] at ht;have hfd1:∀ w:World,(Instr.field 70 (.agg #[.int .i64 x1,.int .i64 x2,.string X,.int .i64 x4]) 1).run Tryz.prog w = .ok (.int .i64 x2) w:=fun _=>by kernel_rfl
 have hfd2:∀ w:World,(Instr.field 70 (.agg #[.int .i64 x1,.int .i64 x2,.string X,.int .i64 x4]) 2).run Tryz.prog w = .ok (.string X) w:=fun _=>by kernel_rfl
 rw [hwa] at ht;have HT:=zh ht;have HWA:=zh hwa;have HXX:=zh hX;have HFA:=zh (Fr.of rb hba);clear ht hwa hX hp hr hba htk;go_enter Tryz.func81,Tryz.ntmps81;go_wp2_with fail;refine HT.out.mono ?_;rw [←HWA.out];rintro e w1 ⟨rfl,hf1,hp1⟩;have hlt1:=hp1.cells.1;have hz1:=au hf1 (by omega) (by omega) hza;obtain ⟨z0,z1,z2,z3,z4⟩:=aw hz1;obtain ⟨q0,q1,q2,q3,q4⟩:=aE hz1;have hn:w.heap.size≠rb:=by omega
 have HP1:=zh hp1;clear hp1;have HZ1:=zh hz1;have HF1:=zh (Fr.trans HFA.out hf1);clear hz1 hza hf1;go_wp2_with fail;have R5:=aJ HZ1.out (.int .i64 3) (.int .i64 x2) (.string ⟨#[]⟩) (.slice none 0 0) (.slice none 0 0);have P5:=aX HP1.out hn (.int .i64 3) (.int .i64 x2) (.string ⟨#[]⟩) (.slice none 0 0) (.slice none 0 0);have F5:=bg HF1.out (Nat.le_refl _) (.int .i64 3) (.int .i64 x2) (.string ⟨#[]⟩) (.slice none 0 0) (.slice none 0 0);refine bodyPost_ret (aV rfl rfl R5) rfl ⟨F5,_,_,_,_,_,rfl,OkC.of (NF.nil_ _ _) (NF.nil_ _ _),cC _ _ _ 3 x2 [],P5⟩
theorem qht (rb:Nat) (vL:Value) (ts:List Tok) (E:Int) (i p:Nat) (w:World) (hp:Rdr w rb vL i p) (hr:RdT w rb vL (aM ts E)) (hi:i≤ts.length) (hi2:ts.length≤4611686018427387904) :
  Calls Tryz.prog 82 #[.pointer (some ⟨rb,0,none⟩)] w (ck rb vL (.ok (txV (tk ts E i).2.2.1) (i+1) p) w):=by
 have hlt:=hp.cells.1;obtain ⟨wa,hwa⟩:∃ wa,wa=w.alloc (.cells #[.int .i64 0,.int .i64 0,.string ⟨#[]⟩,.slice none 0 0,.slice none 0 0] 25):=⟨_,rfl⟩
 have hba:Below w.heap.size w wa:=by rw [hwa];exact (Below.refl _ _).alloc (Nat.le_refl _) _
 have hsa:wa.heap.size=w.heap.size+1:=by rw [hwa,aj]
 have hza:wa.heap[w.heap.size]? = some (.cells #[.int .i64 0,.int .i64 0,.string ⟨#[]⟩,.slice none 0 0,.slice none 0 0] 25 (0,0)):=by rw [hwa];exact heap_alloc_new w _
 have ht:=cW rb vL ts E i p wa (hp.below hba) (aW hr (Nat.le_of_lt hlt) (Fr.of rb hba)) hi hi2;rcases htk:tk ts E i with ⟨x1,x2,x3,x4⟩;rw [htk] at ht;unfold qcR at ht;simp only at ht ⊢;obtain ⟨X,hX⟩:∃ X,X=ae x3:=⟨_,rfl⟩
 rw [←hX] at ht;have hfd1:∀ w:World,(Instr.field 70 (.agg #[.int .i64 x1,.int .i64 x2,.string X,.int .i64 x4]) 1).run Tryz.prog w = .ok (.int .i64 x2) w:=fun _=>by kernel_rfl
 have hfd2:∀ w:World,(Instr.field 70 (.agg #[.int .i64 x1,.int .i64 x2,.string X,.int .i64 x4]) 2).run Tryz.prog w = .ok (.string X) w:=fun _=>by kernel_rfl
 rw [hwa] at ht;have HT:=zh ht;have HWA:=zh hwa;have HXX:=zh hX;have HFA:=zh (Fr.of rb hba);clear ht hwa hX hp hr hba htk;go_enter Tryz.func82,Tryz.ntmps82;go_wp2_with fail;refine HT.out.mono ?_;rw [←HWA.out];rintro e w1 ⟨rfl,hf1,hp1⟩;have hlt1:=hp1.cells.1;have hz1:=au hf1 (by omega) (by omega) hza;obtain ⟨z0,z1,z2,z3,z4⟩:=aw hz1;obtain ⟨q0,q1,q2,q3,q4⟩:=aE hz1;have hn:w.heap.size≠rb:=by omega
 have HP1:=zh hp1;clear hp1;have HZ1:=zh hz1;have HF1:=zh (Fr.trans HFA.out hf1);clear hz1 hza hf1;go_wp2_with fail;have R5:=aJ HZ1.out (.int .i64 4) (.int .i64 0) (.string X) (.slice none 0 0) (.slice none 0 0);have P5:=aX HP1.out hn (.int .i64 4) (.int .i64 0) (.string X) (.slice none 0 0) (.slice none 0 0);have F5:=bg HF1.out (Nat.le_refl _) (.int .i64 4) (.int .i64 0) (.string X) (.slice none 0 0) (.slice none 0 0);refine bodyPost_ret (aV rfl rfl R5) rfl ⟨F5,_,_,_,_,_,rfl,OkC.of (NF.nil_ _ _) (NF.nil_ _ _),by rw [HXX.out];exact cC _ _ _ 4 0 x3,P5⟩
theorem qhr (rb:Nat) (vL:Value) (ts:List Tok) (E:Int) (i p:Nat) (w:World) (hp:Rdr w rb vL i p) (hr:RdT w rb vL (aM ts E)) (hi:i≤ts.length) (hi2:ts.length≤4611686018427387904) (hk:(tk ts E i).2.2.1=bS) :
  Calls Tryz.prog 80 #[.pointer (some ⟨rb,0,none⟩)] w (ck rb vL (.ok (V.mk 2 1 [] [] [] []) (i+1) p) w):=by
 have hlt:=hp.cells.1;obtain ⟨wa,hwa⟩:∃ wa,wa=(w.alloc (.cells #[.int .i64 0,.int .i64 0,.string ⟨#[]⟩,.slice none 0 0,.slice none 0 0] 25)).alloc (.cells #[.int .i64 2,.int .i64 0,.string ⟨#[]⟩,.slice none 0 0,.slice none 0 0] 25):=⟨_,rfl⟩
 have hs1:(w.alloc (.cells #[.int .i64 0,.int .i64 0,.string ⟨#[]⟩,.slice none 0 0,.slice none 0 0] 25)).heap.size=w.heap.size+1:=aj _ _;have hba:Below w.heap.size w wa:=by rw [hwa];exact ((Below.refl _ _).alloc (Nat.le_refl _) _).alloc (by rw [hs1];omega) _
 have hsa:wa.heap.size=w.heap.size+2:=by rw [hwa,aj,aj]
 have hza:wa.heap[w.heap.size]? = some (.cells #[.int .i64 0,.int .i64 0,.string ⟨#[]⟩,.slice none 0 0,.slice none 0 0] 25 (0,0)):=by rw [hwa];exact (heap_alloc_old _ _ (by rw [hs1];omega)).trans (heap_alloc_new w _)
 have hzb:wa.heap[w.heap.size+1]? = some (.cells #[.int .i64 2,.int .i64 0,.string ⟨#[]⟩,.slice none 0 0,.slice none 0 0] 25 (0,0)):=by
  have:=heap_alloc_new (w.alloc (.cells #[.int .i64 0,.int .i64 0,.string ⟨#[]⟩,.slice none 0 0,.slice none 0 0] 25)) (.cells #[.int .i64 2,.int .i64 0,.string ⟨#[]⟩,.slice none 0 0,.slice none 0 0] 25);rw [hs1] at this;rw [hwa];exact this
 have ht:=cW rb vL ts E i p wa (hp.below hba) (aW hr (Nat.le_of_lt hlt) (Fr.of rb hba)) hi hi2;rcases htk:tk ts E i with ⟨x1,x2,x3,x4⟩;rw [htk] at ht hk;unfold qcR at ht;simp only at ht hk;have hXl:=aA x3;generalize ae x3=X at *;subst hXl;have hfd2:∀ w:World,(Instr.field 70 (.agg #[.int .i64 x1,.int .i64 x2,.string X,.int .i64 x4]) 2).run Tryz.prog w = .ok (.string X) w:=fun _=>by kernel_rfl
 have t1:(X.toList==[116,114,117,101])=true:=by rw [beq_iff_eq];exact hk
 rw [hwa] at ht;have HT:=zh ht;have HWA:=zh hwa;have HFA:=zh (Fr.of rb hba);clear ht hwa hp hr hba htk hk;go_enter Tryz.func80,Tryz.ntmps80;go_wp2_with fail;refine HT.out.mono ?_;rw [←HWA.out];rintro e w1 ⟨rfl,hf1,hp1⟩;have hlt1:=hp1.cells.1;have hz1:=au hf1 (by omega) (by omega) hza;have hy1:=au hf1 (by omega) (by omega) hzb;obtain ⟨z0,z1,z2,z3,z4⟩:=aw hz1;obtain ⟨q0,q1,q2,q3,q4⟩:=aE hz1;obtain ⟨y0,y1,y2,y3,y4⟩:=aw hy1;obtain ⟨r0,r1,r2,r3,r4⟩:=aE hy1;have hn:w.heap.size≠rb:=by omega
 have hn2:w.heap.size+1≠rb:=by omega
 have HP1:=zh hp1;clear hp1;have HZ1:=zh hz1;have HY1:=zh hy1;have HF1:=zh (Fr.trans HFA.out hf1);clear hz1 hza hf1 hy1 hzb;go_wp2_with fail;have hz2:=(heap_setCell_other w1 ⟨w.heap.size+1,1,none⟩ w.heap.size (.int .i64 1) (by show w.heap.size≠w.heap.size+1;omega)).trans HZ1.out;have F2:=Fr.new HF1.out ⟨w.heap.size+1,1,none⟩ (by show w.heap.size≤w.heap.size+1;omega) (.int .i64 1);have P2:=HP1.out.far ⟨w.heap.size+1,1,none⟩ hn2 (.int .i64 1);have R5:=aJ hz2 (.int .i64 2) (.int .i64 1) (.string ⟨#[]⟩) (.slice none 0 0) (.slice none 0 0);have P5:=aX P2 hn (.int .i64 2) (.int .i64 1) (.string ⟨#[]⟩) (.slice none 0 0) (.slice none 0 0);have F5:=bg F2 (Nat.le_refl _) (.int .i64 2) (.int .i64 1) (.string ⟨#[]⟩) (.slice none 0 0) (.slice none 0 0);refine bodyPost_ret (aV rfl rfl R5) rfl ⟨F5,_,_,_,_,_,rfl,OkC.of (NF.nil_ _ _) (NF.nil_ _ _),cC _ _ _ 2 1 [],P5⟩
theorem qiE (rb:Nat) (vL:Value) (ts:List Tok) (E:Int) (i p:Nat) (w:World) (hp:Rdr w rb vL i p) (hr:RdT w rb vL (aM ts E)) (hi:i≤ts.length) (hi2:ts.length≤4611686018427387904) (hk:(tk ts E i).2.2.1≠bS) :
  Calls Tryz.prog 80 #[.pointer (some ⟨rb,0,none⟩)] w (ck rb vL (.ok (V.mk 2 0 [] [] [] []) (i+1) p) w):=by
 have hlt:=hp.cells.1;obtain ⟨wa,hwa⟩:∃ wa,wa=(w.alloc (.cells #[.int .i64 0,.int .i64 0,.string ⟨#[]⟩,.slice none 0 0,.slice none 0 0] 25)).alloc (.cells #[.int .i64 2,.int .i64 0,.string ⟨#[]⟩,.slice none 0 0,.slice none 0 0] 25):=⟨_,rfl⟩
 have hs1:(w.alloc (.cells #[.int .i64 0,.int .i64 0,.string ⟨#[]⟩,.slice none 0 0,.slice none 0 0] 25)).heap.size=w.heap.size+1:=aj _ _;have hba:Below w.heap.size w wa:=by rw [hwa];exact ((Below.refl _ _).alloc (Nat.le_refl _) _).alloc (by rw [hs1];omega) _
 have hsa:wa.heap.size=w.heap.size+2:=by rw [hwa,aj,aj]
 have hza:wa.heap[w.heap.size]? = some (.cells #[.int .i64 0,.int .i64 0,.string ⟨#[]⟩,.slice none 0 0,.slice none 0 0] 25 (0,0)):=by rw [hwa];exact (heap_alloc_old _ _ (by rw [hs1];omega)).trans (heap_alloc_new w _)
 have hzb:wa.heap[w.heap.size+1]? = some (.cells #[.int .i64 2,.int .i64 0,.string ⟨#[]⟩,.slice none 0 0,.slice none 0 0] 25 (0,0)):=by
  have:=heap_alloc_new (w.alloc (.cells #[.int .i64 0,.int .i64 0,.string ⟨#[]⟩,.slice none 0 0,.slice none 0 0] 25)) (.cells #[.int .i64 2,.int .i64 0,.string ⟨#[]⟩,.slice none 0 0,.slice none 0 0] 25);rw [hs1] at this;rw [hwa];exact this
 have ht:=cW rb vL ts E i p wa (hp.below hba) (aW hr (Nat.le_of_lt hlt) (Fr.of rb hba)) hi hi2;rcases htk:tk ts E i with ⟨x1,x2,x3,x4⟩;rw [htk] at ht hk;unfold qcR at ht;simp only at ht hk;have hXl:=aA x3;generalize ae x3=X at *;subst hXl;have hfd2:∀ w:World,(Instr.field 70 (.agg #[.int .i64 x1,.int .i64 x2,.string X,.int .i64 x4]) 2).run Tryz.prog w = .ok (.string X) w:=fun _=>by kernel_rfl
 have t1:(X.toList==[116,114,117,101])=false:=by rw [beq_eq_false_iff_ne];exact hk
 rw [hwa] at ht;have HT:=zh ht;have HWA:=zh hwa;have HFA:=zh (Fr.of rb hba);clear ht hwa hp hr hba htk hk;go_enter Tryz.func80,Tryz.ntmps80;go_wp2_with fail;refine HT.out.mono ?_;rw [←HWA.out];rintro e w1 ⟨rfl,hf1,hp1⟩;have hlt1:=hp1.cells.1;have hz1:=au hf1 (by omega) (by omega) hza;have hy1:=au hf1 (by omega) (by omega) hzb;obtain ⟨z0,z1,z2,z3,z4⟩:=aw hz1;obtain ⟨q0,q1,q2,q3,q4⟩:=aE hz1;obtain ⟨y0,y1,y2,y3,y4⟩:=aw hy1;obtain ⟨r0,r1,r2,r3,r4⟩:=aE hy1;have hn:w.heap.size≠rb:=by omega
 have hn2:w.heap.size+1≠rb:=by omega
 have HP1:=zh hp1;clear hp1;have HZ1:=zh hz1;have HY1:=zh hy1;have HF1:=zh (Fr.trans HFA.out hf1);clear hz1 hza hf1 hy1 hzb;go_wp2_with fail;have R5:=aJ HZ1.out (.int .i64 2) (.int .i64 0) (.string ⟨#[]⟩) (.slice none 0 0) (.slice none 0 0);have P5:=aX HP1.out hn (.int .i64 2) (.int .i64 0) (.string ⟨#[]⟩) (.slice none 0 0) (.slice none 0 0);have F5:=bg HF1.out (Nat.le_refl _) (.int .i64 2) (.int .i64 0) (.string ⟨#[]⟩) (.slice none 0 0) (.slice none 0 0);refine bodyPost_ret (aV rfl rfl R5) rfl ⟨F5,_,_,_,_,_,rfl,OkC.of (NF.nil_ _ _) (NF.nil_ _ _),cC _ _ _ 2 0 [],P5⟩
end Re
namespace Re
open Go.RowKit Go.Maps Utf Sc
def Fr2 (w w':World) (rb mb:Nat):Prop:=w'.os=w.os∧w'.tape=w.tape∧w'.output=w.output∧w.heap.size≤w'.heap.size∧∀ k,k<w.heap.size→k≠rb→k≠mb→w'.heap[k]? = w.heap[k]?
theorem Fr2.of_rb {w w':World} {rb:Nat} (mb:Nat) (h:w.grownBy w' (some rb)):Fr2 w w' rb mb:=⟨h.os,h.tape,h.output,h.size,fun k hk h1 _=>h.block k hk (fun e=>h1 (Option.some.inj e))⟩
theorem Fr2.of_mb {w w':World} {mb:Nat} (rb:Nat) (h:w.grownBy w' (some mb)):Fr2 w w' rb mb:=⟨h.os,h.tape,h.output,h.size,fun k hk _ h2=>h.block k hk (fun e=>h2 (Option.some.inj e))⟩
theorem Fr2.trans {w w1 w2:World} {rb mb:Nat} (h:Fr2 w w1 rb mb) (k:Fr2 w1 w2 rb mb):Fr2 w w2 rb mb:=
 ⟨k.1.trans h.1,k.2.1.trans h.2.1,k.2.2.1.trans h.2.2.1,Nat.le_trans h.2.2.2.1 k.2.2.2.1,fun j hj h1 h2=>(k.2.2.2.2 j (Nat.lt_of_lt_of_le hj h.2.2.2.1) h1 h2).trans (h.2.2.2.2 j hj h1 h2)⟩
theorem Fr2.one {w0 w w':World} {rb mb:Nat} (h0:w0.grownBy w (some rb)) (h:Fr2 w w' rb mb) (hm:w0.heap.size≤mb):w0.grownBy w' (some rb):=
 ⟨h.1.trans h0.os,h.2.1.trans h0.tape,h.2.2.1.trans h0.output,Nat.le_trans h0.size h.2.2.2.1,fun k hk hne=>(h.2.2.2.2 k (Nat.lt_of_lt_of_le hk h0.size) (fun e=>hne (by rw [e])) (by omega)).trans (h0.block k hk hne)⟩
def nmK (n:List UInt8):Lit:= .string n
def nmD (ns:List (List UInt8)):DataW Unit:=setOf (.agg []) (ns.map nmK)
theorem qiJ (ns:List (List UInt8)) (n:List UInt8):nmD (ns++[n])=(nmD ns).put (nmK n) (.agg []):=by
 unfold nmD;rw [List.map_append];exact setOf_snoc _ _ _
theorem qgj (ns:List (List UInt8)) (n:List UInt8):Maps.has (nmD ns) (nmK n)=decide (n∈ns):=by
 unfold nmD;rw [has_setOf _ _ _ (fun x hx=>by
  obtain ⟨y,_,rfl⟩:=List.mem_map.1 hx;trivial)]
 rw [List.any_map,Bool.eq_iff_iff,List.any_eq_true,decide_eq_true_iff];constructor
 ·rintro ⟨x,h1,h2⟩;have:x=n:=by simpa [nmK,Lit.sameKey] using h2
  rw [←this];exact h1
 ·intro h;exact ⟨n,h,by simp [nmK,Lit.sameKey]⟩
theorem qfN:Keyed Tryz.prog 9:=string_keyed Tryz.underlying9
theorem qeX (w:World):(zeroValue 125).run Tryz.prog w = .ok (.agg #[]) w:=by kernel_rfl
def NmS (w:World) (mb n:Nat) (ns:List (List UInt8)):Prop:=w.ownsMap Tryz.prog 9 (unitElem (H:=Unit)) mb n (nmD ns)
def qgu (rb mb:Nat) (vL:Value) (t:Tok) (ns:List (List UInt8)) (n i p:Nat) (w:World) (e:Ending) (w':World):Prop:=
 Fr2 w w' rb mb∧
  ((t.1≠4∧e=qdT t.2.2.2 50)∨(t.1=4∧t.2.2.1∈ns∧e=qdT t.2.2.2 52)∨
   (t.1=4∧t.2.2.1∉ns∧e = .returned (.string (ae t.2.2.1))∧Rdr w' rb vL (i+1) p∧NmS w' mb (n+1) (ns++[t.2.2.1])))
theorem qiz (rb mb:Nat) (vL:Value) (ts:List Tok) (E:Int) (i p n:Nat) (ns:List (List UInt8)) (w:World) (hp:Rdr w rb vL i p) (hr:RdT w rb vL (aM ts E)) (hi:i≤ts.length) (hi2:ts.length≤4611686018427387904)
  (hm:NmS w mb n ns) (hn:n≤4611686018427387904) (hne:mb≠rb) (hrm:rb<mb) (hsl:(tk ts E i).2.2.1.length≤4611686018427387904) :
  Calls Tryz.prog 102 #[.pointer (some ⟨rb,0,none⟩),.map (some mb)] w (qgu rb mb vL (tk ts E i) ns n i p w):=by
 obtain ⟨hlt,c0,c1,c2,fz⟩:=hp.cells;have hr0:=hr;obtain ⟨g,c,rfl,hg,a0,a1,a2,a3⟩:=qaQ hr hi;have k0:(0:Int)≤(i:Int):=by omega
 have k1:(i:Int)<(ts.length:Int)+1:=by omega
 have hn1:w.heap.size≠rb:=by omega
 have hn3:w.heap.size≠g:=by omega
 have HF:=fun y w1 hp1 hr1=>qaL rb (.slice (some ⟨g,0,none⟩) (ts.length+1) c) ts E i p y w1 hp1 hr1 hi;have HT:=fun w1 hp1 hr1=>cW rb (.slice (some ⟨g,0,none⟩) (ts.length+1) c) ts E i p w1 hp1 hr1 hi hi2;have hk1:=Go.WideMaps.keyOf_string_mk (P:=Tryz.prog) (k:=9) Tryz.underlying9 (s:=ae (tk ts E i).2.2.1) (by rw [aF];unfold maxLen;omega);rcases htk:tk ts E i with ⟨x1,x2,x3,x4⟩;rw [htk] at a0 a1 a2 a3 HF HT hsl hk1;unfold qcR at HT;simp only at a0 a1 a2 a3 HF HT hsl hk1;rw [qag] at hk1;clear htk;obtain ⟨X,hX⟩:∃ X,X=ae x3:=⟨_,rfl⟩
 have hX2:=hX;rw [←hX] at a2 HT hk1;have hfd2:∀ w:World,(Instr.field 70 (.agg #[.int .i64 x1,.int .i64 x2,.string X,.int .i64 x4]) 2).run Tryz.prog w = .ok (.string X) w:=fun _=>by kernel_rfl
 have HFF:=zh HF;clear HF;have HTT:=zh HT;clear HT;have HP:=zh hp;clear hp;have HR:=zh hr0;clear hr hr0;have HZ:=zh fz;clear fz;have HM:=zh hm;clear hm;have HX:=zh hX2;clear hX2;have HK:=zh hk1;clear hk1;clear hX;unfold qgu;simp only;by_cases h4:x1=4
 ·have t1:(x1 != 4)=false:=by rw [bne_eq_false_iff_eq];exact h4
  have t2:(x1==4)=true:=by rw [beq_iff_eq];exact h4
  have H4:=zh h4;clear h4;by_cases hin:x3∈ns
  ·have hh:Maps.has (nmD ns) (nmK x3)=true:=by rw [qgj];exact zT hin
   have HIN:=zh hin;clear hin;go_enter Tryz.func102,Tryz.ntmps102;go_wp2_with fail;go_region_held3 (fun w'=>w'.cell? ⟨rb,0,none⟩=some (.slice (some ⟨g,0,none⟩) (ts.length+1) c)∧w'.cell? ⟨rb,1,none⟩=some (.int .i64 i)∧w'.cell? ⟨g,i*4,none⟩=some (.int .i64 x1)∧w'.cell? ⟨g,i*4+1,none⟩=some (.int .i64 x2)∧w'.cell? ⟨g,i*4+2,none⟩=some (.string X)∧w'.cell? ⟨g,i*4+3,none⟩=some (.int .i64 x4)) (go_keep) (fail)
   all_goals
    go_wp2_with (at_lookup;refine wpList_lookup_own_unit _ rfl _ _ 124 rfl 9 125 qfN Tryz.underlying124 (qeX _) mb n (nmD ns) rfl (World.ownsMap.drew (World.ownsMap.alloc HM.out _)) _ _ rfl HK.out ?_;rw [show (Lit.string x3)=nmK x3 from rfl,hh])
    have hb:Below w.heap.size w ((w.alloc (.cells #[.int .i64 x1,.int .i64 x2,.string X,.int .i64 x4] 70)).alloc (.cells #[] 125)).drew:=(((Below.refl _ _).alloc (Nat.le_refl _) _).alloc (by rw [aj];omega) _).drew;refine (HFF.out 52 _ (HP.out.below hb) (aW HR.out (Nat.le_of_lt hlt) (Fr.of rb hb))).mono ?_;rintro e w1 ⟨rfl,hb1⟩;exact ag rfl ⟨Fr2.of_rb mb (Fr.of rb (hb.trans (hb1.mono hb.size))),.inr (.inl ⟨H4.out,HIN.out,rfl⟩)⟩
  ·have hh:Maps.has (nmD ns) (nmK x3)=false:=by rw [qgj];exact zF hin
   have HIN:=zh hin;clear hin;go_enter Tryz.func102,Tryz.ntmps102;go_wp2_with fail;go_region_held3 (fun w'=>w'.cell? ⟨rb,0,none⟩=some (.slice (some ⟨g,0,none⟩) (ts.length+1) c)∧w'.cell? ⟨rb,1,none⟩=some (.int .i64 i)∧w'.cell? ⟨g,i*4,none⟩=some (.int .i64 x1)∧w'.cell? ⟨g,i*4+1,none⟩=some (.int .i64 x2)∧w'.cell? ⟨g,i*4+2,none⟩=some (.string X)∧w'.cell? ⟨g,i*4+3,none⟩=some (.int .i64 x4)) (go_keep) (fail)
   all_goals
    go_wp2_with (first
     | (at_lookup;refine wpList_lookup_own_unit _ rfl _ _ 124 rfl 9 125 qfN Tryz.underlying124 (qeX _) mb n (nmD ns) rfl (World.ownsMap.drew (World.ownsMap.alloc HM.out _)) _ _ rfl HK.out ?_;rw [show (Lit.string x3)=nmK x3 from rfl,hh])
     | (at_mapUpdate;refine wpList_mapUpdate_own _ rfl _ _ _ 124 rfl 9 125 qfN Tryz.underlying124 (unitElem (H:=Unit)) mb n (nmD ns) rfl (World.ownsMap.drew (World.ownsMap.alloc (World.ownsMap.alloc HM.out _) _)) (by unfold maxLen;omega) _ _ _ rfl rfl HK.out _ [] unitElem_mk ?_;intro w1 hown1 hgrow1))
    have hb:Below w.heap.size w ((w.alloc (.cells #[.int .i64 x1,.int .i64 x2,.string X,.int .i64 x4] 70)).alloc (.cells #[] 125)).drew:=(((Below.refl _ _).alloc (Nat.le_refl _) _).alloc (by rw [aj];omega) _).drew;have hlm:mb<w.heap.size:=HM.out.lt;have hp1:Rdr w1 rb (.slice (some ⟨g,0,none⟩) (ts.length+1) c) i p:=(hgrow1.block rb (Nat.lt_of_lt_of_le hlt hb.size) (fun e=>hne (Option.some.inj e).symm)).trans (HP.out.below hb);have hr1:RdT w1 rb (.slice (some ⟨g,0,none⟩) (ts.length+1) c) (aM ts E):=(aW HR.out (Nat.le_of_lt hlt) (Fr.of rb hb)).keep fun q hq=>World.cell?_of_block (hgrow1.block q.block (by have:=hb.size;omega) (fun e=>by have:=Option.some.inj e;omega));refine (HTT.out w1 hp1 hr1).mono ?_;rintro e w2 ⟨rfl,hf2,hp2⟩;go_wp2_with fail;go_ret;refine ⟨Fr2.trans (Fr2.of_rb mb (Fr.of rb hb)) (Fr2.trans (Fr2.of_mb rb hgrow1) (Fr2.of_rb mb hf2)),.inr (.inr ⟨H4.out,HIN.out,by rw [HX.out];rfl,hp2,?_⟩)⟩;unfold NmS;rw [qiJ];exact hown1.kept hf2 (fun e=>hne (Option.some.inj e))
 ·have t1:(x1 != 4)=true:=by rw [bne_iff_ne];exact h4
  have t2:(x1==4)=false:=by rw [beq_eq_false_iff_ne];exact h4
  go_enter Tryz.func102,Tryz.ntmps102;go_wp2_with fail;go_region_held3 (fun w'=>w'.cell? ⟨rb,0,none⟩=some (.slice (some ⟨g,0,none⟩) (ts.length+1) c)∧w'.cell? ⟨rb,1,none⟩=some (.int .i64 i)∧w'.cell? ⟨g,i*4,none⟩=some (.int .i64 x1)∧w'.cell? ⟨g,i*4+1,none⟩=some (.int .i64 x2)∧w'.cell? ⟨g,i*4+2,none⟩=some (.string X)∧w'.cell? ⟨g,i*4+3,none⟩=some (.int .i64 x4)) (go_keep) (fail)
  all_goals
   go_wp2_with fail;have hb:Below w.heap.size w (w.alloc (.cells #[.int .i64 x1,.int .i64 x2,.string X,.int .i64 x4] 70)).drew:=((Below.refl _ _).alloc (Nat.le_refl _) _).drew;refine (HFF.out 50 _ (HP.out.below hb) (aW HR.out (Nat.le_of_lt hlt) (Fr.of rb hb))).mono ?_;rintro e w1 ⟨rfl,hb1⟩;exact ag rfl ⟨Fr2.of_rb mb (Fr.of rb (hb.trans (hb1.mono hb.size))),.inl ⟨h4,rfl⟩⟩
