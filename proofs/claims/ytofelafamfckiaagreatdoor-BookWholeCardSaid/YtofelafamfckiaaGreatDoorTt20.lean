/- Merged: ScA ScD ScE ReC ReD ReE. -/
import Derived.Test.YtofelafamfckiaaGreatDoorTt16
import Derived.Test.YtofelafamfckiaaGreatDoorTt5
import Derived.Deep.RegionLaw
set_option maxRecDepth 100000
set_option maxHeartbeats 2000000
namespace Go.Proofs.YtofelafamfckiaaGreatDoor
namespace Sc
open Go.RowKit Utf
theorem qgp:(Tryz.prog.info? 70).map (fun i=>(i.zero,i.size,i.bytes))=some (some (.agg #[.int .i64 0,.int .i64 0,.string ByteArray.empty,.int .i64 0]),4,40):=by kernel_rfl
theorem qaW {w:World} {base e size n:Nat} {v:Value} {xs:List Value} {b t:Nat} {cs:Array Value} {fr:Nat×Nat} (h:w.ownsRow base e size v n xs) (hb:w.heap[b]? = some (.cells cs t fr)) (ht:t≠e) (p:Addr) (hp:p.block=b) (u:Value) :
  (w.setCell p u).ownsRow base e size v n xs:=by
 obtain ⟨h1,h2⟩:=h;refine ⟨h1,?_⟩;rcases h2 with h2 | ⟨g,cap,cur,hv,hg,hh,r⟩
 ·exact .inl h2
 ·refine .inr ⟨g,cap,cur,hv,hg,?_,r⟩;rw [heap_setCell_other w p g u ?_,hh];rintro rfl;rw [hp,hb] at hh;simp at hh;exact ht hh.2.1
def qik (t:Tok):List Value:=[.int .i64 t.1,.int .i64 t.2.1,.string (ae t.2.2.1),.int .i64 t.2.2.2]
def bG (ts:List Tok):List Value:=(ts.map qik).flatten
theorem qbT (a b:List Tok):bG (a++b)=bG a++bG b:=by simp [bG]
theorem qb5 (t:Tok):bG [t]=qik t:=by simp [bG]
def Scr (B b:Nat) (s:ByteArray) (k:Int) (ts:List Tok) (w:World):Prop:=
 ∃ v,w.heap[b]? = some (.cells #[.string s,.int .i64 k,v] 86 (0,0))∧w.ownsRow B 70 4 v ts.length (bG ts)∧B≤b
theorem cu (c:Int) (w:World):Calls Tryz.prog 98 #[.int .u8 c] w fun e w'=>e = .returned (.bool (qcW c))∧w=w':=by
 go_enter Tryz.func98,Tryz.ntmps98;go_wp2
 all_goals
  go_ret;refine ⟨bM ?_,rfl⟩
  symm
  try simp only [beq_iff_eq,beq_eq_false_iff_ne,ne_eq] at *
  first
   | (rw [qcz];omega)
   | (refine qkz (qcz c) ?_;omega)
theorem bw (B b:Nat) (s:ByteArray) (k:Int) (ts:List Tok) (t1 t2:Int) (t3:ByteArray) (t4 z:Int) (w:World) (h:Scr B b s k ts w) (hr:(ts.length+1)*40≤140737488355328) :
  Calls Tryz.prog 73 #[.pointer (some ⟨b,0,none⟩),.agg #[.int .i64 t1,.int .i64 t2,.string t3,.int .i64 t4],.int .i64 z] w fun e w'=>
   e = .returned (.tuple #[.int .i64 0,.int .i64 0])∧Scr B b s z (ts++[(t1,t2,t3.data.toList,k)]) w'∧Below B w w':=by
 obtain ⟨v,hb,hown,hBb⟩:=h;obtain ⟨i0,hi,hz0,hz1,hz2⟩:=info_parts qgp;have hlt:b<w.heap.size:=(Array.getElem?_eq_some_iff.1 hb).1;have c1:w.cell? ⟨b,1,none⟩=some (.int .i64 k):=by rw [cell_of_row w b 1 _ _ _ hb];rfl
 have c2:w.cell? ⟨b,2,none⟩=some v:=by rw [cell_of_row w b 2 _ _ _ hb];rfl
 have f1:w.frozen? ⟨b,1,none⟩=false:=frozen_of_row w b 1 _ _ hb;have f2:w.frozen? ⟨b,2,none⟩=false:=frozen_of_row w b 2 _ _ hb;have hne:some b≠v.ownBlock:=by
  intro e;rcases hown.2 with ⟨rfl,_⟩ | ⟨g,cap,cur,rfl,_,hg,_⟩
  ·cases e
  ·have e2:b=g:=by simpa [Value.ownBlock] using e
   subst e2;rw [hb] at hg;simp at hg
 have F:∀ w1:World,(((w.alloc (.cells #[.int .i64 t1,.int .i64 t2,.string t3,.int .i64 k] 70)).alloc (.cells #[.int .i64 t1,.int .i64 t2,.string t3,.int .i64 k] 70)).drew).grownBy w1 v.ownBlock→w1.heap[b]? = some (.cells #[.string s,.int .i64 k,v] 86 (0,0)):=by
  intro w1 hg;rw [hg.block b (by simp;omega) hne];show (((w.alloc _).alloc _).heap)[b]? = _;rw [heap_alloc_old _ _ (by simp;omega),heap_alloc_old _ _ hlt,hb]
 have HN:(((w.alloc (.cells #[.int .i64 t1,.int .i64 t2,.string t3,.int .i64 k] 70)).alloc (.cells #[.int .i64 t1,.int .i64 t2,.string t3,.int .i64 k] 70)).drew).heap[w.heap.size+1]? = some (.cells #[.int .i64 t1,.int .i64 t2,.string t3,.int .i64 k] 70 (0,0)):=by
  have:=heap_alloc_new (w.alloc (.cells #[.int .i64 t1,.int .i64 t2,.string t3,.int .i64 k] 70)) (.cells #[.int .i64 t1,.int .i64 t2,.string t3,.int .i64 k] 70);rw [show (w.alloc (.cells #[.int .i64 t1,.int .i64 t2,.string t3,.int .i64 k] 70)).heap.size=w.heap.size+1 by simp] at this;exact this
 go_enter Tryz.func73,Tryz.ntmps73;go_wp2_with fail;go_region_law
  (refine step_append_lies _ (by rfl) _ _ _ (by rfl) B 70 i0 _ 4 40 Tryz.underlying64 hi hz0 hz1 hz2 (by rfl) (by omega) v ts.length (bG ts) (by rfl) (((hown.alloc _).alloc _).drew) ⟨w.heap.size+1,0,none⟩ 1 1 [.int .i64 t1,.int .i64 t2,.string t3,.int .i64 k] (by rfl) (by rfl) (World.news_of_block (cs:= #[.int .i64 t1,.int .i64 t2,.string t3,.int .i64 k]) (t:=70) (fr:=(0,0)) HN) (by simp [Value.oneCell']) (by omega) (by unfold maxLen;omega) (by omega) (by simp;omega) (w.heap.size+2) (by simp) ?_;intro g cap w1 hown1 hg1 hat hlt1;have x0:=F w1 hg1;have x1:w1.cell? ⟨b,2,none⟩=some v:=(cell_of_row w1 b 2 _ _ _ x0).trans rfl;have x2:w1.frozen? ⟨b,2,none⟩=false:=frozen_of_row w1 b 2 _ _ x0;have x3:w1.cell? ⟨b,1,none⟩=some (.int .i64 k):=(cell_of_row w1 b 1 _ _ _ x0).trans rfl;have x4:w1.frozen? ⟨b,1,none⟩=false:=frozen_of_row w1 b 1 _ _ x0)
 all_goals
  go_wp2;go_ret2
  have x5:=heap_setCell_same w1 b 2 _ _ (.slice (some ⟨g,0,none⟩) (ts.length+1) cap) x0;have x6:=heap_setCell_same _ b 1 _ _ (.int .i64 z) x5;refine ⟨rfl,⟨_,x6,?_,hBb⟩,?_⟩
  ·have h2:=qaW (qaW hown1 x0 (by decide) ⟨b,2,none⟩ rfl (.slice (some ⟨g,0,none⟩) (ts.length+1) cap)) x5 (by decide) ⟨b,1,none⟩ rfl (.int .i64 z);rw [qbT,qb5,List.length_append];exact h2
  ·exact ((((((Below.refl B w).alloc (by omega) _).alloc (by simp;omega) _).drew).grown hg1 (by simp;omega) (fun k hk=>(hown.lt k hk).1)).setCell hBb _).setCell hBb _
theorem Scr.keep {B b:Nat} {s:ByteArray} {k:Int} {ts:List Tok} {w w':World} (h:Scr B b s k ts w) (hb:Below w.heap.size w w'):Scr B b s k ts w':=by
 obtain ⟨v,h1,h2,h3⟩:=h;exact ⟨v,(hb.block b (Array.getElem?_eq_some_iff.1 h1).1).trans h1,aQ h2 hb,h3⟩
theorem Scr.cells {B b:Nat} {s:ByteArray} {k:Int} {ts:List Tok} {w:World} (h:Scr B b s k ts w) :
  b<w.heap.size∧w.cell? ⟨b,0,none⟩=some (.string s)∧w.cell? ⟨b,1,none⟩=some (.int .i64 k)∧w.frozen? ⟨b,1,none⟩=false:=by
 obtain ⟨v,h1,_,_⟩:=h;exact ⟨(Array.getElem?_eq_some_iff.1 h1).1,by rw [cell_of_row w b 0 _ _ _ h1];rfl,by rw [cell_of_row w b 1 _ _ _ h1];rfl,frozen_of_row w b 1 _ _ h1⟩
def bH (B b:Nat) (s:ByteArray) (ts:List Tok) (r:Option Tok×Int×Int) (w:World) (e:Ending) (w':World):Prop:=
 Below B w w'∧((r.2.2=0∧e = .returned (.tuple #[.int .i64 0,.int .i64 0])∧Scr B b s r.2.1 (ts++r.1.toList) w')∨(r.2.2≠0∧e = .returned (.tuple #[.int .i64 r.2.1,.int .i64 r.2.2])))
theorem qkF (x y:ByteArray) (w:World) :
  Calls Tryz.prog 113 #[.string x,.string y] w fun e w'=>e = .returned (.bool (decide (x.data.toList.take y.size=y.data.toList)))∧w=w':=by
 by_cases h:y.size≤x.size
 ·have hd:decide ((y.size:Int)≤(x.size:Int))=true:=zT (by omega);have hd':decide (y.size≤x.size)=true:=zT h;have he:(x.extract 0 y.size).toList=x.data.toList.take y.size:=by rw [ByteArray.toList_eq,ByteArray.data_extract];simp
  go_enter Tryz.func113,Tryz.ntmps113;go_wp2_with fail;go_ret;exact ⟨bM (by rw [ByteArray.toList_eq,Bool.eq_iff_iff];simp),rfl⟩
 ·have hd:decide ((y.size:Int)≤(x.size:Int))=false:=zF (by omega);have hd':decide (y.size≤x.size)=false:=zF h;have hn:¬x.data.toList.take y.size=y.data.toList:=by
   intro e;have:=congrArg List.length e;rw [List.length_take,af,af] at this;omega
  go_enter Tryz.func113,Tryz.ntmps113;go_wp2_with fail;go_ret;exact ⟨bM (zF hn).symm,rfl⟩
theorem qfR (x y:ByteArray) (w:World) :
  Calls Tryz.prog 97 #[.string x,.string y] w fun e w'=>e = .returned (.bool (decide (x.data.toList.take y.size=y.data.toList)))∧w=w':=by
 go_enter Tryz.func97,Tryz.ntmps97;go_wp2_with fail;refine (qkF x y _).mono ?_;rintro e w' ⟨rfl,rfl⟩;go_wp2_with fail;go_ret;exact ⟨rfl,rfl⟩
theorem qh7 (B b:Nat) (s:ByteArray) (k:Nat) (ts:List Tok) (w:World) (h:Scr B b s k ts w) (hB:B≤w.heap.size) (hr:(ts.length+1)*40≤140737488355328) (hs:s.size≤65536) :
  Calls Tryz.prog 74 #[.pointer (some ⟨b,0,none⟩)] w (bH B b s ts (txT s.data.toList k) w):=by
 obtain ⟨hlt,c0,c1,_⟩:=h.cells;have HL:=fun w1 (hw:Below w.heap.size w w1) t n=>bw B b s k ts 4 0 (ae t) 0 n w1 (h.keep hw) hr;have HS:=zh h;clear h;rcases hR:Ch.bj s.data.toList k with ⟨t,n,er⟩;have hr':=Ch.qji s k;rw [hR] at hr';have HR:=zh hr';clear hr';unfold txT;rw [hR];clear hR;simp only;by_cases he:er=0
 ·subst he;rw [if_pos rfl];go_enter Tryz.func74,Tryz.ntmps74;go_wp2_with fail;go_region_held3 (fun w'=>w'.cell? ⟨b,0,none⟩=some (.string s)∧w'.cell? ⟨b,1,none⟩=some (.int .i64 k))
   (first | go_keep | exact ⟨(hb1.cell (p:=⟨b,0,none⟩) hlt).trans c0,(hb1.cell (p:=⟨b,1,none⟩) hlt).trans c1⟩)
   ((go_at_call 95;refine (HR.out _ (by omega)).mono ?_;rintro e w1 ⟨rfl,hb1⟩))
  have hb2:Below w.heap.size w w1:=((Below.refl _ w).drew).trans hb1;go_wp2_with fail;refine (HL w1 hb2 t n).mono ?_;rintro e w2 ⟨rfl,hs2,hb3⟩;go_wp2_with fail;go_ret2
  exact ⟨(hb2.mono hB).trans hb3,.inl ⟨rfl,rfl,hs2⟩⟩
 ·rw [if_neg he];have hd:(er != 0)=true:=by rw [bne_iff_ne];exact he
  go_enter Tryz.func74,Tryz.ntmps74;go_wp2_with fail;go_region_held3 (fun w'=>w'.cell? ⟨b,0,none⟩=some (.string s)∧w'.cell? ⟨b,1,none⟩=some (.int .i64 k))
   (first | go_keep | exact ⟨(hb1.cell (p:=⟨b,0,none⟩) hlt).trans c0,(hb1.cell (p:=⟨b,1,none⟩) hlt).trans c1⟩)
   ((go_at_call 95;refine (HR.out _ (by omega)).mono ?_;rintro e w1 ⟨rfl,hb1⟩))
  have hb2:Below w.heap.size w w1:=((Below.refl _ w).drew).trans hb1;go_wp2_with fail;go_ret2
  exact ⟨hb2.mono hB,.inr ⟨he,rfl⟩⟩
theorem qga (B b:Nat) (s:ByteArray) (k:Nat) (ts:List Tok) (w:World) (h:Scr B b s k ts w) (hB:B≤w.heap.size) (hr:(ts.length+1)*40≤140737488355328) (hs:s.size≤65536) :
  Calls Tryz.prog 75 #[.pointer (some ⟨b,0,none⟩)] w (bH B b s ts (nmT s.data.toList k) w):=by
 obtain ⟨hlt,c0,c1,_⟩:=h.cells;have HL:=fun w1 (hw:Below w.heap.size w w1) t n=>bw B b s k ts 3 t ByteArray.empty 0 n w1 (h.keep hw) hr;have HS:=zh h;clear h;rcases hR:Nu.rdS s.data.toList k with ⟨t,n,er⟩;have hr':=Nu.qcv s k;rw [hR] at hr';have HR:=zh hr';clear hr';unfold nmT;rw [hR];clear hR;simp only;by_cases he:er=0
 ·subst he;rw [if_pos rfl];go_enter Tryz.func75,Tryz.ntmps75;go_wp2_with fail;go_region_held3 (fun w'=>w'.cell? ⟨b,0,none⟩=some (.string s)∧w'.cell? ⟨b,1,none⟩=some (.int .i64 k))
   (go_keep)
   ((go_at_call 96;refine (HR.out _ (by omega)).mono ?_;rintro e w1 ⟨rfl,rfl⟩))
  have hb2:Below w.heap.size w w.drew:=(Below.refl _ w).drew;go_wp2_with fail;refine (HL _ hb2 t n).mono ?_;rintro e w2 ⟨rfl,hs2,hb3⟩;go_wp2_with fail;go_ret2
  exact ⟨(hb2.mono hB).trans hb3,.inl ⟨rfl,rfl,hs2⟩⟩
 ·rw [if_neg he];have hd:(er != 0)=true:=by rw [bne_iff_ne];exact he
  go_enter Tryz.func75,Tryz.ntmps75;go_wp2_with fail;go_region_held3 (fun w'=>w'.cell? ⟨b,0,none⟩=some (.string s)∧w'.cell? ⟨b,1,none⟩=some (.int .i64 k))
   (go_keep)
   ((go_at_call 96;refine (HR.out _ (by omega)).mono ?_;rintro e w1 ⟨rfl,rfl⟩))
  have hb2:Below w.heap.size w w.drew:=(Below.refl _ w).drew;go_wp2_with fail;go_ret2
  exact ⟨hb2.mono hB,.inr ⟨he,rfl⟩⟩
theorem qc9 (B b:Nat) (s y:ByteArray) (k:Nat) (ts:List Tok) (w:World) (h:Scr B b s k ts w) (hB:B≤w.heap.size) (hr:(ts.length+1)*40≤140737488355328) (hs:s.size≤65536) (hk:k<s.size) (hy:y.size≤10) :
  Calls Tryz.prog 76 #[.pointer (some ⟨b,0,none⟩),.string y] w (bH B b s ts (wrd s.data.toList k y.data.toList) w):=by
 obtain ⟨hlt,c0,c1,_⟩:=h.cells;have HL:=fun w1 (hw:Below w.heap.size w w1) n=>bw B b s k ts 2 0 y 0 n w1 (h.keep hw) hr;have HS:=zh h;clear h;have hP:=fun w=>qfR (s.extract k s.size) y w;have e1:(s.extract k s.size).data.toList=s.data.toList.drop k:=by
  rw [ByteArray.data_extract,Array.toList_extract];show List.extract _ _ _=_;rw [List.extract_eq_take_drop,List.take_of_length_le (by rw [List.length_drop,af];omega)]
 rw [e1] at hP;clear e1;have hsl:(k:Int)≤(s.size:Int):=by omega
 have yes:qdV s.data.toList k y.data.toList→wrd s.data.toList k y.data.toList=(some (2,0,y.data.toList,(k:Int)),(k:Int)+(y.size:Int),0):=fun h=>by
  unfold wrd;rw [if_pos h,af];rfl
 have no:¬qdV s.data.toList k y.data.toList→wrd s.data.toList k y.data.toList=(none,(k:Int),40):=fun h=>by unfold wrd;rw [if_neg h]
 by_cases hp:(s.data.toList.drop k).take y.size=y.data.toList
 ·rw [zT hp] at hP;have HP:=zh hP;clear hP;have hle:k+y.size≤s.size:=by
   have:=congrArg List.length hp;rw [List.length_take,List.length_drop,af,af] at this;omega
  by_cases hlt2:k+y.size<s.size
  ·have g:=aY s (k+y.size) hlt2;have f:((k:Int)+(y.size:Int)).toNat=k+y.size:=by omega
   have f0:(0:Int)≤(k:Int)+(y.size:Int):=by omega
   have f1:(k:Int)+(y.size:Int)<(s.size:Int):=by omega
   have d1:decide ((k:Int)+(y.size:Int)<(s.size:Int))=true:=zT (by omega);by_cases hpt:qcW (byt s.data.toList (k+y.size))=false
   ·rw [yes ⟨hp,hpt⟩];clear hp yes no;rw [g] at hpt;clear g;go_enter Tryz.func76,Tryz.ntmps76;go_wp2_with fail;go_quiet (first | (go_at_call 97;refine Calls.quiet_of_same ((HP.out _).mono fun e w' h=>⟨h.1,h.2.symm⟩)) | (go_at_call 98;refine Calls.quiet_of_same ((cu _ _).mono fun e w' h=>⟨h.1,h.2.symm⟩)))
    have hb2:Below w.heap.size w (w.drewN nq):=below_drewN (Below.refl _ w) nq;go_wp2_with fail;refine (HL _ hb2 _).mono ?_;rintro e w2 ⟨rfl,hs2,hb3⟩;go_wp2_with fail;go_ret2
    exact ⟨(hb2.mono hB).trans hb3,.inl ⟨rfl,rfl,hs2⟩⟩
   ·rw [no (fun h=>hpt h.2)];have hpt:=(Bool.not_eq_false _).mp hpt;clear hp yes no;rw [g] at hpt;clear g;go_enter Tryz.func76,Tryz.ntmps76;go_wp2_with fail;go_quiet (first | (go_at_call 97;refine Calls.quiet_of_same ((HP.out _).mono fun e w' h=>⟨h.1,h.2.symm⟩)) | (go_at_call 98;refine Calls.quiet_of_same ((cu _ _).mono fun e w' h=>⟨h.1,h.2.symm⟩)))
    have hb2:Below w.heap.size w (w.drewN nq):=below_drewN (Below.refl _ w) nq;go_wp2_with fail;go_ret2
    exact ⟨hb2.mono hB,.inr ⟨by show (40:Int)≠0;decide,rfl⟩⟩
  ·have d1:decide ((k:Int)+(y.size:Int)<(s.size:Int))=false:=zF (by omega)
   ·rw [yes ⟨hp,by rw [Nu.qbw (by rw [af,af];omega)];rfl⟩];clear hp yes no;go_enter Tryz.func76,Tryz.ntmps76;go_wp2_with fail;go_quiet (first | (go_at_call 97;refine Calls.quiet_of_same ((HP.out _).mono fun e w' h=>⟨h.1,h.2.symm⟩)) | (go_at_call 98;refine Calls.quiet_of_same ((cu _ _).mono fun e w' h=>⟨h.1,h.2.symm⟩)))
    have hb2:Below w.heap.size w (w.drewN nq):=below_drewN (Below.refl _ w) nq;go_wp2_with fail;refine (HL _ hb2 _).mono ?_;rintro e w2 ⟨rfl,hs2,hb3⟩;go_wp2_with fail;go_ret2
    exact ⟨(hb2.mono hB).trans hb3,.inl ⟨rfl,rfl,hs2⟩⟩
 ·rw [zF hp] at hP;have HP:=zh hP;clear hP
  ·rw [no (fun h=>hp h.1)]
   ·clear hp yes no;go_enter Tryz.func76,Tryz.ntmps76;go_wp2_with fail;go_quiet (first | (go_at_call 97;refine Calls.quiet_of_same ((HP.out _).mono fun e w' h=>⟨h.1,h.2.symm⟩)) | (go_at_call 98;refine Calls.quiet_of_same ((cu _ _).mono fun e w' h=>⟨h.1,h.2.symm⟩)))
    have hb2:Below w.heap.size w (w.drewN nq):=below_drewN (Below.refl _ w) nq;go_wp2_with fail;go_ret2
    exact ⟨hb2.mono hB,.inr ⟨by show (40:Int)≠0;decide,rfl⟩⟩
theorem Scr.move {B b:Nat} {s:ByteArray} {k:Int} {ts:List Tok} {w:World} (h:Scr B b s k ts w) (z:Int):Scr B b s z ts (w.setCell ⟨b,1,none⟩ (.int .i64 z)):=by
 obtain ⟨v,h1,h2,h3⟩:=h;exact ⟨v,heap_setCell_same w b 1 _ _ (.int .i64 z) h1,qaW h2 h1 (by decide) ⟨b,1,none⟩ rfl _,h3⟩
theorem Scr.below {B b:Nat} {s:ByteArray} {k:Int} {ts:List Tok} {w:World} (h:Scr B b s k ts w):B≤b:=by
 obtain ⟨_,_,_,h⟩:=h;exact h
theorem qa1 {s:ByteArray} {k:Nat} {v:UInt8} (hk:k<s.size) (h:(s[k].toNat:Int)=(v.toNat:Int)):s.data.toList.getD k 0=v:=by
 have:=aY s k hk;unfold byt at this;rw [h] at this;have h2:(s.data.toList.getD k 0).toNat=v.toNat:=by omega
 exact UInt8.toNat_inj.1 h2
theorem qlP (B b:Nat) (s:ByteArray) (k:Nat) (ts:List Tok) (w:World) (h:Scr B b s k ts w) (hB:B≤w.heap.size) (hs:s.size≤65536) (hk:k<s.size)
  (hc:(s[k].toNat:Int)=32∨(s[k].toNat:Int)=9∨(s[k].toNat:Int)=10∨(s[k].toNat:Int)=13) :
  Calls Tryz.prog 50 #[.pointer (some ⟨b,0,none⟩)] w (bH B b s ts (none,(k:Int)+1,0) w):=by
 obtain ⟨hlt,c0,c1,f1⟩:=h.cells;have k0:(0:Int)≤(k:Int):=by omega
 have k1:(k:Int)<(s.size:Int):=by omega
 rcases hc with hc | hc | hc | hc
 all_goals
  go_enter Tryz.func50,Tryz.ntmps50;go_wp2_with fail;go_quiet (fail)
  have hb2:Below w.heap.size w (w.drewN nq):=below_drewN (Below.refl _ w) nq;go_wp2_with fail;go_ret2
  refine ⟨(hb2.mono hB).setCell h.below _,.inl ⟨rfl,rfl,?_⟩⟩;rw [show (ts++((none,(k:Int)+1,0):Option Tok×Int×Int).1.toList)=ts from List.append_nil _];exact (h.keep hb2).move _
theorem qi2 (B b:Nat) (s:ByteArray) (k:Nat) (ts:List Tok) (w:World) (h:Scr B b s k ts w) (hB:B≤w.heap.size) (hr:(ts.length+1)*40≤140737488355328) (hs:s.size≤65536) (hk:k<s.size)
  (hc:(s[k].toNat:Int)=123) :
  Calls Tryz.prog 50 #[.pointer (some ⟨b,0,none⟩)] w (bH B b s ts (some (1,0,[s.data.toList.getD k 0],(k:Int)),(k:Int)+1,0) w):=by
 obtain ⟨hlt,c0,c1,f1⟩:=h.cells;have k0:(0:Int)≤(k:Int):=by omega
 have k1:(k:Int)<(s.size:Int):=by omega
 have hE:(Utf8.encode 123).data.toList=[s.data.toList.getD k 0]:=by
  rw [qa1 (v:=123) hk hc]
  decide +kernel
 have HL:=fun n (hw:Below w.heap.size w (w.drewN n))=>bw B b s k ts 1 0 (Utf8.encode 123) 0 ((k:Int)+1) (w.drewN n) (h.keep hw) hr;rw [hE] at HL;clear hE;go_enter Tryz.func50,Tryz.ntmps50;go_wp2_with fail;go_quiet (fail)
 have hb2:Below w.heap.size w (w.drewN nq):=below_drewN (Below.refl _ w) nq;go_wp2_with fail;refine (HL nq hb2).mono ?_;rintro e w2 ⟨rfl,hs2,hb3⟩;go_wp2_with fail;go_ret2
 exact ⟨(hb2.mono hB).trans hb3,.inl ⟨rfl,rfl,hs2⟩⟩
theorem qiB (B b:Nat) (s:ByteArray) (k:Nat) (ts:List Tok) (w:World) (h:Scr B b s k ts w) (hB:B≤w.heap.size) (hr:(ts.length+1)*40≤140737488355328) (hs:s.size≤65536) (hk:k<s.size)
  (hc:(s[k].toNat:Int)=125) :
  Calls Tryz.prog 50 #[.pointer (some ⟨b,0,none⟩)] w (bH B b s ts (some (1,0,[s.data.toList.getD k 0],(k:Int)),(k:Int)+1,0) w):=by
 obtain ⟨hlt,c0,c1,f1⟩:=h.cells;have k0:(0:Int)≤(k:Int):=by omega
 have k1:(k:Int)<(s.size:Int):=by omega
 have hE:(Utf8.encode 125).data.toList=[s.data.toList.getD k 0]:=by
  rw [qa1 (v:=125) hk hc]
  decide +kernel
 have HL:=fun n (hw:Below w.heap.size w (w.drewN n))=>bw B b s k ts 1 0 (Utf8.encode 125) 0 ((k:Int)+1) (w.drewN n) (h.keep hw) hr;rw [hE] at HL;clear hE;go_enter Tryz.func50,Tryz.ntmps50;go_wp2_with fail;go_quiet (fail)
 have hb2:Below w.heap.size w (w.drewN nq):=below_drewN (Below.refl _ w) nq;go_wp2_with fail;refine (HL nq hb2).mono ?_;rintro e w2 ⟨rfl,hs2,hb3⟩;go_wp2_with fail;go_ret2
 exact ⟨(hb2.mono hB).trans hb3,.inl ⟨rfl,rfl,hs2⟩⟩
theorem qka (B b:Nat) (s:ByteArray) (k:Nat) (ts:List Tok) (w:World) (h:Scr B b s k ts w) (hB:B≤w.heap.size) (hr:(ts.length+1)*40≤140737488355328) (hs:s.size≤65536) (hk:k<s.size)
  (hc:(s[k].toNat:Int)=91) :
  Calls Tryz.prog 50 #[.pointer (some ⟨b,0,none⟩)] w (bH B b s ts (some (1,0,[s.data.toList.getD k 0],(k:Int)),(k:Int)+1,0) w):=by
 obtain ⟨hlt,c0,c1,f1⟩:=h.cells;have k0:(0:Int)≤(k:Int):=by omega
 have k1:(k:Int)<(s.size:Int):=by omega
 have hE:(Utf8.encode 91).data.toList=[s.data.toList.getD k 0]:=by
  rw [qa1 (v:=91) hk hc]
  decide +kernel
 have HL:=fun n (hw:Below w.heap.size w (w.drewN n))=>bw B b s k ts 1 0 (Utf8.encode 91) 0 ((k:Int)+1) (w.drewN n) (h.keep hw) hr;rw [hE] at HL;clear hE;go_enter Tryz.func50,Tryz.ntmps50;go_wp2_with fail;go_quiet (fail)
 have hb2:Below w.heap.size w (w.drewN nq):=below_drewN (Below.refl _ w) nq;go_wp2_with fail;refine (HL nq hb2).mono ?_;rintro e w2 ⟨rfl,hs2,hb3⟩;go_wp2_with fail;go_ret2
 exact ⟨(hb2.mono hB).trans hb3,.inl ⟨rfl,rfl,hs2⟩⟩
theorem qkh (B b:Nat) (s:ByteArray) (k:Nat) (ts:List Tok) (w:World) (h:Scr B b s k ts w) (hB:B≤w.heap.size) (hr:(ts.length+1)*40≤140737488355328) (hs:s.size≤65536) (hk:k<s.size)
  (hc:(s[k].toNat:Int)=93) :
  Calls Tryz.prog 50 #[.pointer (some ⟨b,0,none⟩)] w (bH B b s ts (some (1,0,[s.data.toList.getD k 0],(k:Int)),(k:Int)+1,0) w):=by
 obtain ⟨hlt,c0,c1,f1⟩:=h.cells;have k0:(0:Int)≤(k:Int):=by omega
 have k1:(k:Int)<(s.size:Int):=by omega
 have hE:(Utf8.encode 93).data.toList=[s.data.toList.getD k 0]:=by
  rw [qa1 (v:=93) hk hc]
  decide +kernel
 have HL:=fun n (hw:Below w.heap.size w (w.drewN n))=>bw B b s k ts 1 0 (Utf8.encode 93) 0 ((k:Int)+1) (w.drewN n) (h.keep hw) hr;rw [hE] at HL;clear hE;go_enter Tryz.func50,Tryz.ntmps50;go_wp2_with fail;go_quiet (fail)
 have hb2:Below w.heap.size w (w.drewN nq):=below_drewN (Below.refl _ w) nq;go_wp2_with fail;refine (HL nq hb2).mono ?_;rintro e w2 ⟨rfl,hs2,hb3⟩;go_wp2_with fail;go_ret2
 exact ⟨(hb2.mono hB).trans hb3,.inl ⟨rfl,rfl,hs2⟩⟩
theorem qkr (B b:Nat) (s:ByteArray) (k:Nat) (ts:List Tok) (w:World) (h:Scr B b s k ts w) (hB:B≤w.heap.size) (hr:(ts.length+1)*40≤140737488355328) (hs:s.size≤65536) (hk:k<s.size)
  (hc:(s[k].toNat:Int)=58) :
  Calls Tryz.prog 50 #[.pointer (some ⟨b,0,none⟩)] w (bH B b s ts (some (1,0,[s.data.toList.getD k 0],(k:Int)),(k:Int)+1,0) w):=by
 obtain ⟨hlt,c0,c1,f1⟩:=h.cells;have k0:(0:Int)≤(k:Int):=by omega
 have k1:(k:Int)<(s.size:Int):=by omega
 have hE:(Utf8.encode 58).data.toList=[s.data.toList.getD k 0]:=by
  rw [qa1 (v:=58) hk hc]
  decide +kernel
 have HL:=fun n (hw:Below w.heap.size w (w.drewN n))=>bw B b s k ts 1 0 (Utf8.encode 58) 0 ((k:Int)+1) (w.drewN n) (h.keep hw) hr;rw [hE] at HL;clear hE;go_enter Tryz.func50,Tryz.ntmps50;go_wp2_with fail;go_quiet (fail)
 have hb2:Below w.heap.size w (w.drewN nq):=below_drewN (Below.refl _ w) nq;go_wp2_with fail;refine (HL nq hb2).mono ?_;rintro e w2 ⟨rfl,hs2,hb3⟩;go_wp2_with fail;go_ret2
 exact ⟨(hb2.mono hB).trans hb3,.inl ⟨rfl,rfl,hs2⟩⟩
theorem qkB (B b:Nat) (s:ByteArray) (k:Nat) (ts:List Tok) (w:World) (h:Scr B b s k ts w) (hB:B≤w.heap.size) (hr:(ts.length+1)*40≤140737488355328) (hs:s.size≤65536) (hk:k<s.size)
  (hc:(s[k].toNat:Int)=44) :
  Calls Tryz.prog 50 #[.pointer (some ⟨b,0,none⟩)] w (bH B b s ts (some (1,0,[s.data.toList.getD k 0],(k:Int)),(k:Int)+1,0) w):=by
 obtain ⟨hlt,c0,c1,f1⟩:=h.cells;have k0:(0:Int)≤(k:Int):=by omega
 have k1:(k:Int)<(s.size:Int):=by omega
 have hE:(Utf8.encode 44).data.toList=[s.data.toList.getD k 0]:=by
  rw [qa1 (v:=44) hk hc]
  decide +kernel
 have HL:=fun n (hw:Below w.heap.size w (w.drewN n))=>bw B b s k ts 1 0 (Utf8.encode 44) 0 ((k:Int)+1) (w.drewN n) (h.keep hw) hr;rw [hE] at HL;clear hE;go_enter Tryz.func50,Tryz.ntmps50;go_wp2_with fail;go_quiet (fail)
 have hb2:Below w.heap.size w (w.drewN nq):=below_drewN (Below.refl _ w) nq;go_wp2_with fail;refine (HL nq hb2).mono ?_;rintro e w2 ⟨rfl,hs2,hb3⟩;go_wp2_with fail;go_ret2
 exact ⟨(hb2.mono hB).trans hb3,.inl ⟨rfl,rfl,hs2⟩⟩
theorem qlI (B b:Nat) (s:ByteArray) (k:Nat) (ts:List Tok) (w:World) (h:Scr B b s k ts w) (hB:B≤w.heap.size) (hr:(ts.length+1)*40≤140737488355328) (hs:s.size≤65536) (hk:k<s.size)
  (hc:(s[k].toNat:Int)=34) :
  Calls Tryz.prog 50 #[.pointer (some ⟨b,0,none⟩)] w (bH B b s ts (txT s.data.toList k) w):=by
 obtain ⟨hlt,c0,c1,f1⟩:=h.cells;have k0:(0:Int)≤(k:Int):=by omega
 have k1:(k:Int)<(s.size:Int):=by omega
 have HC:=fun n (hw:Below w.heap.size w (w.drewN n))=>qh7 B b s k ts (w.drewN n) (h.keep hw) (by have:=hw.size;omega) hr hs;generalize txT s.data.toList k=r at *;obtain ⟨o,z,er⟩:=r;go_enter Tryz.func50,Tryz.ntmps50;go_wp2_with fail;go_quiet (fail)
 have hb2:Below w.heap.size w (w.drewN nq):=below_drewN (Below.refl _ w) nq;go_wp2_with fail;refine (HC nq hb2).mono ?_;rintro e w2 ⟨hb3,⟨he,rfl,hs2⟩ | ⟨he,rfl⟩⟩
 ·go_wp2_with fail;go_ret2
  exact ⟨(hb2.mono hB).trans hb3,.inl ⟨he,rfl,hs2⟩⟩
 ·go_wp2_with fail;go_ret2
  exact ⟨(hb2.mono hB).trans hb3,.inr ⟨he,rfl⟩⟩
theorem qlD (B b:Nat) (s:ByteArray) (k:Nat) (ts:List Tok) (w:World) (h:Scr B b s k ts w) (hB:B≤w.heap.size) (hr:(ts.length+1)*40≤140737488355328) (hs:s.size≤65536) (hk:k<s.size)
  (hc:(s[k].toNat:Int)=45∨(s[k].toNat:Int)=48∨(s[k].toNat:Int)=49∨(s[k].toNat:Int)=50∨(s[k].toNat:Int)=51∨(s[k].toNat:Int)=52∨(s[k].toNat:Int)=53∨(s[k].toNat:Int)=54∨(s[k].toNat:Int)=55∨(s[k].toNat:Int)=56∨(s[k].toNat:Int)=57) :
  Calls Tryz.prog 50 #[.pointer (some ⟨b,0,none⟩)] w (bH B b s ts (nmT s.data.toList k) w):=by
 obtain ⟨hlt,c0,c1,f1⟩:=h.cells;have k0:(0:Int)≤(k:Int):=by omega
 have k1:(k:Int)<(s.size:Int):=by omega
 have HC:=fun n (hw:Below w.heap.size w (w.drewN n))=>qga B b s k ts (w.drewN n) (h.keep hw) (by have:=hw.size;omega) hr hs;generalize nmT s.data.toList k=r at *;obtain ⟨o,z,er⟩:=r;rcases hc with hc | hc | hc | hc | hc | hc | hc | hc | hc | hc | hc
 all_goals
  go_enter Tryz.func50,Tryz.ntmps50;go_wp2_with fail;go_quiet (fail)
  have hb2:Below w.heap.size w (w.drewN nq):=below_drewN (Below.refl _ w) nq;go_wp2_with fail;refine (HC nq hb2).mono ?_;rintro e w2 ⟨hb3,⟨he,rfl,hs2⟩ | ⟨he,rfl⟩⟩
  ·go_wp2_with fail;go_ret2
   exact ⟨(hb2.mono hB).trans hb3,.inl ⟨he,rfl,hs2⟩⟩
  ·go_wp2_with fail;go_ret2
   exact ⟨(hb2.mono hB).trans hb3,.inr ⟨he,rfl⟩⟩
theorem qfO (B b:Nat) (s:ByteArray) (k:Nat) (ts:List Tok) (w:World) (h:Scr B b s k ts w) (hB:B≤w.heap.size) (hr:(ts.length+1)*40≤140737488355328) (hs:s.size≤65536) (hk:k<s.size)
  (hc:(s[k].toNat:Int)=116) :
  Calls Tryz.prog 50 #[.pointer (some ⟨b,0,none⟩)] w (bH B b s ts (wrd s.data.toList k bS) w):=by
 obtain ⟨hlt,c0,c1,f1⟩:=h.cells;have k0:(0:Int)≤(k:Int):=by omega
 have k1:(k:Int)<(s.size:Int):=by omega
 have HC:∀ n,Below w.heap.size w (w.drewN n)→Calls Tryz.prog 76 #[.pointer (some ⟨b,0,none⟩),.string ⟨#[116,114,117,101]⟩] (w.drewN n) (bH B b s ts (wrd s.data.toList k bS) (w.drewN n)):=fun n (hw:Below w.heap.size w (w.drewN n))=>qc9 B b s ⟨#[116,114,117,101]⟩ k ts (w.drewN n) (h.keep hw) (by have:=hw.size;omega) hr hs hk (by decide);generalize wrd s.data.toList k bS=r at *;obtain ⟨o,z,er⟩:=r;go_enter Tryz.func50,Tryz.ntmps50;go_wp2_with fail;go_quiet (fail)
 have hb2:Below w.heap.size w (w.drewN nq):=below_drewN (Below.refl _ w) nq;go_wp2_with fail;refine (HC nq hb2).mono ?_;rintro e w2 ⟨hb3,⟨he,rfl,hs2⟩ | ⟨he,rfl⟩⟩
 ·go_wp2_with fail;go_ret2
  exact ⟨(hb2.mono hB).trans hb3,.inl ⟨he,rfl,hs2⟩⟩
 ·go_wp2_with fail;go_ret2
  exact ⟨(hb2.mono hB).trans hb3,.inr ⟨he,rfl⟩⟩
theorem qe8 (B b:Nat) (s:ByteArray) (k:Nat) (ts:List Tok) (w:World) (h:Scr B b s k ts w) (hB:B≤w.heap.size) (hr:(ts.length+1)*40≤140737488355328) (hs:s.size≤65536) (hk:k<s.size)
  (hc:(s[k].toNat:Int)=102) :
  Calls Tryz.prog 50 #[.pointer (some ⟨b,0,none⟩)] w (bH B b s ts (wrd s.data.toList k qad) w):=by
 obtain ⟨hlt,c0,c1,f1⟩:=h.cells;have k0:(0:Int)≤(k:Int):=by omega
 have k1:(k:Int)<(s.size:Int):=by omega
 have HC:∀ n,Below w.heap.size w (w.drewN n)→Calls Tryz.prog 76 #[.pointer (some ⟨b,0,none⟩),.string ⟨#[102,97,108,115,101]⟩] (w.drewN n) (bH B b s ts (wrd s.data.toList k qad) (w.drewN n)):=fun n (hw:Below w.heap.size w (w.drewN n))=>qc9 B b s ⟨#[102,97,108,115,101]⟩ k ts (w.drewN n) (h.keep hw) (by have:=hw.size;omega) hr hs hk (by decide);generalize wrd s.data.toList k qad=r at *;obtain ⟨o,z,er⟩:=r;go_enter Tryz.func50,Tryz.ntmps50;go_wp2_with fail;go_quiet (fail)
 have hb2:Below w.heap.size w (w.drewN nq):=below_drewN (Below.refl _ w) nq;go_wp2_with fail;refine (HC nq hb2).mono ?_;rintro e w2 ⟨hb3,⟨he,rfl,hs2⟩ | ⟨he,rfl⟩⟩
 ·go_wp2_with fail;go_ret2
  exact ⟨(hb2.mono hB).trans hb3,.inl ⟨he,rfl,hs2⟩⟩
 ·go_wp2_with fail;go_ret2
  exact ⟨(hb2.mono hB).trans hb3,.inr ⟨he,rfl⟩⟩
theorem qfY (B b:Nat) (s:ByteArray) (k:Nat) (ts:List Tok) (w:World) (h:Scr B b s k ts w) (hB:B≤w.heap.size) (hr:(ts.length+1)*40≤140737488355328) (hs:s.size≤65536) (hk:k<s.size)
  (hc:(s[k].toNat:Int)=110) :
  Calls Tryz.prog 50 #[.pointer (some ⟨b,0,none⟩)] w (bH B b s ts (wrd s.data.toList k ce) w):=by
 obtain ⟨hlt,c0,c1,f1⟩:=h.cells;have k0:(0:Int)≤(k:Int):=by omega
 have k1:(k:Int)<(s.size:Int):=by omega
 have HC:∀ n,Below w.heap.size w (w.drewN n)→Calls Tryz.prog 76 #[.pointer (some ⟨b,0,none⟩),.string ⟨#[110,117,108,108]⟩] (w.drewN n) (bH B b s ts (wrd s.data.toList k ce) (w.drewN n)):=fun n (hw:Below w.heap.size w (w.drewN n))=>qc9 B b s ⟨#[110,117,108,108]⟩ k ts (w.drewN n) (h.keep hw) (by have:=hw.size;omega) hr hs hk (by decide);generalize wrd s.data.toList k ce=r at *;obtain ⟨o,z,er⟩:=r;go_enter Tryz.func50,Tryz.ntmps50;go_wp2_with fail;go_quiet (fail)
 have hb2:Below w.heap.size w (w.drewN nq):=below_drewN (Below.refl _ w) nq;go_wp2_with fail;refine (HC nq hb2).mono ?_;rintro e w2 ⟨hb3,⟨he,rfl,hs2⟩ | ⟨he,rfl⟩⟩
 ·go_wp2_with fail;go_ret2
  exact ⟨(hb2.mono hB).trans hb3,.inl ⟨he,rfl,hs2⟩⟩
 ·go_wp2_with fail;go_ret2
  exact ⟨(hb2.mono hB).trans hb3,.inr ⟨he,rfl⟩⟩
theorem qln (B b:Nat) (s:ByteArray) (k:Nat) (ts:List Tok) (w:World) (h:Scr B b s k ts w) (hB:B≤w.heap.size) (hk:k<s.size)
  (hc:(s[k].toNat:Int)≠32∧(s[k].toNat:Int)≠9∧(s[k].toNat:Int)≠10∧(s[k].toNat:Int)≠13∧(s[k].toNat:Int)≠123∧(s[k].toNat:Int)≠125∧(s[k].toNat:Int)≠91∧(s[k].toNat:Int)≠93∧(s[k].toNat:Int)≠58∧(s[k].toNat:Int)≠44∧(s[k].toNat:Int)≠34∧(s[k].toNat:Int)≠45∧(s[k].toNat:Int)≠48∧(s[k].toNat:Int)≠49∧(s[k].toNat:Int)≠50∧(s[k].toNat:Int)≠51∧(s[k].toNat:Int)≠52∧(s[k].toNat:Int)≠53∧(s[k].toNat:Int)≠54∧(s[k].toNat:Int)≠55∧(s[k].toNat:Int)≠56∧(s[k].toNat:Int)≠57∧(s[k].toNat:Int)≠116∧(s[k].toNat:Int)≠102∧(s[k].toNat:Int)≠110) :
  Calls Tryz.prog 50 #[.pointer (some ⟨b,0,none⟩)] w (bH B b s ts (none,(k:Int),40) w):=by
 obtain ⟨hlt,c0,c1,f1⟩:=h.cells;have k0:(0:Int)≤(k:Int):=by omega
 have k1:(k:Int)<(s.size:Int):=by omega
 obtain ⟨n32,n9,n10,n13,n123,n125,n91,n93,n58,n44,n34,n45,n48,n49,n50,n51,n52,n53,n54,n55,n56,n57,n116,n102,n110⟩:=hc;have t32:((s[k].toNat:Int)==32)=false:=beq_eq_false_iff_ne.2 n32;have t9:((s[k].toNat:Int)==9)=false:=beq_eq_false_iff_ne.2 n9;have t10:((s[k].toNat:Int)==10)=false:=beq_eq_false_iff_ne.2 n10;have t13:((s[k].toNat:Int)==13)=false:=beq_eq_false_iff_ne.2 n13;have t123:((s[k].toNat:Int)==123)=false:=beq_eq_false_iff_ne.2 n123;have t125:((s[k].toNat:Int)==125)=false:=beq_eq_false_iff_ne.2 n125;have t91:((s[k].toNat:Int)==91)=false:=beq_eq_false_iff_ne.2 n91;have t93:((s[k].toNat:Int)==93)=false:=beq_eq_false_iff_ne.2 n93;have t58:((s[k].toNat:Int)==58)=false:=beq_eq_false_iff_ne.2 n58;have t44:((s[k].toNat:Int)==44)=false:=beq_eq_false_iff_ne.2 n44;have t34:((s[k].toNat:Int)==34)=false:=beq_eq_false_iff_ne.2 n34;have t45:((s[k].toNat:Int)==45)=false:=beq_eq_false_iff_ne.2 n45;have t48:((s[k].toNat:Int)==48)=false:=beq_eq_false_iff_ne.2 n48;have t49:((s[k].toNat:Int)==49)=false:=beq_eq_false_iff_ne.2 n49;have t50:((s[k].toNat:Int)==50)=false:=beq_eq_false_iff_ne.2 n50;have t51:((s[k].toNat:Int)==51)=false:=beq_eq_false_iff_ne.2 n51;have t52:((s[k].toNat:Int)==52)=false:=beq_eq_false_iff_ne.2 n52;have t53:((s[k].toNat:Int)==53)=false:=beq_eq_false_iff_ne.2 n53;have t54:((s[k].toNat:Int)==54)=false:=beq_eq_false_iff_ne.2 n54;have t55:((s[k].toNat:Int)==55)=false:=beq_eq_false_iff_ne.2 n55;have t56:((s[k].toNat:Int)==56)=false:=beq_eq_false_iff_ne.2 n56;have t57:((s[k].toNat:Int)==57)=false:=beq_eq_false_iff_ne.2 n57;have t116:((s[k].toNat:Int)==116)=false:=beq_eq_false_iff_ne.2 n116;have t102:((s[k].toNat:Int)==102)=false:=beq_eq_false_iff_ne.2 n102;have t110:((s[k].toNat:Int)==110)=false:=beq_eq_false_iff_ne.2 n110;clear n32 n9 n10 n13 n123 n125 n91 n93 n58 n44 n34 n45 n48 n49 n50 n51 n52 n53 n54 n55 n56 n57 n116 n102 n110;go_enter Tryz.func50,Tryz.ntmps50;go_wp2_with fail;go_quiet (fail)
 have hb2:Below w.heap.size w (w.drewN nq):=below_drewN (Below.refl _ w) nq;go_wp2_with fail;go_ret2
 exact ⟨hb2.mono hB,.inr ⟨by show (40:Int)≠0;decide,rfl⟩⟩
theorem qjP (B b:Nat) (s:ByteArray) (k:Nat) (ts:List Tok) (w:World) (h:Scr B b s k ts w) (hB:B≤w.heap.size) (hr:(ts.length+1)*40≤140737488355328) (hs:s.size≤65536) (hk:k<s.size) :
  Calls Tryz.prog 50 #[.pointer (some ⟨b,0,none⟩)] w (bH B b s ts (stp s.data.toList k) w):=by
 unfold stp;rw [aY s k hk];by_cases c1:isW (s[k].toNat:Int)=true
 ·rw [if_pos c1];exact qlP B b s k ts w h hB hs hk ((qgL _).1 c1)
 rw [if_neg c1];by_cases c2:qhH (s[k].toNat:Int)=true
 ·rw [if_pos c2];rcases (qfi _).1 c2 with c | c | c | c | c | c
  ·exact qi2 B b s k ts w h hB hr hs hk c
  ·exact qiB B b s k ts w h hB hr hs hk c
  ·exact qka B b s k ts w h hB hr hs hk c
  ·exact qkh B b s k ts w h hB hr hs hk c
  ·exact qkr B b s k ts w h hB hr hs hk c
  ·exact qkB B b s k ts w h hB hr hs hk c
 rw [if_neg c2];by_cases c3:(s[k].toNat:Int)=34
 ·rw [if_pos c3];exact qlI B b s k ts w h hB hr hs hk c3
 rw [if_neg c3];by_cases c4:qiH (s[k].toNat:Int)=true
 ·rw [if_pos c4];refine qlD B b s k ts w h hB hr hs hk ?_;have:=(qe0 _).1 c4;omega
 rw [if_neg c4];by_cases c5:(s[k].toNat:Int)=116
 ·rw [if_pos c5];exact qfO B b s k ts w h hB hr hs hk c5
 rw [if_neg c5];by_cases c6:(s[k].toNat:Int)=102
 ·rw [if_pos c6];exact qe8 B b s k ts w h hB hr hs hk c6
 rw [if_neg c6];by_cases c7:(s[k].toNat:Int)=110
 ·rw [if_pos c7];exact qfY B b s k ts w h hB hr hs hk c7
 rw [if_neg c7];rw [qgL] at c1;rw [qfi] at c2;rw [qe0] at c4;exact qln B b s k ts w h hB hk (by omega)
def qhE (r:List Tok×Int×Int) (w:World) (e:Ending) (w':World):Prop:=
 ∃ v,e = .returned (.tuple #[v,.int .i64 r.2.1,.int .i64 r.2.2])∧w'.ownsRow w.heap.size 70 4 v r.1.length (bG r.1)∧Below w.heap.size w w'
def qjg (w:World) (b:Nat):Nat:=match w.cell? ⟨b,1,none⟩ with
 | some (.int _ k)=>k.toNat
 | _=>0
theorem Scr.pos {B b:Nat} {s:ByteArray} {k:Nat} {ts:List Tok} {w:World} (h:Scr B b s k ts w):qjg w b=k:=by
 unfold qjg;rw [h.cells.2.2.1];exact Int.toNat_natCast k
theorem qfM (s:ByteArray) (w:World) (hs:s.size≤9223372036854775807) :
  Calls Tryz.prog 38 #[.string s] w (qhE (cI s.data.toList) w):=by
 by_cases hl:65536<s.size
 ·have hd:decide (65536<s.size)=true:=zT hl;have hd2:decide ((65536:Int)<(s.size:Int))=true:=zT (by omega);rw [cI,if_pos (by rw [af];exact hl)];go_enter Tryz.func38,Tryz.ntmps38;go_wp2_with fail;go_ret3
  exact ⟨_,rfl,World.ownsRow_nil _ _ _ _,Below.refl _ _⟩
 ·have hd:decide (65536<s.size)=false:=zF hl;have hd2:decide ((65536:Int)<(s.size:Int))=false:=zF (by omega);have hs':s.size≤65536:=by omega
  rw [cI,if_neg (by rw [af];exact hl)];clear hl hs;go_enter Tryz.func38,Tryz.ntmps38;go_wp2_with fail;go_loopw [6,7] (fun _ _ wr=>∃ (k:Nat) (ts:List Tok),Scr w.heap.size w.heap.size s k ts wr∧cJ s.data.toList 0 ts k∧Below w.heap.size w wr) (fun _ _ wr=>s.size-qjg wr w.heap.size)
  case atStart=>
   refine ⟨0,[],⟨.slice none 0 0,heap_alloc_new w _,World.ownsRow_nil _ _ _ _,Nat.le_refl _⟩,.nil _,(Below.refl _ _).alloc (Nat.le_refl _) _⟩
  case round=>
   obtain ⟨k,ts,hscr,hscan,hbel⟩:=hrel;obtain ⟨hlt,c0,c1,f1⟩:=hscr.cells;have hle:=hscan.le;rw [af] at hle;have hpos:=hscr.pos;by_cases hk:k<s.size
   ·have hkd:decide ((k:Int)<(s.size:Int))=true:=zT (by omega);have hkd2:decide (k<s.size)=true:=zT hk;have HC:=qjP w.heap.size w.heap.size s k ts wr hscr (by omega) (by omega) hs' hk;rcases hst:stp s.data.toList k with ⟨o,n,e⟩;rw [hst] at HC;by_cases he:e=0
    ·subst he;obtain ⟨m,h3,h4,h5⟩:=qbH hk (by rw [hst]);rw [hst] at h3;simp only at h3;subst h3;have HX:=zh (hscan.snoc hk hst);have HP:=zh hpos;have HCC:=zh HC;clear hst HC hpos hscan hscr;go_wp2_with fail;refine HCC.out.mono ?_;rintro e w2 ⟨hb2,⟨_,rfl,hs2⟩ | ⟨h,_⟩⟩
     ·go_wp2_with fail;go_roundw
      case rel=>exact ⟨m,_,hs2,HX.out,hbel.trans hb2⟩
      case measure=>rw [hs2.pos,HP.out];omega
     ·exact absurd rfl h
    ·have hne:(e != 0)=true:=by rw [bne_iff_ne];exact he
     have hsc:scn s.data.toList 0=([],n,e):=by
      rw [hscan.scn,qgq hk (by rw [hst];exact he),hst,dd,if_neg he]
     have HX:=zh hsc;have HCC:=zh HC;clear hst HC hpos hscan hscr hsc;go_wp2_with fail;refine HCC.out.mono ?_;rintro e2 w2 ⟨hb2,⟨h,_⟩ | ⟨_,rfl⟩⟩
     ·exact absurd h he
     ·go_wp2_with fail;go_ret3
      rw [HX.out];exact ⟨_,rfl,World.ownsRow_nil _ _ _ _,hbel.trans hb2⟩
   ·have hkd:decide ((k:Int)<(s.size:Int))=false:=zF (by omega);have hkd2:decide (k<s.size)=false:=zF hk;obtain rfl:k=s.size:=by omega
    have hsc:scn s.data.toList 0=(ts,0,0):=by
     rw [hscan.scn,qed (by rw [af];omega),dd,if_pos rfl,List.append_nil]
    have HX:=zh hsc;obtain ⟨v,h1,hown,_⟩:=hscr;have c2:wr.cell? ⟨w.heap.size,2,none⟩=some v:=by rw [cell_of_row wr w.heap.size 2 _ _ _ h1];rfl
    clear h1 hsc hpos hscan;go_wp2_with fail;go_ret3
    rw [HX.out];exact ⟨_,rfl,hown,hbel⟩
def RdT (w:World) (B:Nat) (v:Value) (ts:List Tok):Prop:=
 ∃ A c,v = .slice A ts.length c∧(0<ts.length→∃ g,A=some ⟨g,0,none⟩∧g<B∧∀ j u,(bG ts)[j]? = some u→w.cell? ⟨g,j,none⟩=some u)
theorem RdT.keep {w w':World} {B:Nat} {v:Value} {ts:List Tok} (h:RdT w B v ts) (hk:∀ p:Addr,p.block<B→w'.cell? p=w.cell? p):RdT w' B v ts:=by
 obtain ⟨A,c,rfl,hc⟩:=h;refine ⟨A,c,rfl,fun h0=>?_⟩;obtain ⟨g,rfl,hb,hx⟩:=hc h0;exact ⟨g,rfl,hb,fun j u hu=>(hk ⟨g,j,none⟩ hb).trans (hx j u hu)⟩
theorem RdT.below {w w':World} {B B':Nat} {v:Value} {ts:List Tok} (h:RdT w B v ts) (hb:Below B' w w') (hB:B≤B'):RdT w' B v ts:=h.keep fun _ hp=>hb.cell (by omega)
theorem RdT.of_own {w:World} {base E:Nat} {v:Value} {ts:List Tok} (h:w.ownsRow base E 4 v ts.length (bG ts)):RdT w w.heap.size v ts:=by
 have hlt:=h.lt;have hcell:= @World.ownsRow.cells w base E 4 v ts.length (bG ts) h;rcases h.2 with ⟨rfl,h0⟩ | ⟨g,cap,cur,rfl,_,_,_⟩
 ·exact ⟨none,0,by rw [h0],fun h=>by omega⟩
 ·refine ⟨some ⟨g,0,none⟩,cap,rfl,fun _=>⟨g,rfl,(hlt g rfl).2,fun j u hu=>?_⟩⟩;have:=hcell rfl j u hu;rwa [show (⟨g,0,none⟩:Addr).add j=⟨g,j,none⟩ by unfold Addr.add;split <;> simp_all] at this
theorem qbp (ts:List Tok):∀ (i:Nat) (h:i<ts.length) (j:Nat),j<4→(bG ts)[i*4+j]? = (qik ts[i])[j]?:=by
 induction ts with
 | nil=>intro i h;simp at h
 | cons t r ih=>
  intro i h j hj;have e:bG (t::r)=qik t++bG r:=by rw [show t::r=[t]++r from rfl,qbT,qb5]
  have l:(qik t).length=4:=rfl;rw [e];cases i with
  | zero=>rw [List.getElem?_append_left (by rw [l];omega)];simp
  | succ i=>
   rw [List.getElem?_append_right (by rw [l];omega),l];have:=ih i (by simpa using h) j hj;rw [show (i+1)*4+j-4=i*4+j by omega,this];simp
theorem RdT.at_ {w:World} {B:Nat} {v:Value} {ts:List Tok} (h:RdT w B v ts) (i:Nat) (hi:i<ts.length):∃ g c,v = .slice (some ⟨g,0,none⟩) ts.length c∧g<B∧
  w.cell? ⟨g,i*4,none⟩=some (.int .i64 ts[i].1)∧w.cell? ⟨g,i*4+1,none⟩=some (.int .i64 ts[i].2.1)∧w.cell? ⟨g,i*4+2,none⟩=some (.string (ae ts[i].2.2.1))∧w.cell? ⟨g,i*4+3,none⟩=some (.int .i64 ts[i].2.2.2):=by
 obtain ⟨A,c,rfl,hc⟩:=h;obtain ⟨g,rfl,hb,hx⟩:=hc (by omega);have a0:=qbp ts i hi 0 (by omega);exact ⟨g,c,rfl,hb,hx _ _ a0,hx _ _ (qbp ts i hi 1 (by omega)),hx _ _ (qbp ts i hi 2 (by omega)),hx _ _ (qbp ts i hi 3 (by omega))⟩
def qet (q:Prop) (w:World) (e:Ending) (w':World):Prop:=(∃ b,e = .returned (.bool b)∧(b=true↔q))∧Below w.heap.size w w'
end Sc
namespace Re
open Go.RowKit Utf Sc
def qcR (t:Tok):Value:= .agg #[.int .i64 t.1,.int .i64 t.2.1,.string (ae t.2.2.1),.int .i64 t.2.2.2]
theorem aV {fn:Func} {s b:Nat} {tmps:Array Value} {w:World} {fr:Nat×Nat} {v0 v1 v2 v3 v4:Value} (hf:fn.results = #[.cell s 25]) (ht:tmps.getD s undef = .pointer (some ⟨b,0,none⟩))
  (h:w.heap[b]? = some (.cells #[v0,v1,v2,v3,v4] 25 fr)):(results fn tmps).run Tryz.prog w = .ok (.agg #[v0,v1,v2,v3,v4]) w:=by
 have c0:=(cell_of_row _ _ 0 _ _ _ h).trans (rfl:_=some v0);have c1:=(cell_of_row _ _ 1 _ _ _ h).trans (rfl:_=some v1);have c2:=(cell_of_row _ _ 2 _ _ _ h).trans (rfl:_=some v2);have c3:=(cell_of_row _ _ 3 _ _ _ h).trans (rfl:_=some v3);have c4:=(cell_of_row _ _ 4 _ _ _ h).trans (rfl:_=some v4);rw [Array.getD_eq_getD_getElem?] at ht;simp [results,hf,ht,c0,c1,c2,c3,c4,go_sem]
theorem aj (w:World) (o:Obj):(w.alloc o).heap.size=w.heap.size+1:=by simp
theorem Fr.of {w w':World} (pb:Nat) (h:Below w.heap.size w w'):w.grownBy w' (some pb):=⟨h.os,h.tape,h.output,h.size,fun k hk _=>h.block k hk⟩
theorem Fr.trans {w w1 w2:World} {pb:Nat} (h1:w.grownBy w1 (some pb)) (h2:w1.grownBy w2 (some pb)):w.grownBy w2 (some pb):=
 ⟨h2.os.trans h1.os,h2.tape.trans h1.tape,h2.output.trans h1.output,Nat.le_trans h1.size h2.size,fun k hk hne=>(h2.block k (Nat.lt_of_lt_of_le hk h1.size) hne).trans (h1.block k hk hne)⟩
theorem Fr.set (w:World) (pb j:Nat) (u:Value):w.grownBy (w.setCell ⟨pb,j,none⟩ u) (some pb):=
 ⟨rfl,rfl,rfl,by simp,fun k _ hne=>heap_setCell_other w ⟨pb,j,none⟩ k u (fun e=>hne (by rw [e]))⟩
theorem Fr.new {w w':World} {pb:Nat} (h:w.grownBy w' (some pb)) (p:Addr) (hp:w.heap.size≤p.block) (u:Value):w.grownBy (w'.setCell p u) (some pb):=
 ⟨h.os,h.tape,h.output,by simpa using h.size,fun k hk hne=>(heap_setCell_other w' p k u (by omega)).trans (h.block k hk hne)⟩
theorem Fr.alloc {w w':World} {pb:Nat} (h:w.grownBy w' (some pb)) (o:Obj):w.grownBy (w'.alloc o) (some pb):=
 ⟨h.os,h.tape,h.output,Nat.le_trans h.size (by simp),fun k hk hne=>(heap_alloc_old w' o (Nat.lt_of_lt_of_le hk h.size)).trans (h.block k hk hne)⟩
theorem aW {w w':World} {pb:Nat} {vL:Value} {ts:List Tok} (h:RdT w pb vL ts) (hpb:pb≤w.heap.size) (hf:w.grownBy w' (some pb)):RdT w' pb vL ts:=
 h.keep fun q hq=>World.cell?_of_block (hf.block q.block (by omega) (fun e=>by have:=Option.some.inj e;omega))
theorem cC (w:World) (lo hi:Nat) (k n:Int) (s:List UInt8):RdV w lo hi (.mk k n s [] [] []) [.int .i64 k,.int .i64 n,.string (ae s),.slice none 0 0,.slice none 0 0]:=by
 rw [RdV];exact ⟨_,_,rfl,⟨none,0,rfl,fun h=>absurd h (by simp)⟩,⟨none,0,rfl,rfl,fun h=>absurd h (by simp)⟩⟩
section
variable {w w2:World} {pb b t:Nat} {vL:Value} {E:Int} {i p:Nat} {a y:Int} {u0 u1 u2 u3 u4:Value}
theorem aJ (h:w2.heap[b]? = some (.cells #[u0,u1,u2,u3,u4] t (0,0))) (v0 v1 v2 v3 v4:Value) :
  (((((w2.setCell ⟨b,0,none⟩ v0).setCell ⟨b,1,none⟩ v1).setCell ⟨b,2,none⟩ v2).setCell ⟨b,3,none⟩ v3).setCell ⟨b,4,none⟩ v4).heap[b]? = some (.cells #[v0,v1,v2,v3,v4] t (0,0)):=by
 have b1:=heap_setCell_same _ b 0 _ _ v0 h;have b2:=heap_setCell_same _ b 1 _ _ v1 b1;have b3:=heap_setCell_same _ b 2 _ _ v2 b2;have b4:=heap_setCell_same _ b 3 _ _ v3 b3;exact heap_setCell_same _ b 4 _ _ v4 b4
theorem bg (h:w.grownBy w2 (some pb)) (hb:w.heap.size≤b) (v0 v1 v2 v3 v4:Value) :
  w.grownBy (((((w2.setCell ⟨b,0,none⟩ v0).setCell ⟨b,1,none⟩ v1).setCell ⟨b,2,none⟩ v2).setCell ⟨b,3,none⟩ v3).setCell ⟨b,4,none⟩ v4) (some pb):=
 Fr.new (Fr.new (Fr.new (Fr.new (Fr.new h ⟨b,0,none⟩ hb _) ⟨b,1,none⟩ hb _) ⟨b,2,none⟩ hb _) ⟨b,3,none⟩ hb _) ⟨b,4,none⟩ hb _
end
end Re
namespace Re
open Go.RowKit Utf Sc
def It (w:World) (B:Nat) (g:Option Nat) (v:V) (c5:List Value):Prop:=
 c5.length=5∧(∀ u∈c5,u.oneCell'=true)∧∃ lo hi,B≤lo∧hi≤w.heap.size∧(∀ k,g=some k→k<lo∨hi≤k)∧RdV w lo hi v c5
def Its (w:World) (B:Nat) (g:Option Nat):List V→List Value→Prop
 | [],cs=>cs=[]
 | v::r,cs=>∃ c5 rest,cs=c5++rest∧It w B g v c5∧Its w B g r rest
def cR (w:World) (B:Nat) (g:Option Nat):List (List UInt8)→List V→List Value→Prop
 | ns,[],cs=>ns=[]∧cs=[]
 | ns,v::r,cs=>∃ nm ns' c5 rest,ns=nm::ns'∧cs = .string (ae nm)::(c5++rest)∧It w B g v c5∧cR w B g ns' r rest
section
variable {w w':World} {B:Nat} {g g':Option Nat}
theorem It.keep {v:V} {c5:List Value} (h:It w B g v c5) (hk:∀ p:Addr,B≤p.block→p.block<w.heap.size→g≠some p.block→w'.cell? p=w.cell? p) (hs:w.heap.size≤w'.heap.size) (hg:∀ k,g'=some k→g=some k∨w.heap.size≤k):It w' B g' v c5:=by
 obtain ⟨h1,h2,lo,hi,h3,h4,h5,h6⟩:=h;refine ⟨h1,h2,lo,hi,h3,by omega,fun k hk2=>?_,RdV.keep (fun p hp1 hp2=>hk p (by omega) (by omega) (fun e=>by rcases h5 _ e with h | h <;> omega)) (Nat.le_refl _) (Nat.le_refl _) v c5 h6⟩;rcases hg k hk2 with h | h
 ·exact h5 k h
 ·exact .inr (by omega)
theorem Its.keep:∀ {vs:List V} {cs:List Value},Its w B g vs cs→(∀ p:Addr,B≤p.block→p.block<w.heap.size→g≠some p.block→w'.cell? p=w.cell? p)→w.heap.size≤w'.heap.size→(∀ k,g'=some k→g=some k∨w.heap.size≤k)→Its w' B g' vs cs:=by
 intro vs;induction vs with
 | nil=>intro cs h _ _ _;exact h
 | cons v r ih=>
  intro cs h hk hs hg;obtain ⟨c5,rest,rfl,h1,h2⟩:=h;exact ⟨c5,rest,rfl,h1.keep hk hs hg,ih h2 hk hs hg⟩
theorem cR.keep:∀ {vs:List V} {ns:List (List UInt8)} {cs:List Value},cR w B g ns vs cs→(∀ p:Addr,B≤p.block→p.block<w.heap.size→g≠some p.block→w'.cell? p=w.cell? p)→w.heap.size≤w'.heap.size→(∀ k,g'=some k→g=some k∨w.heap.size≤k)→cR w' B g' ns vs cs:=by
 intro vs;induction vs with
 | nil=>intro ns cs h _ _ _;exact h
 | cons v r ih=>
  intro ns cs h hk hs hg;obtain ⟨nm,ns',c5,rest,rfl,rfl,h1,h2⟩:=h;exact ⟨nm,ns',c5,rest,rfl,rfl,h1.keep hk hs hg,ih h2 hk hs hg⟩
theorem Its.snoc {v:V} {c5:List Value} (hv:It w B g v c5):∀ {vs:List V} {cs:List Value},Its w B g vs cs→Its w B g (vs++[v]) (cs++c5):=by
 intro vs;induction vs with
 | nil=>intro cs h;cases h;exact ⟨c5,[],by simp,hv,rfl⟩
 | cons a r ih=>
  intro cs h;obtain ⟨d5,rest,rfl,h1,h2⟩:=h;exact ⟨d5,rest++c5,by simp,h1,ih h2⟩
theorem cR.snoc {nm:List UInt8} {v:V} {c5:List Value} (hv:It w B g v c5):∀ {vs:List V} {ns:List (List UInt8)} {cs:List Value},cR w B g ns vs cs→cR w B g (ns++[nm]) (vs++[v]) (cs++(.string (ae nm)::c5)):=by
 intro vs;induction vs with
 | nil=>intro ns cs h;obtain ⟨rfl,rfl⟩:=h;exact ⟨nm,[],c5,[],rfl,by simp,hv,rfl,rfl⟩
 | cons a r ih=>
  intro ns cs h;obtain ⟨n1,ns',d5,rest,rfl,rfl,h1,h2⟩:=h;exact ⟨n1,ns'++[nm],d5,rest++(.string (ae nm)::c5),rfl,by simp,h1,ih h2⟩
theorem cR.len:∀ {vs:List V} {ns:List (List UInt8)} {cs:List Value},cR w B g ns vs cs→ns.length=vs.length:=by
 intro vs;induction vs with
 | nil=>intro ns cs h;rw [h.1];rfl
 | cons a r ih=>
  intro ns cs h;obtain ⟨n1,ns',d5,rest,rfl,rfl,h1,h2⟩:=h;rw [List.length_cons,List.length_cons,ih h2]
theorem Its.done {b lo hi:Nat} (hlo:lo≤B) (hhi:w.heap.size≤hi):∀ {vs:List V} {cs:List Value} {i:Nat},Its w B g vs cs→(∀ j u,cs[j]? = some u→w.cell? ⟨b,i*5+j,none⟩=some u)→RdL w lo hi b i vs:=by
 intro vs;induction vs with
 | nil=>intro cs i h _;rw [RdL];trivial
 | cons v r ih=>
  intro cs i h hc;obtain ⟨c5,rest,rfl,⟨h1,h2,l1,l2,h3,h4,h5,h6⟩,h7⟩:=h;rw [RdL];refine ⟨⟨c5,fun j u hu=>hc j u (by rw [List.getElem?_append_left (List.getElem?_eq_some_iff.1 hu).1];exact hu),RdV.keep (fun _ _ _=>rfl) (by omega) (by omega) v c5 h6⟩,ih h7 fun j u hu=>?_⟩;have:=hc (5+j) u (by rw [List.getElem?_append_right (by omega),h1,Nat.add_sub_cancel_left];exact hu);rw [show (i+1)*5+j=i*5+(5+j) by omega];exact this
theorem cR.done {b lo hi:Nat} (hlo:lo≤B) (hhi:w.heap.size≤hi):∀ {vs:List V} {ns:List (List UInt8)} {cs:List Value} {i:Nat},cR w B g ns vs cs→(∀ j u,cs[j]? = some u→w.cell? ⟨b,i*6+j,none⟩=some u)→RdM w lo hi b i ns vs:=by
 intro vs;induction vs with
 | nil=>intro ns cs i h _;rw [RdM];trivial
 | cons v r ih=>
  intro ns cs i h hc;obtain ⟨nm,ns',c5,rest,rfl,rfl,⟨h1,h2,l1,l2,h3,h4,h5,h6⟩,h7⟩:=h;rw [RdM];refine ⟨nm,ns',rfl,hc 0 _ rfl,⟨c5,fun j u hu=>?_,RdV.keep (fun _ _ _=>rfl) (by omega) (by omega) v c5 h6⟩,ih h7 fun j u hu=>?_⟩
  ·have:=hc (1+j) u (by rw [Nat.add_comm 1 j,List.getElem?_cons_succ,List.getElem?_append_left (List.getElem?_eq_some_iff.1 hu).1];exact hu);rw [show i*6+1+j=i*6+(1+j) by omega];exact this
  ·have:=hc (6+j) u (by rw [show 6+j=(5+j)+1 by omega,List.getElem?_cons_succ,List.getElem?_append_right (by omega),h1,Nat.add_sub_cancel_left];exact hu);rw [show (i+1)*6+j=i*6+(6+j) by omega];exact this
theorem qdE {base E size n b c:Nat} {xs:List Value} (h:w.ownsRow base E size (.slice (some ⟨b,0,none⟩) n c) n xs):base≤b∧b<w.heap.size∧∀ j u,xs[j]? = some u→w.cell? ⟨b,j,none⟩=some u:=by
 refine ⟨(h.lt b rfl).1,(h.lt b rfl).2,fun j u hu=>?_⟩;have:=h.cells (g:=b) rfl j u hu;rwa [show (⟨b,0,none⟩:Addr).add j=⟨b,j,none⟩ by unfold Addr.add;split <;> simp_all] at this
theorem qgG {base E size n:Nat} {v:Value} {xs:List Value} (h:w.ownsRow base E size v n xs):(v = .slice none 0 0∧n=0)∨∃ b c,v = .slice (some ⟨b,0,none⟩) n c∧base≤b∧b<w.heap.size:=by
 rcases h.2 with ⟨h1,h2⟩ | ⟨b,cap,cur,rfl,_,_,_⟩
 ·exact .inl ⟨h1,h2⟩
 ·exact .inr ⟨b,cap,rfl,(h.lt b rfl).1,(h.lt b rfl).2⟩
theorem qgP {base E size n c:Nat} {A:Option Addr} {xs:List Value} (h:w.ownsRow base E size (.slice A n c) n xs):n+(c-n)=c:=by
 rcases h.2 with ⟨h1,h2⟩ | ⟨b,cap,cur,e,_,_,h3,_⟩
 ·injection h1 with _ h4 h5;omega
 ·injection e with _ _ h5;omega
theorem qiN {base E:Nat} {v:Value} {cs:List Value} {vs:List V} {lo hi:Nat} (h:w.ownsRow base E 5 v vs.length cs) (hi1:Its w B g vs cs) (h1:lo≤base) (h2:lo≤B) (h3:w.heap.size≤hi) :
  RdV w lo hi (lsV vs) [.int .i64 5,.int .i64 0,.string ⟨#[]⟩,v,.slice none 0 0]:=by
 unfold lsV;rw [RdV];rcases qgG h with ⟨rfl,h0⟩ | ⟨b,c,rfl,hb1,hb2⟩
 ·exact ⟨_,_,rfl,⟨none,0,by rw [h0],fun h=>by omega⟩,⟨none,0,rfl,rfl,fun h=>absurd h (by simp)⟩⟩
 ·have hc:=(qdE h).2.2;refine ⟨_,_,rfl,⟨_,c-vs.length,by rw [qgP h],fun _=>⟨b,rfl,by omega,by omega,Its.done h2 h3 hi1 fun j u hu=>?_⟩⟩,⟨none,0,rfl,rfl,fun h=>absurd h (by simp)⟩⟩;rw [show 0*5+j=j by omega];exact hc j u hu
theorem qlr {base E:Nat} {v:Value} {cs:List Value} {ns:List (List UInt8)} {vs:List V} {lo hi:Nat} (h:w.ownsRow base E 6 v vs.length cs) (hi1:cR w B g ns vs cs) (h1:lo≤base) (h2:lo≤B) (h3:w.heap.size≤hi) :
  RdV w lo hi (mpV (ns,vs)) [.int .i64 6,.int .i64 0,.string ⟨#[]⟩,.slice none 0 0,v]:=by
 unfold mpV;rw [RdV];have hl:=hi1.len;rcases qgG h with ⟨rfl,h0⟩ | ⟨b,c,rfl,hb1,hb2⟩
 ·exact ⟨_,_,rfl,⟨none,0,rfl,fun h=>absurd h (by simp)⟩,⟨none,0,by rw [h0],hl,fun h=>by have h':0<vs.length:=h;omega⟩⟩
 ·have hc:=(qdE h).2.2;refine ⟨_,_,rfl,⟨none,0,rfl,fun h=>absurd h (by simp)⟩,⟨_,c-vs.length,by rw [qgP h],hl,fun _=>⟨b,rfl,by omega,by omega,cR.done h2 h3 hi1 fun j u hu=>?_⟩⟩⟩;rw [show 0*6+j=j by omega];exact hc j u hu
end
theorem qaZ (w:World) (b k:Nat) (h:k≠b) (v0 v1 v2 v3 v4:Value) :
  (((((w.setCell ⟨b,0,none⟩ v0).setCell ⟨b,1,none⟩ v1).setCell ⟨b,2,none⟩ v2).setCell ⟨b,3,none⟩ v3).setCell ⟨b,4,none⟩ v4).heap[k]? = w.heap[k]?:=by
 rw [heap_setCell_other _ ⟨b,4,none⟩ k _ h,heap_setCell_other _ ⟨b,3,none⟩ k _ h,heap_setCell_other _ ⟨b,2,none⟩ k _ h,heap_setCell_other _ ⟨b,1,none⟩ k _ h,heap_setCell_other _ ⟨b,0,none⟩ k _ h]
theorem be (w:World) (b:Nat) (p:Addr) (h:b≠p.block) (v0 v1 v2 v3 v4:Value) :
  (((((w.setCell ⟨b,0,none⟩ v0).setCell ⟨b,1,none⟩ v1).setCell ⟨b,2,none⟩ v2).setCell ⟨b,3,none⟩ v3).setCell ⟨b,4,none⟩ v4).cell? p=w.cell? p:=by
 have key:∀ (w:World) (q:Addr) (u:Value),q.block=b→(w.setCell q u).cell? p=w.cell? p:=fun w q u hq=>World.cell?_setCell_other w q p u (fun e=>h (by rw [←hq,e]));rw [key _ _ _ rfl,key _ _ _ rfl,key _ _ _ rfl,key _ _ _ rfl,key _ _ _ rfl]
section
variable {w wr w3 w4:World} {rb B g lo:Nat} {row:Option Nat} {o:Obj}
theorem ax {b:Nat} (hg4:(w3.alloc o).grownBy w4 row) (hb:b<w3.heap.size) (hne:row≠some b):w4.heap[b]? = w3.heap[b]?:=
 (hg4.block b (by rw [aj];omega) (fun e=>hne e.symm)).trans (heap_alloc_old _ _ hb)
theorem Fr.next (h:w.grownBy w3 (some rb)) (hg4:(w3.alloc o).grownBy w4 row) (hrow:∀ k,row=some k→w.heap.size≤k) (p:Addr) (hp:w.heap.size≤p.block) (u:Value):w.grownBy (w4.setCell p u) (some rb):=by
 have h2:=Fr.alloc h o;exact Fr.new ⟨hg4.os.trans h2.os,hg4.tape.trans h2.tape,hg4.output.trans h2.output,Nat.le_trans h2.size hg4.size,fun k hk hne=>(hg4.block k (Nat.lt_of_lt_of_le hk h2.size) (fun e=>by have:=hrow k e.symm;omega)).trans (h2.block k hk hne)⟩ p hp u
theorem qdH (hg3:wr.grownBy w3 (some rb)) (hrb:rb<B) (hg4:(w3.alloc o).grownBy w4 row) (p:Addr) (hp:p.block<B) (u:Value) (q:Addr) (h1:B≤q.block) (h2:q.block<wr.heap.size) (h3:row≠some q.block):(w4.setCell p u).cell? q=wr.cell? q:=by
 have hs:=hg3.size;rw [World.cell?_setCell_other w4 p q u (fun e=>by rw [e] at hp;omega),World.cell?_of_block (ax hg4 (by omega) h3)];exact World.cell?_of_block (hg3.block q.block h2 (fun e=>by have:=Option.some.inj e;omega))
theorem It.next {v:V} {c5:List Value} (hg3:wr.grownBy w3 (some rb)) (hB:B≤wr.heap.size) (hg4:(w3.alloc o).grownBy w4 row) (hrow:∀ k,row=some k→k<wr.heap.size) (hat:row=some g∨g=w3.heap.size+1)
  (hl:c5.length=5) (h1:∀ u∈c5,u.oneCell'=true) (hlo:wr.heap.size≤lo) (hV:RdV w3 lo w3.heap.size v c5) (p:Addr) (hp:p.block<B) (u:Value):It (w4.setCell p u) B (some g) v c5:=by
 have hs:=hg3.size;have hs4:=hg4.size;rw [aj] at hs4;refine ⟨hl,h1,lo,w3.heap.size,by omega,by simp;omega,fun k hk=>?_,RdV.keep (fun q hq1 hq2=>?_) (Nat.le_refl _) (Nat.le_refl _) v c5 hV⟩
 ·obtain rfl:=Option.some.inj hk;rcases hat with h | h
  ·have:=hrow _ h;omega
  ·omega
 ·rw [World.cell?_setCell_other w4 p q u (fun e=>by rw [e] at hp;omega)];exact World.cell?_of_block (ax hg4 hq2 (fun e=>by have:=hrow _ e;omega))
theorem Its.next {acc:List V} {cs:List Value} {v:V} {c5:List Value} (hg3:wr.grownBy w3 (some rb)) (hrb:rb<B) (hB:B≤wr.heap.size) (hg4:(w3.alloc o).grownBy w4 row) (hrow:∀ k,row=some k→k<wr.heap.size) (hat:row=some g∨g=w3.heap.size+1)
  (hits:Its wr B row acc cs) (hl:c5.length=5) (h1:∀ u∈c5,u.oneCell'=true) (hlo:wr.heap.size≤lo) (hV:RdV w3 lo w3.heap.size v c5) (p:Addr) (hp:p.block<B) (u:Value):Its (w4.setCell p u) B (some g) (acc++[v]) (cs++c5):=by
 have hs:=hg3.size;have hs4:=hg4.size;rw [aj] at hs4;refine Its.snoc (It.next hg3 hB hg4 hrow hat hl h1 hlo hV p hp u) (hits.keep (fun q=>qdH hg3 hrb hg4 p hp u q) (by simp;omega) (fun k hk=>?_));obtain rfl:=Option.some.inj hk;rcases hat with h | h
 ·exact .inl h
 ·exact .inr (by omega)
theorem cR.next {acc:List V} {ns:List (List UInt8)} {nm:List UInt8} {cs:List Value} {v:V} {c5:List Value} (hg3:wr.grownBy w3 (some rb)) (hrb:rb<B) (hB:B≤wr.heap.size) (hg4:(w3.alloc o).grownBy w4 row) (hrow:∀ k,row=some k→k<wr.heap.size) (hat:row=some g∨g=w3.heap.size+1)
  (hits:cR wr B row ns acc cs) (hl:c5.length=5) (h1:∀ u∈c5,u.oneCell'=true) (hlo:wr.heap.size≤lo) (hV:RdV w3 lo w3.heap.size v c5) (p:Addr) (hp:p.block<B) (u:Value):cR (w4.setCell p u) B (some g) (ns++[nm]) (acc++[v]) (cs++(.string (ae nm)::c5)):=by
 have hs:=hg3.size;have hs4:=hg4.size;rw [aj] at hs4;refine cR.snoc (It.next hg3 hB hg4 hrow hat hl h1 hlo hV p hp u) (hits.keep (fun q=>qdH hg3 hrb hg4 p hp u q) (by simp;omega) (fun k hk=>?_));obtain rfl:=Option.some.inj hk;rcases hat with h | h
 ·exact .inl h
 ·exact .inr (by omega)
end
