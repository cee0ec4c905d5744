/- Merged: PoH CdF CdAw0 PoAw PoW6 PaPa PaPl3 PaAw0 PaCh PaAp. -/
import Derived.Deep.DeepCutAuto
import Derived.Deep.RegionWith
import Derived.Laws.Concat
import Derived.Test.YtnecfkhbncepnaaGreatDoorTt51
import Derived.Test.YtnecfkhbncepnaaGreatDoorTt32
import Derived.Test.YtnecfkhbncepnaaGreatDoorTt44
set_option maxRecDepth 100000
set_option maxHeartbeats 1000000
set_option linter.unusedSimpArgs false
namespace Go.Proofs.YtnecfkhbncepnaaGreatDoor
namespace Po
open Go.Proofs Go.RowKit Utf Sc Re Tr Nu
structure Gs (f:V→Option V) (l acc acc':List V) (k:Nat):Prop where
 ex:∃ g0,acc'=acc++g0∧qpl f l=(qpl f (l.drop k)).map fun r=>g0++r
 sz:acc'.length+bu (l.drop k)≤1000000000000
end Po
namespace Cd
open Go.Proofs Go.RowKit Utf Sc Re Tr Po
def qq2 (v:V) (w:World) (e:Ending) (w':World):Prop:=
 ∃ (x:Value) (ps:List (List UInt8)),e = .returned x∧w'.ownsRow w.heap.size 9 1 x ps.length (bo ps)∧ps.Pairwise (fun a b=>ltN a b=true)∧(∀ n,n∈ps↔dD v n=true)∧Below w.heap.size w w'
def qgL (v:V) (w:World) (e:Ending) (w':World):Prop:=
 ∃ (v1:V) (cs:List Value) (F:List Nat),e = .returned (.agg cs.toArray)∧Srt v1 v∧RdF w' (dT v v1) cs F∧F.Nodup∧(∀ k∈F,w.heap.size≤k∧k<w'.heap.size)∧Below w.heap.size w w'
theorem qqM (v:V) (cs:List Value) (w:World) (hz:szA 4611686018427387904 v) (hv:RdA w 0 w.heap.size v cs) :
  Calls Tryz.prog 6 #[.agg cs.toArray] w (qg0 v 1500 w):=by
 obtain ⟨A0,c0,A20,c20,ecs, -⟩:=id hv.cells;have HF:=zh (fun (W:World) (hW:Below w.heap.size w W)=>qse v cs 1500 (by omega) W hz (hv.below hW (Nat.le_refl _) hW.size));subst ecs;clear hv hz;obtain ⟨W0,hW0⟩:∃ W0,W0=w.alloc (.cells #[.int .i64 v.k,.int .i64 v.n,.string (aa v.s),.slice A0 v.l.length c0,.slice A20 v.ms.length c20] 25):=⟨_,rfl⟩
 have HB0:=zh (show Below w.heap.size w W0 by rw [hW0];exact (Below.refl _ _).alloc (Nat.le_refl _) _);have HR0:=zh (show W0.heap[w.heap.size]? = some (.cells #[.int .i64 v.k,.int .i64 v.n,.string (aa v.s),.slice A0 v.l.length c0,.slice A20 v.ms.length c20] 25 (0,0)) by rw [hW0];exact ag _ _);have HW0:=zh hW0;clear hW0;obtain ⟨k,hk⟩:∃ x,v.k=x:=⟨_,rfl⟩
 obtain ⟨n,hn⟩:∃ x,v.n=x:=⟨_,rfl⟩
 obtain ⟨S,hS⟩:∃ x,aa v.s=x:=⟨_,rfl⟩
 obtain ⟨l,hl⟩:∃ x,v.l.length=x:=⟨_,rfl⟩
 obtain ⟨m,hm⟩:∃ x,v.ms.length=x:=⟨_,rfl⟩
 rw [hk,hn,hS,hl,hm] at HF HR0 HW0 ⊢;clear hk hn hS hl hm;go_enter Tryz.func6,Tryz.ntmps6;have q:=HR0.out;rw [HW0.out] at q;obtain ⟨⟨p0,p1,p2,p3,p4⟩, -⟩:=ae q;clear q;go_wp2_with fail;rw [←HW0.out];refine (HF.out _ HB0.out).mono ?_;rintro e w1 ⟨⟨b,rfl,hb⟩,hbel⟩;have HX:=zh hb;have HY:=zh (HB0.out.trans (hbel.mono HB0.out.size));clear hb hbel p0 p1 p2 p3 p4;go_wp2_with fail;go_ret;exact ⟨⟨b,rfl,HX.out⟩,HY.out⟩
end Cd
namespace Cd
open Go.Proofs Utf Sc Re Tr Em
set_option linter.unusedSimpArgs false
def awV:V:=mpV ([[64,116,121,112,101],[118,101,114,115,105,111,110],[117,105,100],[107,105,110,100],[97,46,98,58,99]],[txV [67,97,114,100],txV [49,46,48],txV [117],txV [105,110,100,105,118,105,100,117,97,108],mpV ([[122],[121]],[nmV 1,nmV 2])])
def awW:V:=mpV ([[117,105,100],[120]],[txV [],nmV 1])
def awS:V:=mpV ([[64,116,121,112,101],[97,46,98,58,99],[107,105,110,100],[117,105,100],[118,101,114,115,105,111,110]],[txV [67,97,114,100],mpV ([[121],[122]],[nmV 2,nmV 1]),txV [105,110,100,105,118,105,100,117,97,108],txV [117],txV [49,46,48]])
def awN:V:=mpV ([[97,46,98,58,99],[117,105,100],[118,101,114,115,105,111,110]],[mpV ([[121],[122]],[nmV 2,nmV 1]),txV [117],txV [49,46,48]])
theorem qpX:eb [123,34,64,116,121,112,101,34,58,34,67,97,114,100,34,44,34,118,101,114,115,105,111,110,34,58,34,49,46,48,34,44,34,117,105,100,34,58,34,117,34,44,34,107,105,110,100,34,58,34,105,110,100,105,118,105,100,117,97,108,34,44,34,97,46,98,58,99,34,58,123,34,122,34,58,49,44,34,121,34,58,50,125,125] =
 ([(1,0,[123],0),(4,0,[64,116,121,112,101],1),(1,0,[58],8),(4,0,[67,97,114,100],9),(1,0,[44],15),(4,0,[118,101,114,115,105,111,110],16),(1,0,[58],25),(4,0,[49,46,48],26),(1,0,[44],31),(4,0,[117,105,100],32),(1,0,[58],37),(4,0,[117],38),(1,0,[44],41),(4,0,[107,105,110,100],42),(1,0,[58],48),(4,0,[105,110,100,105,118,105,100,117,97,108],49),(1,0,[44],61),(4,0,[97,46,98,58,99],62),(1,0,[58],69),(1,0,[123],70),(4,0,[122],71),(1,0,[58],74),(3,1,[],75),(1,0,[44],76),(4,0,[121],77),(1,0,[58],80),(3,2,[],81),(1,0,[125],82),(1,0,[125],83)],0,0):=by decide +kernel
theorem qsk:rdV [123,34,64,116,121,112,101,34,58,34,67,97,114,100,34,44,34,118,101,114,115,105,111,110,34,58,34,49,46,48,34,44,34,117,105,100,34,58,34,117,34,44,34,107,105,110,100,34,58,34,105,110,100,105,118,105,100,117,97,108,34,44,34,97,46,98,58,99,34,58,123,34,122,34,58,49,44,34,121,34,58,50,125,125]=(awV,0,0):=
 qmQ qpX (by simp [rdT,eE,pV,pL,pM,tk,isM,qcO,Rs.map,txV,nmV,wdV,lsV,mpV,dy,da,V0,awV,awW])
theorem qqN:eb [123,34,117,105,100,34,58,34,34,44,34,120,34,58,49,125] =
 ([(1,0,[123],0),(4,0,[117,105,100],1),(1,0,[58],6),(4,0,[],7),(1,0,[44],9),(4,0,[120],10),(1,0,[58],13),(3,1,[],14),(1,0,[125],15)],0,0):=by decide +kernel
theorem qsr:rdV [123,34,117,105,100,34,58,34,34,44,34,120,34,58,49,125]=(awW,0,0):=
 qmQ qqN (by simp [rdT,eE,pV,pL,pM,tk,isM,qcO,Rs.map,txV,nmV,wdV,lsV,mpV,dy,da,V0,awV,awW])
theorem qtb:∀ n,dD awV n=false:=(qig awV).1 (by decide +kernel)
theorem qou {v:V} (hk:v.k=6) {n:List UInt8} (h:dD v n=true):n∈v.ns++(Sm.af Sm.nm0).map Sm.Pr.nm:=by
 rw [List.mem_append];rcases (qfW hk n).1 h with ⟨m,h1,h2, -⟩ | ⟨p,h1, -,h2, -⟩ | ⟨rfl,h1, -⟩
 ·exact .inl (h2▸qkQ h1)
 ·exact .inr (List.mem_map.2 ⟨p,h1,h2⟩)
 ·exact .inl h1
theorem qs0:(awW.ns++(Sm.af Sm.nm0).map Sm.Pr.nm).all (fun n=>decide (dD awW n=true↔n∈[[117,105,100],[118,101,114,115,105,111,110],[120]]))=true:=by decide +kernel
theorem qqF : [[117,105,100],[118,101,114,115,105,111,110],[120]].all (fun n=>dD awW n)=true:=by decide +kernel
theorem qrE (n:List UInt8):dD awW n=true↔n∈[[117,105,100],[118,101,114,115,105,111,110],[120]]:=by
 constructor
 ·intro h;have:=List.all_eq_true.1 qs0 n (qou rfl h);exact (of_decide_eq_true this).1 h
 ·intro h;exact List.all_eq_true.1 qqF n h
theorem qln {l r:List (List UInt8)} (hl:l.Pairwise fun a b=>ltN a b=true) (hr:r.Pairwise fun a b=>ltN a b=true) (h:∀ n,n∈l↔n∈r):l=r:=by
 have nd:∀ {q:List (List UInt8)},(q.Pairwise fun a b=>ltN a b=true)→q.Nodup:=fun hq=>hq.imp fun {a b} h e=>by subst e;rw [cD.irrefl] at h;cases h
 have le:∀ {q:List (List UInt8)},(q.Pairwise fun a b=>ltN a b=true)→q.Pairwise (fun a b=>ltN b a=false):=fun hq=>hq.imp fun {a b} h=>by
  cases hc:ltN b a with
  | false=>rfl
  | true=>
   have:=cD.trans _ _ _ h hc;rw [cD.irrefl] at this;cases this
 exact qcI l r ((List.perm_ext_iff_of_nodup (nd hl) (nd hr)).2 h) (le hl) (le hr)
theorem qsH:dT awV awS=awN:=by kernel_rfl
theorem qny:chk awN=0:=by decide +kernel
theorem qgj:chk awV=0:=by decide +kernel
theorem qsm:qmb awN=[123,34,97,46,98,58,99,34,58,123,34,121,34,58,50,44,34,122,34,58,49,125,44,34,117,105,100,34,58,34,117,34,44,34,118,101,114,115,105,111,110,34,58,34,49,46,48,34,125]:=by
 unfold qmb;rw [if_pos qny]
 decide +kernel
theorem cS (v:V) (h:v=awV∨v=awW∨v=awN):wfV v∧szU v≤1000∧aZ v:=by
 rcases h with rfl | rfl | rfl
 ·refine ⟨?_,?_,?_⟩
  ·simp [awV,mpV,nmV,txV,wfV,wfL];decide
  ·simp [awV,mpV,nmV,txV,szU,aL]
  ·simp [awV,mpV,nmV,txV,aZ,br]
 ·refine ⟨?_,?_,?_⟩
  ·simp [awW,mpV,nmV,txV,wfV,wfL];decide
  ·simp [awW,mpV,nmV,txV,szU,aL]
  ·simp [awW,mpV,nmV,txV,aZ,br]
 ·refine ⟨?_,?_,?_⟩
  ·simp [awN,mpV,nmV,txV,wfV,wfL];decide
  ·simp [awN,mpV,nmV,txV,szU,aL]
  ·simp [awN,mpV,nmV,txV,aZ,br]
theorem eR (v:V) (hl:v.l=[]) (hn:v.ns=[]) (hm:v.ms=[]):Srt v v:=by
 rw [qbu,hl,hn,hm];exact ⟨rfl,rfl,rfl,(by rw [dM]),rfl,List.Pairwise.nil,[],List.Perm.refl _,rfl,(by rw [List.map_nil,dM])⟩
theorem qqD:Srt (mpV ([[121],[122]],[nmV 2,nmV 1])) (mpV ([[122],[121]],[nmV 1,nmV 2])):=by
 rw [qbu];refine ⟨rfl,rfl,rfl,(by show dM [] [];rw [dM]),rfl,(by show List.Pairwise _ [[121],[122]];decide +kernel),[([121],nmV 2),([122],nmV 1)],(List.Perm.swap _ _ _),rfl,?_⟩;show dM [nmV 2,nmV 1] [nmV 2,nmV 1];rw [bE];refine ⟨rfl,fun i h1 h2=>?_⟩
 match i,h1 with
 | 0,_=>exact eR _ rfl rfl rfl
 | 1,_=>exact eR _ rfl rfl rfl
theorem qtj:Srt awS awV:=by
 rw [qbu];refine ⟨rfl,rfl,rfl,(by show dM [] [];rw [dM]),rfl,(by show List.Pairwise _ [[64,116,121,112,101],[97,46,98,58,99],[107,105,110,100],[117,105,100],[118,101,114,115,105,111,110]];decide +kernel),[([64,116,121,112,101],txV [67,97,114,100]),([97,46,98,58,99],mpV ([[122],[121]],[nmV 1,nmV 2])),([107,105,110,100],txV [105,110,100,105,118,105,100,117,97,108]),([117,105,100],txV [117]),([118,101,114,115,105,111,110],txV [49,46,48])],(List.Perm.cons _ (List.reverse_perm [([118,101,114,115,105,111,110],txV [49,46,48]),([117,105,100],txV [117]),([107,105,110,100],txV [105,110,100,105,118,105,100,117,97,108]),([97,46,98,58,99],mpV ([[122],[121]],[nmV 1,nmV 2]))])),rfl,?_⟩;show dM [txV [67,97,114,100],mpV ([[121],[122]],[nmV 2,nmV 1]),txV [105,110,100,105,118,105,100,117,97,108],txV [117],txV [49,46,48]] [txV [67,97,114,100],mpV ([[122],[121]],[nmV 1,nmV 2]),txV [105,110,100,105,118,105,100,117,97,108],txV [117],txV [49,46,48]];rw [bE];refine ⟨rfl,fun i h1 h2=>?_⟩
 match i,h1 with
 | 0,_=>exact eR _ rfl rfl rfl
 | 1,_=>exact qqD
 | 2,_=>exact eR _ rfl rfl rfl
 | 3,_=>exact eR _ rfl rfl rfl
 | 4,_=>exact eR _ rfl rfl rfl
theorem qsM {v:V} (h:Srt v awV):dT awV v=awN:=by
 have hl:aZ awV:=(cS awV (.inl rfl)).2.2;have ho:oV awV:=qcJ _ (qav qgj).2.2;have hn:ndV awV:=qs2 hl qgj;rw [qnk (ht v) v awS awV awV (Nat.le_refl _) h qtj (qgu (ht v) v awV awV (Nat.le_refl _) h h hl hl ho hn) hl hl ho ho hn hn];exact qsH
end Cd
end Go.Proofs.YtnecfkhbncepnaaGreatDoor
set_option linter.unusedSimpArgs false
namespace Go.Proofs.YtnecfkhbncepnaaGreatDoor
namespace Po
open Go.Proofs Go.RowKit Utf Sc Re Tr Nu
theorem _root_.Go.Proofs.YtnecfkhbncepnaaGreatDoor.Re.RdA.more {w:World} {lo hi hi':Nat} {v:V} {cs:List Value} (h:RdA w lo hi v cs) (hh:hi≤hi'):RdA w lo hi' v cs:=RdA.keep (fun _ _ _=>rfl) (Nat.le_refl _) hh _ _ h
end Po
end Go.Proofs.YtnecfkhbncepnaaGreatDoor
set_option linter.unusedSimpArgs false
namespace Go.Proofs.YtnecfkhbncepnaaGreatDoor
namespace Po
open Go.Proofs Go.RowKit Utf Sc Re Tr Em
theorem _root_.Go.Proofs.YtnecfkhbncepnaaGreatDoor.Re.RdA.wide {w:World} {lo hi:Nat} {v:V} {cs:List Value} (h:RdA w lo hi v cs):RdA w 0 hi v cs:=RdA.keep (fun _ _ _=>rfl) (Nat.zero_le _) (Nat.le_refl _) _ _ h
theorem qoe (v:V) (cv:List Value) (w:World) (hl:Em.aZ v) (zv:szU v≤1048576) (fv:wfV v) (hc:chk v=0) (hv:RdA w 0 w.heap.size v cv):Calls Tryz.prog 13 #[.agg cv.toArray] w fun e w'=>e = .returned (.tuple #[.string (aa (qmb v)),.int .i64 0])∧Below w.heap.size w w':=by
 refine (Em.qic v cv 0 w hl (by omega) (dm _ v fv (by omega)) hv).mono ?_;rintro e w' ⟨e1,e2⟩;rw [hc] at e1;exact ⟨e1,e2⟩
end Po
namespace Pa
open Go.Proofs Go.RowKit Go.Lib Utf Sc Re Tr Po
def pth (nm:List UInt8):List (List UInt8):=(qsX (47::nm)).getD []
def RdP (w:World) (B:Nat) (val:Value) (L:List (List (List UInt8))):Prop:=
 ∃ xs:List Value,w.ownsRow B 28 1 val L.length xs∧∀ i (h1:i<xs.length) (h2:i<L.length),w.ownsRow B 9 1 xs[i] L[i].length (bo L[i])
end Pa
namespace Pa
open Go.Proofs Go.RowKit Utf Sc Re Tr Po
open Em (aZ br szU aL wfV wfL d7 cO)
theorem qpx (nm:List UInt8):((pth nm).map List.length).sum≤nm.length:=by
 unfold pth;cases h:qsX (47::nm) with
 | none=>simp
 | some ps=>
  rw [qsX,if_pos rfl] at h;have:=(qaV _ _ _ _ h).2
  simpa using this
theorem qdB:∀ (ns:List (List UInt8)) (ms:List V),((((ns.zip ms).map fun x=>(pth x.1,x.2)).map fun m=>szU m.2+1+(m.1.map List.length).sum).sum)≤(ns.map fun x=>1+x.length).sum+aL ms
 | [],ms=>by simp
 | _::_,[]=>by simp
 | n::ns,m::ms=>by
  have h1:=qdB ns ms;have h2:=qpx n;simp only [List.zip_cons_cons,List.map_cons,List.sum_cons,aL] at h1 ⊢;omega
end Pa
namespace Pa
open Go.Proofs Utf Sc Re Tr Po Em
set_option linter.unusedSimpArgs false
def awV:V:=mpV ([[97],[99]],[mpV ([[98]],[nmV 1]),nmV 2])
def awW:V:=mpV ([[97],[99],[100]],[mpV ([],[]),nmV 3,nmV 4])
end Pa
namespace Pa
open Go.Proofs Go.RowKit Go.Lib Utf Sc Re Tr Po
open Em (aZ br szU aL)
theorem qn8 (v:V):v.ms.length≤szU v:=by
 have h:∀ l:List V,l.length≤aL l:=fun l=>by
  induction l with
  | nil=>simp
  | cons a r ih=>
   have:1≤szU a:=by rw [qdA];omega
   rw [aL,List.length_cons];omega
 rw [qdA];have:=h v.ms;omega
theorem qh1.keep {w w':World} {A:Option Addr} {T:List M3} {FM:List Nat} (h:qh1 w A T FM) (hk:∀ k∈FM,w'.heap[k]? = w.heap[k]?):qh1 w' A T FM where
 at_:=fun h0=>by
  obtain ⟨g,e,e2,hc⟩:=h.at_ h0;exact ⟨g,e,e2,fun j hj=>(hc j hj).keep (hk g (by rw [e2];simp))⟩
 none_:=h.none_
 rd:=fun t ht=>RdF.keep _ _ _ (fun k hk2=>hk k (h.sub (qo8 ht hk2))) (h.rd t ht)
end Pa
namespace Pa
open Go.Proofs Go.RowKit Go.Lib Utf Sc Re Tr Po
open Em (aZ br szU aL wfV wfL dm)
theorem cH {w:World} {b:Nat} {t:TypeId} {v0 v1 v2 v3 v4 v5:Value} {fr:Nat×Nat} (h:w.heap[b]? = some (.cells #[v0,v1,v2,v3,v4,v5] t fr)) :
  w.cell? ⟨b,0,none⟩=some v0∧w.cell? ⟨b,1,none⟩=some v1∧w.cell? ⟨b,2,none⟩=some v2∧w.cell? ⟨b,3,none⟩=some v3∧w.cell? ⟨b,4,none⟩=some v4∧w.cell? ⟨b,5,none⟩=some v5:=by
 simp [World.cell?,h]
theorem qg7 {w w':World} {B e s n:Nat} {v:Value} {xs:List Value} (h:w.ownsRow B e s v n xs) (hk:∀ g,B≤g→g<w.heap.size→w'.heap[g]? = w.heap[g]?):w'.ownsRow B e s v n xs:=by
 obtain ⟨q1,q⟩:=h;refine ⟨q1,?_⟩;rcases q with q | ⟨g,cap,cur,e1,q3,q4,q5⟩
 ·exact .inl q
 ·exact .inr ⟨g,cap,cur,e1,q3,(hk g q3 (Array.getElem?_eq_some_iff.1 q4).1).trans q4,q5⟩
