/- Merged: RfD RfE. -/
import Derived.Test.YtofelafamfckiaaGreatDoorTt23
set_option maxRecDepth 100000
set_option maxHeartbeats 8000000
namespace Go.Proofs.YtofelafamfckiaaGreatDoor
namespace Re
open Go.RowKit Utf Sc
def qkH (rb:Nat) (vL:Value) (ts:List Tok) (E:Int) (g:Nat):Prop:=
 ∀ (d i p:Nat) (w:World),Rdr w rb vL i p→RdT w rb vL (aM ts E)→i≤ts.length→p≤8192→d≤17→2*(ts.length-i)+2≤g→
  Calls Tryz.prog 51 #[.pointer (some ⟨rb,0,none⟩),.int .i64 d] w (ck rb vL (pV ts E g d i p) w)
def qeo (w:World) (rb:Nat):Nat:=match w.cell? ⟨rb,1,none⟩ with
 | some (.int _ k)=>k.toNat
 | _=>0
theorem Rdr.next {w:World} {rb:Nat} {vL:Value} {i p:Nat} (h:Rdr w rb vL i p):qeo w rb=i:=by
 unfold qeo;rw [h.cells.2.2.1];exact Int.toNat_natCast i
theorem qit {w:World} {base E size n:Nat} {v:Value} {xs:List Value} (h:w.ownsRow base E size v n xs):∃ A c,v = .slice A n c:=by
 rcases h.2 with ⟨rfl,rfl⟩ | ⟨b,cap,cur,rfl,_⟩
 ·exact ⟨none,0,rfl⟩
 ·exact ⟨_,cap,rfl⟩
theorem qck:(Tryz.prog.info? 25).map (fun i=>(i.zero,i.size,i.bytes))=some (some (.agg #[.int .i64 0,.int .i64 0,.string ⟨#[]⟩,.slice none 0 0,.slice none 0 0]),5,80):=by kernel_rfl
theorem aB {w:World} {base E size n b:Nat} {v:Value} {xs:List Value} (h:w.ownsRow base E size v n xs) (hb:b<base):v.ownBlock≠some b:=fun e=>by have:=(h.lt b e).1;omega
def LsR (w wr:World) (rb:Nat) (vL:Value) (ts:List Tok) (E:Int) (f d:Nat) (R:Rs (List V)):Prop:=
 ∃ (acc:List V) (j q f':Nat) (vl:Value) (cs:List Value),
  R=(gL ts E f' d j q acc.isEmpty).map (fun l=>acc++l)∧j≤ts.length∧q≤8192∧f'≤f∧2*(ts.length-j)+3≤f'∧acc.length≤j∧
  Rdr wr rb vL j q∧w.grownBy wr (some rb)∧wr.heap[w.heap.size]? = some (.cells #[.int .i64 0,.int .i64 0,.string ⟨#[]⟩,.slice none 0 0,.slice none 0 0] 25 (0,0))∧
  wr.heap[w.heap.size+1]? = some (.cells #[.int .i64 5,.int .i64 0,.string ⟨#[]⟩,vl,.slice none 0 0] 25 (0,0))∧
  wr.ownsRow (w.heap.size+2) 25 5 vl acc.length cs∧Its wr (w.heap.size+2) vl.ownBlock acc cs
def LsE (wr:World) (rb:Nat) (vL:Value) (ts:List Tok) (E:Int) (f' d j q:Nat) (acc:List V) (R:Rs (List V)) (e:Ending) (w':World):Prop:=
 wr.grownBy w' (some rb)∧((e = .returned (.bool true)∧R = .ok acc (j+1) q∧Rdr w' rb vL (j+1) q)∨
  (∃ j',e = .returned (.bool false)∧R=(pL ts E f' d j' q).map (fun l=>acc++l)∧j≤j'∧j'≤ts.length∧Rdr w' rb vL j' q)∨(∃ a y,e=qdT a y∧R = .bad a y))
theorem LsE.of {wr w':World} {rb:Nat} {vL:Value} {ts:List Tok} {E:Int} {f' d j q:Nat} {acc:List V} {R:Rs (List V)} {e:Ending} (hR:R=(gL ts E f' d j q acc.isEmpty).map (fun l=>acc++l)) (hj:j≤ts.length)
  (h:qfy rb vL (qhf (tk ts E j) 93 acc.length) j q (tk ts E j).2.2.2 50 wr e w'):LsE wr rb vL ts E f' d j q acc R e w':=by
 obtain ⟨hg,h⟩:=h;refine ⟨hg,?_⟩;unfold qhf at h;unfold gL at hR;by_cases c1:isM (tk ts E j) 93=true
 ·rw [if_pos c1] at h hR;rcases h with ⟨_,h1,h2⟩ | ⟨h,_⟩ | ⟨h,_⟩ | ⟨h,_⟩
  ·exact .inl ⟨h1,by rw [hR];simp [Rs.map],h2⟩
  all_goals cases h
 ·rw [if_neg c1] at h hR;by_cases c0:acc.length=0
  ·rw [if_pos c0] at h;obtain rfl:=List.eq_nil_of_length_eq_zero c0;rw [show ([]:List V).isEmpty=true from rfl,if_pos rfl] at hR;rcases h with ⟨h,_⟩ | ⟨_,h1,h2⟩ | ⟨h,_⟩ | ⟨h,_⟩
   ·cases h
   ·exact .inr (.inl ⟨j,h1,hR,Nat.le_refl _,hj,h2⟩)
   ·cases h
   ·cases h
  ·rw [if_neg c0] at h;have e0:acc.isEmpty=false:=by
    cases acc with
    | nil=>exact absurd rfl c0
    | cons a r=>rfl
   rw [e0,if_neg (show ¬(false=true) by decide)] at hR;by_cases c2:isM (tk ts E j) 44=true
   ·rw [if_pos c2] at h hR;rcases h with ⟨h,_⟩ | ⟨h,_⟩ | ⟨_,h1,h2⟩ | ⟨h,_⟩
    ·cases h
    ·cases h
    ·exact .inr (.inl ⟨j+1,h1,hR,by omega,by have:=qbc c2;omega,h2⟩)
    ·cases h
   ·rw [if_neg c2] at h hR;rcases h with ⟨h,_⟩ | ⟨h,_⟩ | ⟨h,_⟩ | ⟨_,h1⟩
    ·cases h
    ·cases h
    ·cases h
    ·exact .inr (.inr ⟨_,_,h1,hR⟩)
theorem qi9 (rb:Nat) (vL:Value) (ts:List Tok) (E:Int) (hi2:ts.length≤65536) (f:Nat) (IH:∀ g,g<f→qkH rb vL ts E g) (d i p:Nat) (w:World) (hp:Rdr w rb vL i p) (hr:RdT w rb vL (aM ts E)) (hi:i<ts.length)
  (hm:isM (tk ts E i) 91=true) (hpp:p≤8192) (hd:d≤16) (hf:2*(ts.length-(i+1))+3≤f) :
  Calls Tryz.prog 83 #[.pointer (some ⟨rb,0,none⟩),.int .i64 d] w (ck rb vL ((gL ts E f d (i+1) p true).map lsV) w):=by
 have hlt:=hp.cells.1;obtain ⟨i0,hi0,hz0,hz1,hz2⟩:=info_parts qck;obtain ⟨wa,hwa⟩:∃ wa,wa=(w.alloc (.cells #[.int .i64 0,.int .i64 0,.string ⟨#[]⟩,.slice none 0 0,.slice none 0 0] 25)).alloc (.cells #[.int .i64 5,.int .i64 0,.string ⟨#[]⟩,.slice none 0 0,.slice none 0 0] 25):=⟨_,rfl⟩
 have hs1:(w.alloc (.cells #[.int .i64 0,.int .i64 0,.string ⟨#[]⟩,.slice none 0 0,.slice none 0 0] 25)).heap.size=w.heap.size+1:=aj _ _;have hba:Below w.heap.size w wa:=by rw [hwa];exact ((Below.refl _ _).alloc (Nat.le_refl _) _).alloc (by rw [hs1];omega) _
 have hsa:wa.heap.size=w.heap.size+2:=by rw [hwa,aj,aj]
 have hza:wa.heap[w.heap.size]? = some (.cells #[.int .i64 0,.int .i64 0,.string ⟨#[]⟩,.slice none 0 0,.slice none 0 0] 25 (0,0)):=by rw [hwa];exact (heap_alloc_old _ _ (by rw [hs1];omega)).trans (heap_alloc_new w _)
 have hzb:wa.heap[w.heap.size+1]? = some (.cells #[.int .i64 5,.int .i64 0,.string ⟨#[]⟩,.slice none 0 0,.slice none 0 0] 25 (0,0)):=by
  have:=heap_alloc_new (w.alloc (.cells #[.int .i64 0,.int .i64 0,.string ⟨#[]⟩,.slice none 0 0,.slice none 0 0] 25)) (.cells #[.int .i64 5,.int .i64 0,.string ⟨#[]⟩,.slice none 0 0,.slice none 0 0] 25);rw [hs1] at this;rw [hwa];exact this
 have hW:=qbq rb vL ts E i p 91 ⟨#[91]⟩ wa (hp.below hba) (aW hr (Nat.le_of_lt hlt) (Fr.of rb hba)) (by omega) (by omega) (by rw [ByteArray.toList_eq]);rw [hm,hwa] at hW;have hwr:IntKind.i64.wrap ((d:Int)+1)=(d:Int)+1:=IntWalk.i64_in _ (by omega);obtain ⟨R,hR⟩:∃ R,R=gL ts E f d (i+1) p true:=⟨_,rfl⟩
 rw [←hR];have HW:=zh hW;have HWA:=zh hwa;have HFA:=zh (Fr.of rb hba);have HZA:=zh hza;have HZB:=zh hzb;have HR:=zh hR;have HRT:=zh hr;have HIH:=zh IH;clear hW hwa hba hza hzb hR hr IH hp hm;go_enter Tryz.func83,Tryz.ntmps83;go_wp2_with fail;refine HW.out.mono ?_;rw [←HWA.out];rintro e w1 ⟨hf1,⟨_,rfl,hp1⟩ | ⟨h,_⟩⟩
 ·have hlt1:=hp1.cells.1;have HP1:=zh hp1;clear hp1;have HF1:=zh hf1;clear hf1;go_wp2_with fail;go_loopw [14] (fun _ wr=>LsR w wr rb vL ts E f d R) (fun _ wr=>ts.length-qeo wr rb)
  case atStart=>
   refine ⟨[],i+1,p,f,.slice none 0 0,[],by rw [HR.out];exact (Rs.map_id _).symm,by omega,hpp,Nat.le_refl _,hf,Nat.zero_le _,HP1.out,Fr.trans HFA.out HF1.out,au HF1.out (by omega) (by omega) HZA.out,au HF1.out (by omega) (by omega) HZB.out,World.ownsRow_nil _ _ _ _,rfl⟩
  case round=>
   obtain ⟨acc,j,q,f',vl,cs,hR1,hj,hq,hff,hfu,hal,hpr,hgr,hz,hv,hown,hits⟩:=hrel;have hE:=(qe6 rb vL ts E j q acc.length 93 ⟨#[93]⟩ wr hpr (aW HRT.out (Nat.le_of_lt hlt) hgr) hj (by omega) (by rw [ByteArray.toList_eq])).mono fun e w' h=>LsE.of hR1 hj h;obtain ⟨A,c,rfl⟩:=qit hown;have hltr:=hpr.cells.1;have hsr:=hgr.size;have hsv:w.heap.size+1<wr.heap.size:=(Array.getElem?_eq_some_iff.1 hv).1;obtain ⟨y0,y1,y2,y3,y4⟩:=aw hv;have HE:=zh hE;clear hE;have HG:=zh hgr;clear hgr;have HZ:=zh hz;clear hz;have HV:=zh hv;clear hv;have HO:=zh hown;clear hown;have HI:=zh hits;clear hits;have HPR:=zh hpr;clear hpr;clear hR1;go_wp2_with fail;refine HE.out.mono ?_;rintro e w2 ⟨hg2,⟨rfl,hR2,hp2⟩ | ⟨j',rfl,hR2,hj1,hj2,hp2⟩ | ⟨a,y,rfl,hR2⟩⟩
   ·-- the end of the list
    have hs2:=hg2.size;have hz2:=au hg2 (by omega) (by omega) HZ.out;have hv2:=au hg2 (by omega) (by omega) HV.out;obtain ⟨z0,z1,z2,z3,z4⟩:=aw hz2;obtain ⟨q0,q1,q2,q3,q4⟩:=aE hz2;obtain ⟨x0,x1,x2,x3,x4⟩:=aw hv2;have HZ2:=zh hz2;clear hz2;have HV2:=zh hv2;clear hv2;have HG2:=zh hg2;clear hg2;have HP2:=zh hp2;clear hp2;have HR2:=zh hR2;clear hR2;clear y0 y1 y2 y3 y4;have hn:w.heap.size≠rb:=by omega
    go_wp2_with fail;have hown2:=HO.out.kept HG2.out (.inr (aB HO.out (by omega)));have hits2:=HI.out.keep (w':=w2) (g':=(Value.slice A acc.length c).ownBlock) (fun pp h1 h2 _=>World.cell?_of_block (HG2.out.block pp.block h2 (fun e=>by have:=Option.some.inj e;omega))) hs2 (fun k hk=> .inl hk);have hV:=qiN hown2 hits2 (lo:=w.heap.size) (hi:=w2.heap.size) (by omega) (by omega) (Nat.le_refl _);have R5:=aJ HZ2.out (.int .i64 5) (.int .i64 0) (.string ⟨#[]⟩) (.slice A acc.length c) (.slice none 0 0);have P5:=aX HP2.out hn (.int .i64 5) (.int .i64 0) (.string ⟨#[]⟩) (.slice A acc.length c) (.slice none 0 0);have F5:=bg (Fr.trans HG.out HG2.out) (Nat.le_refl _) (.int .i64 5) (.int .i64 0) (.string ⟨#[]⟩) (.slice A acc.length c) (.slice none 0 0);refine bodyPost_ret (aV rfl rfl R5) rfl ?_;rw [HR2.out];refine ⟨F5,_,_,_,_,_,rfl,(OkC.of (NF.of_own hown2) (NF.nil_ _ _)).keep (by simp) (fun p _=>by simp),?_,P5⟩;have hV2:=qiN hown2 hits2 (lo:=w.heap.size+2) (hi:=w2.heap.size) (by omega) (by omega) (Nat.le_refl _);exact RdV.keep (fun pp h1 h2=>be _ _ _ (by omega) _ _ _ _ _) (by omega) (by simp) _ _ hV2
   ·-- a value more
    obtain ⟨f'',rfl⟩:∃ g,f'=g+1:=⟨f'-1,by omega⟩
    have hVC:∀ w,Rdr w rb vL j' q→RdT w rb vL (aM ts E)→Calls Tryz.prog 51 #[.pointer (some ⟨rb,0,none⟩),.int .i64 ((d:Int)+1)] w (ck rb vL (pV ts E f'' (d+1) j' q) w):=fun w hp hr=>HIH.out f'' (by omega) (d+1) j' q w hp hr hj2 hq (by omega) (by omega);have hs2:=hg2.size;have hv2:=au hg2 (by omega) (by omega) HV.out;obtain ⟨x0,x1,x2,x3,x4⟩:=aw hv2;have HV2:=zh hv2;clear hv2;have hlt2:rb<w2.heap.size:=by omega
    clear y0 y1 y2 y3 y4;have HRT2:=zh (aW HRT.out (Nat.le_of_lt hlt) (Fr.trans HG.out hg2));have HG2:=zh (Fr.trans HG.out hg2);have HG3:=zh hg2;clear hg2;rcases hres:pV ts E f'' (d+1) j' q with ⟨a,y⟩ | ⟨v,j1,q1⟩
    ·rw [hres] at hVC;have HVC:=zh hVC;clear hVC;have HRB:=zh (show R = .bad a y by rw [hR2,qlz hres];rfl);clear hR2 hres;go_wp2_with fail;refine wp_region_held_drew (S:=fun w'=>w'.cell? ⟨w.heap.size+1,3,none⟩=some (.slice A acc.length c)) (by kernel_rfl) (by go_keep) (fun hHeld=>?_);refine zm 0 ⟨some 15,.fieldAddr 25 (.tmp 5) 3,0,"read.go:170",#[],none⟩ _ rfl (by kernel_rfl) (fun _ _ _ h=>h) (by rfl) hHeld (fun w hSw=>by go_simp;with_reducible rfl) ?_
     refine zm 1 ⟨some 16,.load 22 (.tmp 15),22,"read.go:170",#[⟨0,.data⟩],none⟩ _ rfl (by kernel_rfl) (fun _ _ _ h=>h) (by rfl) hHeld (fun w hSw=>by go_simp;with_reducible rfl) ?_
     refine zm 2 ⟨some 17,.move (.tmp 0),89,"read.go:170",#[],none⟩ _ rfl (by kernel_rfl) (fun _ _ _ h=>h) (by rfl) hHeld (fun w hSw=>by go_simp;with_reducible rfl) ?_
     refine zm 3 ⟨some 18,.move (.tmp 1),3,"read.go:170",#[],none⟩ _ rfl (by kernel_rfl) (fun _ _ _ h=>h) (by rfl) hHeld (fun w hSw=>by go_simp;with_reducible rfl) ?_
     refine zm 4 ⟨some 19,.binOp BinOp.add 3 (.tmp 18) (.const (.int .i64 1)) 3,3,"read.go:170",#[⟨3,.data⟩],none⟩ _ rfl (by kernel_rfl) (fun _ _ _ h=>h) (by rfl) hHeld (fun w hSw=>by go_simp;with_reducible rfl) ?_
     refine wpAnyH_ready (rs:=[5]) (by kernel_rfl) (by simp) ?_;refine AllReadyH.cons (o:=⟨some 20,.call ⟨.value (.func 51),#[.tmp 17,.tmp 19],#[89,3]⟩,25,"read.go:170",#[⟨2,.data⟩,⟨4,.data⟩],none⟩) rfl (fun K hK=>?_) AllReadyH.nil
     go_simp;go_at_call 51
     refine (HVC.out w2.drew hp2 HRT2.out).mono ?_;rintro e w3 ⟨hg3,rfl⟩;refine ag (P:=Tryz.prog) (fn:=Tryz.f83) rfl ?_;rw [HRB.out];exact ⟨Fr.trans HG2.out (Fr.trans (Fr.drew (Fr.of rb (Below.refl w2.heap.size w2))) hg3),rfl⟩
    ·rw [hres] at hVC;have hok:=(ql6 ts E f'').1 _ _ _ _ _ _ hres hq;have HRN:=zh (hR2.trans (qkq acc hres));have HVC:=zh hVC;clear hVC;have HOK:=zh hok;clear hok;clear hR2 hres;have hvb:w.heap.size+1<w2.heap.size:=by omega
     go_wp2_with fail;refine wp_region_held_drew (S:=fun _=>True) (by kernel_rfl) (trivial) (fun hHeld=>?_);refine zm 0 ⟨some 15,.fieldAddr 25 (.tmp 5) 3,0,"read.go:170",#[],none⟩ _ rfl (by kernel_rfl) (fun _ _ _ h=>h) (by rfl) trivial (fun w hSw=>by go_simp;with_reducible rfl) ?_
     refine zm 2 ⟨some 17,.move (.tmp 0),89,"read.go:170",#[],none⟩ _ rfl (by kernel_rfl) (fun _ _ _ h=>h) (by rfl) trivial (fun w hSw=>by go_simp;with_reducible rfl) ?_
     refine zm 3 ⟨some 18,.move (.tmp 1),3,"read.go:170",#[],none⟩ _ rfl (by kernel_rfl) (fun _ _ _ h=>h) (by rfl) trivial (fun w hSw=>by go_simp;with_reducible rfl) ?_
     refine zm 4 ⟨some 19,.binOp BinOp.add 3 (.tmp 18) (.const (.int .i64 1)) 3,3,"read.go:170",#[⟨3,.data⟩],none⟩ _ rfl (by kernel_rfl) (fun _ _ _ h=>h) (by rfl) trivial (fun w hSw=>by go_simp;with_reducible rfl) ?_
     refine wpAnyH_ready (rs:=[1,5]) (by kernel_rfl) (by simp) ?_;refine AllReadyH.cons (o:={ dst:=some 16,op:=Op.load 22 (Operand.tmp 15),type:=22,pos:= "read.go:170",after:= #[{ on:=0,ground:=Ground.data }],guard:=none }) rfl (fun K hK=>?_) (AllReadyH.cons (o:={ dst:=some 20,op:=Op.call { callee:=Callee.value (Operand.func 51),args:= #[Operand.tmp 17,Operand.tmp 19],argTypes:= #[89,3] },type:=25,pos:= "read.go:170",after:= #[{ on:=2,ground:=Ground.data },{ on:=4,ground:=Ground.data }],guard:=none }) rfl (fun K hK=>?_) AllReadyH.nil)
     ·go_simp;refine hK.out _ _ trivial (fun _=>?_);clear hK K;refine wpAnyH_ready (rs:=[5]) (by kernel_rfl) (by simp) ?_;refine AllReadyH.cons (o:=⟨some 20,.call ⟨.value (.func 51),#[.tmp 17,.tmp 19],#[89,3]⟩,25,"read.go:170",#[⟨2,.data⟩,⟨4,.data⟩],none⟩) rfl (fun K hK=>?_) AllReadyH.nil
      go_simp;go_at_call 51
      refine (HVC.out w2.drew hp2 HRT2.out).mono ?_;rintro e w3 ⟨hg3,v0,v1,v2,v3,v4,rfl,ho3,hV3,hp3⟩;have hgr3:=Fr.trans HG3.out (Fr.trans (Fr.drew (Fr.of rb (Below.refl w2.heap.size w2))) hg3);have hv3:=au hgr3 (by omega) (by omega) HV.out;have x3w:=(aw hv3).2.2.2.1;have hs23:w2.heap.size≤w3.heap.size:=hg3.size;have hown3:=HO.out.kept hgr3 (.inr (aB HO.out (by omega)));refine hK.out _ _ trivial (fun _=>?_);clear hK K;refine wpAnyH_ready (rs:=[6]) (by kernel_rfl) (by simp) ?_;refine AllReadyH.cons (o:=⟨some 21,.buildSlice 22 1 #[(0,.tmp 20)],22,"read.go:170",#[⟨5,.data⟩],none⟩) rfl (fun K hK=>?_) AllReadyH.nil
      go_simp;refine hK.out _ _ trivial (fun _=>?_);clear hK K;have x3b:=(aw ((heap_alloc_old w3 (.cells #[v0,v1,v2,v3,v4] 25) (by omega)).trans hv3)).2.2.2.1;refine wpAnyH_ready (rs:=[7]) (by kernel_rfl) (by simp) ?_;refine AllReadyH.cons (o:=⟨some 22,.call ⟨Callee.builtin Builtin.append,#[.tmp 16,.tmp 21],#[22,22]⟩,22,"read.go:170",#[⟨1,.data⟩,⟨6,.data⟩,⟨5,.chain⟩],none⟩) rfl (fun K hK=>?_) AllReadyH.nil
      refine step_append_lies _ (by rfl) _ _ _ (by rfl) (w.heap.size+2) 25 i0 _ 5 80 Tryz.underlying22 hi0 hz0 hz1 hz2 (by rfl) (by omega) (.slice A acc.length c) acc.length cs (by rfl) (hown3.alloc _) ⟨w3.heap.size,0,none⟩ 1 1 [v0,v1,v2,v3,v4] (by rfl) (by rfl) (World.news_of_block (cs:= #[v0,v1,v2,v3,v4]) (t:=25) (fr:=(0,0)) (heap_alloc_new w3 _)) ho3.one (by omega) (by unfold maxLen;omega) (by omega) (by simp;omega) (w3.heap.size+1) (by simp) ?_;intro g cap w4 hown4 hg4 hat hlt4;have hv4:=(ax hg4 (b:=w.heap.size+1) (by omega) (aB HO.out (by omega))).trans hv3;have x3w:=(aw hv4).2.2.2.1;have f3w:=(aE hv4).2.2.2.1;refine hK.out _ _ trivial (fun _=>?_);clear hK K;refine zm 8 ⟨some 23,.fieldAddr 25 (.tmp 5) 3,0,"read.go:170",#[⟨0,.phase⟩,⟨1,.phase⟩,⟨2,.phase⟩,⟨3,.phase⟩,⟨4,.phase⟩,⟨5,.phase⟩,⟨6,.phase⟩,⟨7,.phase⟩],none⟩ _ rfl (by kernel_rfl) (fun _ _ _ h=>h) (by rfl) trivial (fun w hSw=>by go_simp;with_reducible rfl) ?_
      refine wpAnyH_ready (rs:=[9]) (by kernel_rfl) (by simp) ?_;refine AllReadyH.cons (o:=⟨none,.store 22 (.tmp 23) (.tmp 22),0,"read.go:170",#[⟨8,.data⟩,⟨7,.data⟩,⟨7,.chain⟩,⟨0,.phase⟩,⟨1,.phase⟩,⟨2,.phase⟩,⟨3,.phase⟩,⟨4,.phase⟩,⟨5,.phase⟩,⟨6,.phase⟩,⟨7,.phase⟩],none⟩) rfl (fun K hK=>?_) AllReadyH.nil
      go_simp;refine hK.out _ _ trivial (fun _=>?_);clear hK K;refine wpAnyH_done (by kernel_rfl) ?_ _;go_wp2_with fail;go_roundw
      case rel=>
       obtain ⟨k1,k2,k3,k4,_,_⟩:=HOK.out;refine ⟨acc++[v],j1,q1,f'',.slice (some ⟨g,0,none⟩) (acc.length+1) cap,cs++[v0,v1,v2,v3,v4],?_,k2,k4,by omega,by omega,by rw [List.length_append];simp;omega,?_,?_,?_,?_,?_,?_⟩
       ·rw [show (acc++[v]).isEmpty=false by simp];exact HRN.out
       ·exact (heap_setCell_other w4 ⟨w.heap.size+1,3,none⟩ rb _ (by show rb≠w.heap.size+1;omega)).trans ((ax hg4 (by omega) (aB HO.out (by omega))).trans hp3)
       ·exact Fr.next (Fr.trans HG.out hgr3) hg4 (fun k hk=>by have:=(HO.out.lt k hk).1;omega) ⟨w.heap.size+1,3,none⟩ (by show w.heap.size≤w.heap.size+1;omega) _
       ·exact (heap_setCell_other w4 ⟨w.heap.size+1,3,none⟩ w.heap.size _ (by show w.heap.size≠w.heap.size+1;omega)).trans ((ax hg4 (by omega) (aB HO.out (by omega))).trans (au hgr3 (by omega) (by omega) HZ.out))
       ·exact heap_setCell_same w4 (w.heap.size+1) 3 _ _ _ hv4
       ·rw [List.length_append];exact ownsRow_setCell_below hown4 (by show w.heap.size+1<w.heap.size+2;omega) _
       ·exact Its.next hgr3 (by omega) (by omega) hg4 (fun k hk=>(HO.out.lt k hk).2) hat HI.out rfl ho3.one hs2 hV3 ⟨w.heap.size+1,3,none⟩ (by show w.heap.size+1<w.heap.size+2;omega) _
      case measure=>
       have m1:=HPR.out.next;have m2:Rdr (w4.setCell ⟨w.heap.size+1,3,none⟩ (.slice (some ⟨g,0,none⟩) (acc.length+1) cap)) rb vL j1 q1:=(heap_setCell_other w4 ⟨w.heap.size+1,3,none⟩ rb _ (by show rb≠w.heap.size+1;omega)).trans ((ax hg4 (by omega) (aB HO.out (by omega))).trans hp3);obtain ⟨k1,k2,_⟩:=HOK.out;rw [m1,m2.next];omega
     ·go_simp;go_at_call 51
      refine (HVC.out w2.drew hp2 HRT2.out).mono ?_;rintro e w3 ⟨hg3,v0,v1,v2,v3,v4,rfl,ho3,hV3,hp3⟩;have hgr3:=Fr.trans HG3.out (Fr.trans (Fr.drew (Fr.of rb (Below.refl w2.heap.size w2))) hg3);have hv3:=au hgr3 (by omega) (by omega) HV.out;have x3w:=(aw hv3).2.2.2.1;have hs23:w2.heap.size≤w3.heap.size:=hg3.size;have hown3:=HO.out.kept hgr3 (.inr (aB HO.out (by omega)));refine hK.out _ _ trivial (fun _=>?_);clear hK K;refine wpAnyH_ready (rs:=[1,6]) (by kernel_rfl) (by simp) ?_;refine AllReadyH.cons (o:={ dst:=some 16,op:=Op.load 22 (Operand.tmp 15),type:=22,pos:= "read.go:170",after:= #[{ on:=0,ground:=Ground.data }],guard:=none }) rfl (fun K hK=>?_) (AllReadyH.cons (o:={ dst:=some 21,op:=Op.buildSlice 22 1 #[(0,Operand.tmp 20)],type:=22,pos:= "read.go:170",after:= #[{ on:=5,ground:=Ground.data }],guard:=none }) rfl (fun K hK=>?_) AllReadyH.nil)
      ·go_simp;refine hK.out _ _ trivial (fun _=>?_);clear hK K;refine wpAnyH_ready (rs:=[6]) (by kernel_rfl) (by simp) ?_;refine AllReadyH.cons (o:=⟨some 21,.buildSlice 22 1 #[(0,.tmp 20)],22,"read.go:170",#[⟨5,.data⟩],none⟩) rfl (fun K hK=>?_) AllReadyH.nil
       go_simp;refine hK.out _ _ trivial (fun _=>?_);clear hK K;have x3b:=(aw ((heap_alloc_old w3 (.cells #[v0,v1,v2,v3,v4] 25) (by omega)).trans hv3)).2.2.2.1;refine wpAnyH_ready (rs:=[7]) (by kernel_rfl) (by simp) ?_;refine AllReadyH.cons (o:=⟨some 22,.call ⟨Callee.builtin Builtin.append,#[.tmp 16,.tmp 21],#[22,22]⟩,22,"read.go:170",#[⟨1,.data⟩,⟨6,.data⟩,⟨5,.chain⟩],none⟩) rfl (fun K hK=>?_) AllReadyH.nil
       refine step_append_lies _ (by rfl) _ _ _ (by rfl) (w.heap.size+2) 25 i0 _ 5 80 Tryz.underlying22 hi0 hz0 hz1 hz2 (by rfl) (by omega) (.slice A acc.length c) acc.length cs (by rfl) (hown3.alloc _) ⟨w3.heap.size,0,none⟩ 1 1 [v0,v1,v2,v3,v4] (by rfl) (by rfl) (World.news_of_block (cs:= #[v0,v1,v2,v3,v4]) (t:=25) (fr:=(0,0)) (heap_alloc_new w3 _)) ho3.one (by omega) (by unfold maxLen;omega) (by omega) (by simp;omega) (w3.heap.size+1) (by simp) ?_;intro g cap w4 hown4 hg4 hat hlt4;have hv4:=(ax hg4 (b:=w.heap.size+1) (by omega) (aB HO.out (by omega))).trans hv3;have x3w:=(aw hv4).2.2.2.1;have f3w:=(aE hv4).2.2.2.1;refine hK.out _ _ trivial (fun _=>?_);clear hK K;refine zm 8 ⟨some 23,.fieldAddr 25 (.tmp 5) 3,0,"read.go:170",#[⟨0,.phase⟩,⟨1,.phase⟩,⟨2,.phase⟩,⟨3,.phase⟩,⟨4,.phase⟩,⟨5,.phase⟩,⟨6,.phase⟩,⟨7,.phase⟩],none⟩ _ rfl (by kernel_rfl) (fun _ _ _ h=>h) (by rfl) trivial (fun w hSw=>by go_simp;with_reducible rfl) ?_
       refine wpAnyH_ready (rs:=[9]) (by kernel_rfl) (by simp) ?_;refine AllReadyH.cons (o:=⟨none,.store 22 (.tmp 23) (.tmp 22),0,"read.go:170",#[⟨8,.data⟩,⟨7,.data⟩,⟨7,.chain⟩,⟨0,.phase⟩,⟨1,.phase⟩,⟨2,.phase⟩,⟨3,.phase⟩,⟨4,.phase⟩,⟨5,.phase⟩,⟨6,.phase⟩,⟨7,.phase⟩],none⟩) rfl (fun K hK=>?_) AllReadyH.nil
       go_simp;refine hK.out _ _ trivial (fun _=>?_);clear hK K;refine wpAnyH_done (by kernel_rfl) ?_ _;go_wp2_with fail;go_roundw
       case rel=>
        obtain ⟨k1,k2,k3,k4,_,_⟩:=HOK.out;refine ⟨acc++[v],j1,q1,f'',.slice (some ⟨g,0,none⟩) (acc.length+1) cap,cs++[v0,v1,v2,v3,v4],?_,k2,k4,by omega,by omega,by rw [List.length_append];simp;omega,?_,?_,?_,?_,?_,?_⟩
        ·rw [show (acc++[v]).isEmpty=false by simp];exact HRN.out
        ·exact (heap_setCell_other w4 ⟨w.heap.size+1,3,none⟩ rb _ (by show rb≠w.heap.size+1;omega)).trans ((ax hg4 (by omega) (aB HO.out (by omega))).trans hp3)
        ·exact Fr.next (Fr.trans HG.out hgr3) hg4 (fun k hk=>by have:=(HO.out.lt k hk).1;omega) ⟨w.heap.size+1,3,none⟩ (by show w.heap.size≤w.heap.size+1;omega) _
        ·exact (heap_setCell_other w4 ⟨w.heap.size+1,3,none⟩ w.heap.size _ (by show w.heap.size≠w.heap.size+1;omega)).trans ((ax hg4 (by omega) (aB HO.out (by omega))).trans (au hgr3 (by omega) (by omega) HZ.out))
        ·exact heap_setCell_same w4 (w.heap.size+1) 3 _ _ _ hv4
        ·rw [List.length_append];exact ownsRow_setCell_below hown4 (by show w.heap.size+1<w.heap.size+2;omega) _
        ·exact Its.next hgr3 (by omega) (by omega) hg4 (fun k hk=>(HO.out.lt k hk).2) hat HI.out rfl ho3.one hs2 hV3 ⟨w.heap.size+1,3,none⟩ (by show w.heap.size+1<w.heap.size+2;omega) _
       case measure=>
        have m1:=HPR.out.next;have m2:Rdr (w4.setCell ⟨w.heap.size+1,3,none⟩ (.slice (some ⟨g,0,none⟩) (acc.length+1) cap)) rb vL j1 q1:=(heap_setCell_other w4 ⟨w.heap.size+1,3,none⟩ rb _ (by show rb≠w.heap.size+1;omega)).trans ((ax hg4 (by omega) (aB HO.out (by omega))).trans hp3);obtain ⟨k1,k2,_⟩:=HOK.out;rw [m1,m2.next];omega
      ·go_simp;refine hK.out _ _ trivial (fun _=>?_);clear hK K;have x3b:=(aw ((heap_alloc_old w3 (.cells #[v0,v1,v2,v3,v4] 25) (by omega)).trans hv3)).2.2.2.1;refine wpAnyH_ready (rs:=[1]) (by kernel_rfl) (by simp) ?_;refine AllReadyH.cons (o:=⟨some 16,.load 22 (.tmp 15),22,"read.go:170",#[⟨0,.data⟩],none⟩) rfl (fun K hK=>?_) AllReadyH.nil
       go_simp;refine hK.out _ _ trivial (fun _=>?_);clear hK K;refine wpAnyH_ready (rs:=[7]) (by kernel_rfl) (by simp) ?_;refine AllReadyH.cons (o:=⟨some 22,.call ⟨Callee.builtin Builtin.append,#[.tmp 16,.tmp 21],#[22,22]⟩,22,"read.go:170",#[⟨1,.data⟩,⟨6,.data⟩,⟨5,.chain⟩],none⟩) rfl (fun K hK=>?_) AllReadyH.nil
       refine step_append_lies _ (by rfl) _ _ _ (by rfl) (w.heap.size+2) 25 i0 _ 5 80 Tryz.underlying22 hi0 hz0 hz1 hz2 (by rfl) (by omega) (.slice A acc.length c) acc.length cs (by rfl) (hown3.alloc _) ⟨w3.heap.size,0,none⟩ 1 1 [v0,v1,v2,v3,v4] (by rfl) (by rfl) (World.news_of_block (cs:= #[v0,v1,v2,v3,v4]) (t:=25) (fr:=(0,0)) (heap_alloc_new w3 _)) ho3.one (by omega) (by unfold maxLen;omega) (by omega) (by simp;omega) (w3.heap.size+1) (by simp) ?_;intro g cap w4 hown4 hg4 hat hlt4;have hv4:=(ax hg4 (b:=w.heap.size+1) (by omega) (aB HO.out (by omega))).trans hv3;have x3w:=(aw hv4).2.2.2.1;have f3w:=(aE hv4).2.2.2.1;refine hK.out _ _ trivial (fun _=>?_);clear hK K;refine zm 8 ⟨some 23,.fieldAddr 25 (.tmp 5) 3,0,"read.go:170",#[⟨0,.phase⟩,⟨1,.phase⟩,⟨2,.phase⟩,⟨3,.phase⟩,⟨4,.phase⟩,⟨5,.phase⟩,⟨6,.phase⟩,⟨7,.phase⟩],none⟩ _ rfl (by kernel_rfl) (fun _ _ _ h=>h) (by rfl) trivial (fun w hSw=>by go_simp;with_reducible rfl) ?_
       refine wpAnyH_ready (rs:=[9]) (by kernel_rfl) (by simp) ?_;refine AllReadyH.cons (o:=⟨none,.store 22 (.tmp 23) (.tmp 22),0,"read.go:170",#[⟨8,.data⟩,⟨7,.data⟩,⟨7,.chain⟩,⟨0,.phase⟩,⟨1,.phase⟩,⟨2,.phase⟩,⟨3,.phase⟩,⟨4,.phase⟩,⟨5,.phase⟩,⟨6,.phase⟩,⟨7,.phase⟩],none⟩) rfl (fun K hK=>?_) AllReadyH.nil
       go_simp;refine hK.out _ _ trivial (fun _=>?_);clear hK K;refine wpAnyH_done (by kernel_rfl) ?_ _;go_wp2_with fail;go_roundw
       case rel=>
        obtain ⟨k1,k2,k3,k4,_,_⟩:=HOK.out;refine ⟨acc++[v],j1,q1,f'',.slice (some ⟨g,0,none⟩) (acc.length+1) cap,cs++[v0,v1,v2,v3,v4],?_,k2,k4,by omega,by omega,by rw [List.length_append];simp;omega,?_,?_,?_,?_,?_,?_⟩
        ·rw [show (acc++[v]).isEmpty=false by simp];exact HRN.out
        ·exact (heap_setCell_other w4 ⟨w.heap.size+1,3,none⟩ rb _ (by show rb≠w.heap.size+1;omega)).trans ((ax hg4 (by omega) (aB HO.out (by omega))).trans hp3)
        ·exact Fr.next (Fr.trans HG.out hgr3) hg4 (fun k hk=>by have:=(HO.out.lt k hk).1;omega) ⟨w.heap.size+1,3,none⟩ (by show w.heap.size≤w.heap.size+1;omega) _
        ·exact (heap_setCell_other w4 ⟨w.heap.size+1,3,none⟩ w.heap.size _ (by show w.heap.size≠w.heap.size+1;omega)).trans ((ax hg4 (by omega) (aB HO.out (by omega))).trans (au hgr3 (by omega) (by omega) HZ.out))
        ·exact heap_setCell_same w4 (w.heap.size+1) 3 _ _ _ hv4
        ·rw [List.length_append];exact ownsRow_setCell_below hown4 (by show w.heap.size+1<w.heap.size+2;omega) _
        ·exact Its.next hgr3 (by omega) (by omega) hg4 (fun k hk=>(HO.out.lt k hk).2) hat HI.out rfl ho3.one hs2 hV3 ⟨w.heap.size+1,3,none⟩ (by show w.heap.size+1<w.heap.size+2;omega) _
       case measure=>
        have m1:=HPR.out.next;have m2:Rdr (w4.setCell ⟨w.heap.size+1,3,none⟩ (.slice (some ⟨g,0,none⟩) (acc.length+1) cap)) rb vL j1 q1:=(heap_setCell_other w4 ⟨w.heap.size+1,3,none⟩ rb _ (by show rb≠w.heap.size+1;omega)).trans ((ax hg4 (by omega) (aB HO.out (by omega))).trans hp3);obtain ⟨k1,k2,_⟩:=HOK.out;rw [m1,m2.next];omega
   ·have HR2:=zh hR2;clear hR2;refine ag (P:=Tryz.prog) (fn:=Tryz.f83) rfl ?_;rw [HR2.out];exact ⟨Fr.trans HG.out hg2,rfl⟩
 ·cases h
end Re
namespace Re
open Go.RowKit Go.Maps Utf Sc
theorem qkm:(Tryz.prog.info? 37).map (fun i=>(i.zero,i.size,i.bytes))=some (some (.agg #[.string ⟨#[]⟩,.int .i64 0,.int .i64 0,.string ⟨#[]⟩,.slice none 0 0,.slice none 0 0]),6,96):=by kernel_rfl
theorem qko {w w':World} {rb mb base E size n:Nat} {v:Value} {xs:List Value} (h:w.ownsRow base E size v n xs) (hf:Fr2 w w' rb mb) (h1:rb<base) (h2:mb<base):w'.ownsRow base E size v n xs:=by
 have hlt:=h.lt;obtain ⟨hl,h⟩:=h;refine ⟨hl,?_⟩;rcases h with h | ⟨g,cap,cur,rfl,g1,g2,g3⟩
 ·exact .inl h
 ·exact .inr ⟨g,cap,cur,rfl,g1,(hf.2.2.2.2 g (hlt g rfl).2 (by omega) (by omega)).trans g2,g3⟩
theorem Fr2.blk {w w':World} {rb mb b:Nat} (hf:Fr2 w w' rb mb) (hb:b<w.heap.size) (h1:b≠rb) (h2:b≠mb) {o:Obj} (h:w.heap[b]? = some o):w'.heap[b]? = some o:=(hf.2.2.2.2 b hb h1 h2).trans h
def MpR (w wr:World) (rb:Nat) (vL:Value) (ts:List Tok) (E:Int) (f d:Nat) (R:Rs (List (List UInt8)×List V)):Prop:=
 ∃ (ns:List (List UInt8)) (av:List V) (j q f' n:Nat) (vm:Value) (cs:List Value),
  R=(gM ts E f' d j q ns av.isEmpty).map (fun x=>(ns++x.1,av++x.2))∧j≤ts.length∧q≤8192∧f'≤f∧2*(ts.length-j)+3≤f'∧av.length≤j∧n≤j∧
  Rdr wr rb vL j q∧w.grownBy wr (some rb)∧wr.heap[w.heap.size]? = some (.cells #[.int .i64 0,.int .i64 0,.string ⟨#[]⟩,.slice none 0 0,.slice none 0 0] 25 (0,0))∧
  wr.heap[w.heap.size+1]? = some (.cells #[.int .i64 6,.int .i64 0,.string ⟨#[]⟩,.slice none 0 0,vm] 25 (0,0))∧
  wr.ownsRow (w.heap.size+3) 37 6 vm av.length cs∧cR wr (w.heap.size+3) vm.ownBlock ns av cs∧NmS wr (w.heap.size+2) n ns
def MpE (wr:World) (rb:Nat) (vL:Value) (ts:List Tok) (E:Int) (f' d j q:Nat) (ns:List (List UInt8)) (av:List V) (R:Rs (List (List UInt8)×List V)) (e:Ending) (w':World):Prop:=
 wr.grownBy w' (some rb)∧((e = .returned (.bool true)∧R = .ok (ns,av) (j+1) q∧Rdr w' rb vL (j+1) q)∨
  (∃ j',e = .returned (.bool false)∧R=(pM ts E f' d j' q ns).map (fun x=>(ns++x.1,av++x.2))∧j≤j'∧j'≤ts.length∧Rdr w' rb vL j' q)∨(∃ a y,e=qdT a y∧R = .bad a y))
theorem MpE.of {wr w':World} {rb:Nat} {vL:Value} {ts:List Tok} {E:Int} {f' d j q:Nat} {ns:List (List UInt8)} {av:List V} {R:Rs (List (List UInt8)×List V)} {e:Ending}
  (hR:R=(gM ts E f' d j q ns av.isEmpty).map (fun x=>(ns++x.1,av++x.2))) (hj:j≤ts.length)
  (h:qfy rb vL (qhf (tk ts E j) 125 av.length) j q (tk ts E j).2.2.2 50 wr e w'):MpE wr rb vL ts E f' d j q ns av R e w':=by
 obtain ⟨hg,h⟩:=h;refine ⟨hg,?_⟩;unfold qhf at h;unfold gM at hR;by_cases c1:isM (tk ts E j) 125=true
 ·rw [if_pos c1] at h hR;rcases h with ⟨_,h1,h2⟩ | ⟨h,_⟩ | ⟨h,_⟩ | ⟨h,_⟩
  ·exact .inl ⟨h1,by rw [hR];simp [Rs.map],h2⟩
  all_goals cases h
 ·rw [if_neg c1] at h hR;by_cases c0:av.length=0
  ·rw [if_pos c0] at h;obtain rfl:=List.eq_nil_of_length_eq_zero c0;rw [show ([]:List V).isEmpty=true from rfl,if_pos rfl] at hR;rcases h with ⟨h,_⟩ | ⟨_,h1,h2⟩ | ⟨h,_⟩ | ⟨h,_⟩
   ·cases h
   ·exact .inr (.inl ⟨j,h1,hR,Nat.le_refl _,hj,h2⟩)
   ·cases h
   ·cases h
  ·rw [if_neg c0] at h;have e0:av.isEmpty=false:=by
    cases av with
    | nil=>exact absurd rfl c0
    | cons a r=>rfl
   rw [e0,if_neg (show ¬(false=true) by decide)] at hR;by_cases c2:isM (tk ts E j) 44=true
   ·rw [if_pos c2] at h hR;rcases h with ⟨h,_⟩ | ⟨h,_⟩ | ⟨_,h1,h2⟩ | ⟨h,_⟩
    ·cases h
    ·cases h
    ·exact .inr (.inl ⟨j+1,h1,hR,by omega,by have:=qbc c2;omega,h2⟩)
    ·cases h
   ·rw [if_neg c2] at h hR;rcases h with ⟨h,_⟩ | ⟨h,_⟩ | ⟨h,_⟩ | ⟨_,h1⟩
    ·cases h
    ·cases h
    ·cases h
    ·exact .inr (.inr ⟨_,_,h1,hR⟩)
theorem qlE {v0 v1 v2 v3 v4:Value} (h:∀ u∈[v0,v1,v2,v3,v4],u.oneCell'=true) (X:ByteArray):∀ u∈[.string X,v0,v1,v2,v3,v4],Value.oneCell' u=true:=by
 intro u hu;rcases List.mem_cons.1 hu with rfl | hu
 ·rfl
 ·exact h u hu
theorem qeG (rb:Nat) (vL:Value) (ts:List Tok) (E:Int) (hi2:ts.length≤65536) (hln:∀ i,(tk ts E i).2.2.1.length≤65537) (f:Nat) (IH:∀ g,g<f→qkH rb vL ts E g) (d i p:Nat) (w:World) (hp:Rdr w rb vL i p) (hr:RdT w rb vL (aM ts E)) (hi:i<ts.length)
  (hm:isM (tk ts E i) 123=true) (hpp:p≤8192) (hd:d≤16) (hf:2*(ts.length-(i+1))+3≤f) :
  Calls Tryz.prog 84 #[.pointer (some ⟨rb,0,none⟩),.int .i64 d] w (ck rb vL ((gM ts E f d (i+1) p [] true).map mpV) w):=by
 have hlt:=hp.cells.1;obtain ⟨i0,hi0,hz0,hz1,hz2⟩:=info_parts qkm;obtain ⟨wa,hwa⟩:∃ wa,wa=((w.alloc (.cells #[.int .i64 0,.int .i64 0,.string ⟨#[]⟩,.slice none 0 0,.slice none 0 0] 25)).alloc (.cells #[.int .i64 6,.int .i64 0,.string ⟨#[]⟩,.slice none 0 0,.slice none 0 0] 25)).alloc (.map #[] 0):=⟨_,rfl⟩
 have hs1:(w.alloc (.cells #[.int .i64 0,.int .i64 0,.string ⟨#[]⟩,.slice none 0 0,.slice none 0 0] 25)).heap.size=w.heap.size+1:=aj _ _;have hs2:((w.alloc (.cells #[.int .i64 0,.int .i64 0,.string ⟨#[]⟩,.slice none 0 0,.slice none 0 0] 25)).alloc (.cells #[.int .i64 6,.int .i64 0,.string ⟨#[]⟩,.slice none 0 0,.slice none 0 0] 25)).heap.size=w.heap.size+2:=by rw [aj,hs1]
 have hba:Below w.heap.size w wa:=by rw [hwa];exact (((Below.refl _ _).alloc (Nat.le_refl _) _).alloc (by rw [hs1];omega) _).alloc (by rw [hs2];omega) _
 have hsa:wa.heap.size=w.heap.size+3:=by rw [hwa,aj,hs2]
 have hza:wa.heap[w.heap.size]? = some (.cells #[.int .i64 0,.int .i64 0,.string ⟨#[]⟩,.slice none 0 0,.slice none 0 0] 25 (0,0)):=by rw [hwa];exact (heap_alloc_old _ _ (by rw [hs2];omega)).trans ((heap_alloc_old _ _ (by rw [hs1];omega)).trans (heap_alloc_new w _))
 have hzb:wa.heap[w.heap.size+1]? = some (.cells #[.int .i64 6,.int .i64 0,.string ⟨#[]⟩,.slice none 0 0,.slice none 0 0] 25 (0,0)):=by
  have:=heap_alloc_new (w.alloc (.cells #[.int .i64 0,.int .i64 0,.string ⟨#[]⟩,.slice none 0 0,.slice none 0 0] 25)) (.cells #[.int .i64 6,.int .i64 0,.string ⟨#[]⟩,.slice none 0 0,.slice none 0 0] 25);rw [hs1] at this;rw [hwa];exact (heap_alloc_old _ _ (by rw [hs2];omega)).trans this
 have hzm:NmS wa (w.heap.size+2) 0 []:=by
  have:=World.ownsMap_made ((w.alloc (.cells #[.int .i64 0,.int .i64 0,.string ⟨#[]⟩,.slice none 0 0,.slice none 0 0] 25)).alloc (.cells #[.int .i64 6,.int .i64 0,.string ⟨#[]⟩,.slice none 0 0,.slice none 0 0] 25)) Tryz.prog 9 (unitElem (H:=Unit));rw [hs2] at this;rw [hwa];exact this
 have hW:=qbq rb vL ts E i p 123 ⟨#[123]⟩ wa (hp.below hba) (aW hr (Nat.le_of_lt hlt) (Fr.of rb hba)) (by omega) (by omega) (by rw [ByteArray.toList_eq]);rw [hm,hwa] at hW;have hwr:IntKind.i64.wrap ((d:Int)+1)=(d:Int)+1:=IntWalk.i64_in _ (by omega);obtain ⟨R,hR⟩:∃ R,R=gM ts E f d (i+1) p [] true:=⟨_,rfl⟩
 rw [←hR];have HW:=zh hW;have HWA:=zh hwa;have HFA:=zh (Fr.of rb hba);have HZA:=zh hza;have HZB:=zh hzb;have HZM:=zh hzm;have HR:=zh hR;have HRT:=zh hr;have HIH:=zh IH;have HLN:=zh hln;clear hW hwa hba hza hzb hzm hR hr IH hp hm hln;have hmm:= @run_makeMap Tryz.prog;go_enter Tryz.func84,Tryz.ntmps84;go_wp2_with fail;refine HW.out.mono ?_;rw [←HWA.out];rintro e w1 ⟨hf1,⟨_,rfl,hp1⟩ | ⟨h,_⟩⟩
 ·have hlt1:=hp1.cells.1;have HP1:=zh hp1;clear hp1;have HF1:=zh hf1;clear hf1;clear hmm;go_wp2_with fail;go_loopw [7,17] (fun _ _ wr=>MpR w wr rb vL ts E f d R) (fun _ _ wr=>ts.length-qeo wr rb)
  case atStart=>
   refine ⟨[],[],i+1,p,f,0,.slice none 0 0,[],by rw [HR.out];exact (Rs.map_id _).symm,by omega,hpp,Nat.le_refl _,hf,Nat.zero_le _,Nat.zero_le _,HP1.out,Fr.trans HFA.out HF1.out,au HF1.out (by omega) (by omega) HZA.out,au HF1.out (by omega) (by omega) HZB.out,World.ownsRow_nil _ _ _ _,⟨rfl,rfl⟩,?_⟩;exact HZM.out.kept HF1.out (fun e=>by have:=Option.some.inj e;omega)
  case round=>
   obtain ⟨ns,av,j,q,f',n,vm,cs,hR1,hj,hq,hff,hfu,hal,hnl,hpr,hgr,hz,hv,hown,hits,hnm⟩:=hrel;have hE:=(qe6 rb vL ts E j q av.length 125 ⟨#[125]⟩ wr hpr (aW HRT.out (Nat.le_of_lt hlt) hgr) hj (by omega) (by rw [ByteArray.toList_eq])).mono fun e w' h=>MpE.of hR1 hj h;obtain ⟨A,c,rfl⟩:=qit hown;have hltr:=hpr.cells.1;have hsr:=hgr.size;have hsv:w.heap.size+1<wr.heap.size:=(Array.getElem?_eq_some_iff.1 hv).1;have hsm:w.heap.size+2<wr.heap.size:=hnm.lt;obtain ⟨y0,y1,y2,y3,y4⟩:=aw hv;have HE:=zh hE;clear hE;have HG:=zh hgr;clear hgr;have HZ:=zh hz;clear hz;have HV:=zh hv;clear hv;have HO:=zh hown;clear hown;have HI:=zh hits;clear hits;have HM:=zh hnm;clear hnm;have HPR:=zh hpr;clear hpr;clear hR1;go_wp2_with fail;refine HE.out.mono ?_;rintro e w2 ⟨hg2,⟨rfl,hR2,hp2⟩ | ⟨j',rfl,hR2,hj1,hj2,hp2⟩ | ⟨a,y,rfl,hR2⟩⟩
   ·-- the end of the map
    have hs2:=hg2.size;have hz2:=au hg2 (by omega) (by omega) HZ.out;have hv2:=au hg2 (by omega) (by omega) HV.out;obtain ⟨z0,z1,z2,z3,z4⟩:=aw hz2;obtain ⟨q0,q1,q2,q3,q4⟩:=aE hz2;obtain ⟨x0,x1,x2,x3,x4⟩:=aw hv2;have HZ2:=zh hz2;clear hz2;have HV2:=zh hv2;clear hv2;have HG2:=zh hg2;clear hg2;have HP2:=zh hp2;clear hp2;have HR2:=zh hR2;clear hR2;clear y0 y1 y2 y3 y4;have hn:w.heap.size≠rb:=by omega
    go_wp2_with fail;have hown2:=HO.out.kept HG2.out (.inr (aB HO.out (by omega)));have hits2:=HI.out.keep (w':=w2) (g':=(Value.slice A av.length c).ownBlock) (fun pp h1 h2 _=>World.cell?_of_block (HG2.out.block pp.block h2 (fun e=>by have:=Option.some.inj e;omega))) hs2 (fun k hk=> .inl hk);have R5:=aJ HZ2.out (.int .i64 6) (.int .i64 0) (.string ⟨#[]⟩) (.slice none 0 0) (.slice A av.length c);have P5:=aX HP2.out hn (.int .i64 6) (.int .i64 0) (.string ⟨#[]⟩) (.slice none 0 0) (.slice A av.length c);have F5:=bg (Fr.trans HG.out HG2.out) (Nat.le_refl _) (.int .i64 6) (.int .i64 0) (.string ⟨#[]⟩) (.slice none 0 0) (.slice A av.length c);refine bodyPost_ret (aV rfl rfl R5) rfl ?_;rw [HR2.out];refine ⟨F5,_,_,_,_,_,rfl,(OkC.of (NF.nil_ _ _) (NF.of_own hown2)).keep (by simp) (fun p _=>by simp),?_,P5⟩;have hV2:=qlr hown2 hits2 (lo:=w.heap.size+3) (hi:=w2.heap.size) (by omega) (by omega) (Nat.le_refl _);exact RdV.keep (fun pp h1 h2=>be _ _ _ (by omega) _ _ _ _ _) (by omega) (by simp) _ _ hV2
   ·-- a member more
    obtain ⟨f'',rfl⟩:∃ g,f'=g+1:=⟨f'-1,by omega⟩
    have hs2:=hg2.size;have hlt2:rb<w2.heap.size:=by omega
    have hr2:=aW HRT.out (Nat.le_of_lt hlt) (Fr.trans HG.out hg2);have hNM:=qiz rb (w.heap.size+2) vL ts E j' q n ns w2 hp2 hr2 hj2 (by omega) (HM.out.kept hg2 (fun e=>by have:=Option.some.inj e;omega)) (by omega) (by omega) (by omega) (by have:=HLN.out j';omega);have HNM:=zh hNM;clear hNM;have HRT2:=zh hr2;clear hr2;have HG2:=zh (Fr.trans HG.out hg2);have HG3:=zh hg2;clear hg2;clear y0 y1 y2 y3 y4;go_wp2_with fail;refine HNM.out.mono ?_;rintro e w3 ⟨hg3,⟨h4,rfl⟩ | ⟨h4,hin,rfl⟩ | ⟨h4,hin,rfl,hp3,hm3⟩⟩
    ·have HRB:=zh (show R = .bad (tk ts E j').2.2.2 50 by rw [hR2,qlJ h4];rfl);refine ag (P:=Tryz.prog) (fn:=Tryz.f84) rfl ?_;rw [HRB.out];exact ⟨Fr2.one HG2.out hg3 (by omega),rfl⟩
    ·have HRB:=zh (show R = .bad (tk ts E j').2.2.2 52 by rw [hR2,qi8 h4 hin];rfl);refine ag (P:=Tryz.prog) (fn:=Tryz.f84) rfl ?_;rw [HRB.out];exact ⟨Fr2.one HG2.out hg3 (by omega),rfl⟩
    ·have hj3:j'<ts.length:=qkE (ts:=ts) (E:=E) (by omega);have hs3:=hg3.2.2.2.1;have HF3:=zh (Fr2.one HG2.out hg3 (by omega));have HR3:=zh (aW HRT.out (Nat.le_of_lt hlt) HF3.out);have hWc:=qbq rb vL ts E (j'+1) q 58 ⟨#[58]⟩ w3 hp3 HR3.out (by omega) (by omega) (by rw [ByteArray.toList_eq]);obtain ⟨nm,hnm⟩:∃ nm,nm=(tk ts E j').2.2.1:=⟨_,rfl⟩
     obtain ⟨X,hX⟩:∃ X,X=ae nm:=⟨_,rfl⟩
     rw [←hnm] at hm3;rw [←hnm,←hX];have HX:=zh hX;clear hX;have HWc:=zh hWc;clear hWc;have HG3b:=zh hg3;clear hg3;have HM3:=zh hm3;clear hm3;clear hp3;go_wp2_with fail;refine HWc.out.mono ?_;by_cases hc:isM (tk ts E (j'+1)) 58=true
     ·rw [hc];have hj4:=qbc hc;rintro e wn ⟨hgn,⟨_,rfl,hpn⟩ | ⟨h,_⟩⟩
      ·have hsn:=hgn.size;have HGN:=zh (Fr.trans HF3.out hgn);have HRTN:=zh (aW HRT.out (Nat.le_of_lt hlt) HGN.out);have hvn:=au hgn (by omega) (by omega) (HG3b.out.blk (b:=w.heap.size+1) (by omega) (by omega) (by omega) (au HG3.out (by omega) (by omega) HV.out));have HZN:=zh (au hgn (by omega) (by omega) (HG3b.out.blk (b:=w.heap.size) (by omega) (by omega) (by omega) (au HG3.out (by omega) (by omega) HZ.out)));obtain ⟨x0,x1,x2,x3,x4⟩:=aw hvn;have HVN:=zh hvn;clear hvn;have hon:=(qko (HO.out.kept HG3.out (.inr (aB HO.out (by omega)))) HG3b.out (by omega) (by omega)).kept hgn (.inr (aB HO.out (by omega)));have HON:=zh hon;clear hon;have hin2:=HI.out.keep (w':=wn) (g':=(Value.slice A av.length c).ownBlock) (fun pp h1 h2 _=>(World.cell?_of_block (hgn.block pp.block (by omega) (fun e=>by have:=Option.some.inj e;omega))).trans ((World.cell?_of_block (HG3b.out.2.2.2.2 pp.block (by omega) (by omega) (by omega))).trans (World.cell?_of_block (HG3.out.block pp.block h2 (fun e=>by have:=Option.some.inj e;omega))))) (by omega) (fun k hk=> .inl hk);have HIN:=zh hin2;clear hin2;have HMN:=zh (HM3.out.kept hgn (fun e=>by have:=Option.some.inj e;omega));have hVC:∀ w,Rdr w rb vL (j'+1+1) q→RdT w rb vL (aM ts E)→Calls Tryz.prog 51 #[.pointer (some ⟨rb,0,none⟩),.int .i64 ((d:Int)+1)] w (ck rb vL (pV ts E f'' (d+1) (j'+1+1) q) w):=fun w hp hr=>HIH.out f'' (by omega) (d+1) (j'+1+1) q w hp hr (by omega) hq (by omega) (by omega);have hltn:rb<wn.heap.size:=by omega
       rcases hres:pV ts E f'' (d+1) (j'+1+1) q with ⟨a,y⟩ | ⟨v,j1,q1⟩
       ·rw [hres] at hVC;have HVC:=zh hVC;clear hVC;have HRB:=zh (show R = .bad a y by rw [hR2,ql4 h4 hin hc hres];rfl);clear hR2 hres hin hc hnm;go_wp2_with fail;refine wp_region_held_drew (S:=fun w'=>w'.cell? ⟨w.heap.size+1,4,none⟩=some (.slice A av.length c)) (by kernel_rfl) (by go_keep) (fun hHeld=>?_);refine zm 0 ⟨some 23,.fieldAddr 25 (.tmp 5) 4,0,"read.go:183",#[],none⟩ _ rfl (by kernel_rfl) (fun _ _ _ h=>h) (by rfl) hHeld (fun w hSw=>by go_simp;with_reducible rfl) ?_
        refine zm 1 ⟨some 24,.load 23 (.tmp 23),23,"read.go:183",#[⟨0,.data⟩],none⟩ _ rfl (by kernel_rfl) (fun _ _ _ h=>h) (by rfl) hHeld (fun w hSw=>by go_simp;with_reducible rfl) ?_
        refine zm 2 ⟨some 25,.move (.tmp 7),9,"read.go:183",#[],none⟩ _ rfl (by kernel_rfl) (fun _ _ _ h=>h) (by rfl) hHeld (fun w hSw=>by go_simp;with_reducible rfl) ?_
        refine zm 3 ⟨some 26,.move (.tmp 0),89,"read.go:183",#[],none⟩ _ rfl (by kernel_rfl) (fun _ _ _ h=>h) (by rfl) hHeld (fun w hSw=>by go_simp;with_reducible rfl) ?_
        refine zm 4 ⟨some 27,.move (.tmp 1),3,"read.go:183",#[],none⟩ _ rfl (by kernel_rfl) (fun _ _ _ h=>h) (by rfl) hHeld (fun w hSw=>by go_simp;with_reducible rfl) ?_
        refine zm 5 ⟨some 28,.binOp BinOp.add 3 (.tmp 27) (.const (.int .i64 1)) 3,3,"read.go:183",#[⟨4,.data⟩],none⟩ _ rfl (by kernel_rfl) (fun _ _ _ h=>h) (by rfl) hHeld (fun w hSw=>by go_simp;with_reducible rfl) ?_
        refine wpAnyH_ready (rs:=[6]) (by kernel_rfl) (by simp) ?_;refine AllReadyH.cons (o:=⟨some 29,.call ⟨.value (.func 51),#[.tmp 26,.tmp 28],#[89,3]⟩,25,"read.go:183",#[⟨3,.data⟩,⟨5,.data⟩],none⟩) rfl (fun K hK=>?_) AllReadyH.nil
        go_simp;go_at_call 51
        refine (HVC.out wn.drew hpn HRTN.out).mono ?_;rintro e w3 ⟨hg3,rfl⟩;refine ag (P:=Tryz.prog) (fn:=Tryz.f84) rfl ?_;rw [HRB.out];exact ⟨Fr.trans HGN.out (Fr.trans (Fr.drew (Fr.of rb (Below.refl wn.heap.size wn))) hg3),rfl⟩
       ·rw [hres] at hVC;have hok:=(ql6 ts E f'').1 _ _ _ _ _ _ hres hq;have hrn:=hR2.trans (qkM ns av h4 hin hc hres);rw [←hnm] at hrn;have HRN:=zh hrn;clear hrn;have HVC:=zh hVC;clear hVC;have HOK:=zh hok;clear hok;clear hR2 hres hin hc hnm;go_wp2_with fail;refine wp_region_held_drew (S:=fun _=>True) (by kernel_rfl) (trivial) (fun hHeld=>?_);refine zm 0 ⟨some 23,.fieldAddr 25 (.tmp 5) 4,0,"read.go:183",#[],none⟩ _ rfl (by kernel_rfl) (fun _ _ _ h=>h) (by rfl) trivial (fun w hSw=>by go_simp;with_reducible rfl) ?_
        refine zm 2 ⟨some 25,.move (.tmp 7),9,"read.go:183",#[],none⟩ _ rfl (by kernel_rfl) (fun _ _ _ h=>h) (by rfl) trivial (fun w hSw=>by go_simp;with_reducible rfl) ?_
        refine zm 3 ⟨some 26,.move (.tmp 0),89,"read.go:183",#[],none⟩ _ rfl (by kernel_rfl) (fun _ _ _ h=>h) (by rfl) trivial (fun w hSw=>by go_simp;with_reducible rfl) ?_
        refine zm 4 ⟨some 27,.move (.tmp 1),3,"read.go:183",#[],none⟩ _ rfl (by kernel_rfl) (fun _ _ _ h=>h) (by rfl) trivial (fun w hSw=>by go_simp;with_reducible rfl) ?_
        refine zm 5 ⟨some 28,.binOp BinOp.add 3 (.tmp 27) (.const (.int .i64 1)) 3,3,"read.go:183",#[⟨4,.data⟩],none⟩ _ rfl (by kernel_rfl) (fun _ _ _ h=>h) (by rfl) trivial (fun w hSw=>by go_simp;with_reducible rfl) ?_
        refine wpAnyH_ready (rs:=[1,6]) (by kernel_rfl) (by simp) ?_;refine AllReadyH.cons (o:={ dst:=some 24,op:=Op.load 23 (Operand.tmp 23),type:=23,pos:= "read.go:183",after:= #[{ on:=0,ground:=Ground.data }],guard:=none }) rfl (fun K hK=>?_) (AllReadyH.cons (o:={ dst:=some 29,op:=Op.call { callee:=Callee.value (Operand.func 51),args:= #[Operand.tmp 26,Operand.tmp 28],argTypes:= #[89,3] },type:=25,pos:= "read.go:183",after:= #[{ on:=3,ground:=Ground.data },{ on:=5,ground:=Ground.data }],guard:=none }) rfl (fun K hK=>?_) AllReadyH.nil)
        ·go_simp;refine hK.out _ _ trivial (fun _=>?_);clear hK K;refine wpAnyH_ready (rs:=[6]) (by kernel_rfl) (by simp) ?_;refine AllReadyH.cons (o:=⟨some 29,.call ⟨.value (.func 51),#[.tmp 26,.tmp 28],#[89,3]⟩,25,"read.go:183",#[⟨3,.data⟩,⟨5,.data⟩],none⟩) rfl (fun K hK=>?_) AllReadyH.nil
         go_simp;go_at_call 51
         refine (HVC.out wn.drew hpn HRTN.out).mono ?_;rintro e w3 ⟨hg3,v0,v1,v2,v3,v4,rfl,ho3,hV3,hp3⟩;have hgr3:=Fr.trans (Fr.drew (Fr.of rb (Below.refl wn.heap.size wn))) hg3;have hv3:=au hgr3 (by omega) (by omega) HVN.out;have x3w:=(aw hv3).2.2.2.2;have hs23:wn.heap.size≤w3.heap.size:=hg3.size;have hown3:=HON.out.kept hgr3 (.inr (aB HON.out (by omega)));refine hK.out _ _ trivial (fun _=>?_);clear hK K;refine zm 7 ⟨some 30,.build 37 #[(0,.tmp 25),(1,.tmp 29)],37,"read.go:183",#[⟨2,.data⟩,⟨6,.data⟩],none⟩ _ rfl (by kernel_rfl) (fun _ _ _ h=>h) (by rfl) trivial (fun w hSw=>by go_simp;with_reducible rfl) ?_
         refine wpAnyH_ready (rs:=[8]) (by kernel_rfl) (by simp) ?_;refine AllReadyH.cons (o:=⟨some 31,.buildSlice 23 1 #[(0,.tmp 30)],23,"read.go:183",#[⟨7,.data⟩],none⟩) rfl (fun K hK=>?_) AllReadyH.nil
         go_simp;refine hK.out _ _ trivial (fun _=>?_);clear hK K;have x3b:=(aw ((heap_alloc_old w3 (.cells #[.string X,v0,v1,v2,v3,v4] 37) (by omega)).trans hv3)).2.2.2.2;refine wpAnyH_ready (rs:=[9]) (by kernel_rfl) (by simp) ?_;refine AllReadyH.cons (o:=⟨some 32,.call ⟨Callee.builtin Builtin.append,#[.tmp 24,.tmp 31],#[23,23]⟩,23,"read.go:183",#[⟨1,.data⟩,⟨8,.data⟩,⟨6,.chain⟩],none⟩) rfl (fun K hK=>?_) AllReadyH.nil
         refine step_append_lies _ (by rfl) _ _ _ (by rfl) (w.heap.size+3) 37 i0 _ 6 96 Tryz.underlying23 hi0 hz0 hz1 hz2 (by rfl) (by omega) (.slice A av.length c) av.length cs (by rfl) (hown3.alloc _) ⟨w3.heap.size,0,none⟩ 1 1 [.string X,v0,v1,v2,v3,v4] (by rfl) (by rfl) (World.news_of_block (cs:= #[.string X,v0,v1,v2,v3,v4]) (t:=37) (fr:=(0,0)) (heap_alloc_new w3 _)) (qlE ho3.one X) (by omega) (by unfold maxLen;omega) (by omega) (by simp;omega) (w3.heap.size+1) (by simp) ?_;intro g cap w4 hown4 hg4 hat hlt4;have hv4:=(ax hg4 (b:=w.heap.size+1) (by omega) (aB HON.out (by omega))).trans hv3;have x3w:=(aw hv4).2.2.2.2;have f3w:=(aE hv4).2.2.2.2;refine hK.out _ _ trivial (fun _=>?_);clear hK K;refine zm 10 ⟨some 33,.fieldAddr 25 (.tmp 5) 4,0,"read.go:183",#[⟨0,.phase⟩,⟨1,.phase⟩,⟨2,.phase⟩,⟨3,.phase⟩,⟨4,.phase⟩,⟨5,.phase⟩,⟨6,.phase⟩,⟨7,.phase⟩,⟨8,.phase⟩,⟨9,.phase⟩],none⟩ _ rfl (by kernel_rfl) (fun _ _ _ h=>h) (by rfl) trivial (fun w hSw=>by go_simp;with_reducible rfl) ?_
         refine wpAnyH_ready (rs:=[11]) (by kernel_rfl) (by simp) ?_;refine AllReadyH.cons (o:=⟨none,.store 23 (.tmp 33) (.tmp 32),0,"read.go:183",#[⟨10,.data⟩,⟨9,.data⟩,⟨9,.chain⟩,⟨0,.phase⟩,⟨1,.phase⟩,⟨2,.phase⟩,⟨3,.phase⟩,⟨4,.phase⟩,⟨5,.phase⟩,⟨6,.phase⟩,⟨7,.phase⟩,⟨8,.phase⟩,⟨9,.phase⟩],none⟩) rfl (fun K hK=>?_) AllReadyH.nil
         go_simp;refine hK.out _ _ trivial (fun _=>?_);clear hK K;refine wpAnyH_done (by kernel_rfl) ?_ _;go_wp2_with fail;go_roundw
         case rel=>
          obtain ⟨k1,k2,k3,k4,_,_⟩:=HOK.out;refine ⟨ns++[nm],av++[v],j1,q1,f'',n+1,.slice (some ⟨g,0,none⟩) (av.length+1) cap,cs++[.string X,v0,v1,v2,v3,v4],?_,k2,k4,by omega,by omega,by rw [List.length_append];simp;omega,by omega,?_,?_,?_,?_,?_,?_,?_⟩
          ·rw [show (av++[v]).isEmpty=false by simp];exact HRN.out
          ·exact (heap_setCell_other w4 ⟨w.heap.size+1,4,none⟩ rb _ (by show rb≠w.heap.size+1;omega)).trans ((ax hg4 (by omega) (aB HON.out (by omega))).trans hp3)
          ·exact Fr.next (Fr.trans HGN.out hgr3) hg4 (fun k hk=>by have:=(HON.out.lt k hk).1;omega) ⟨w.heap.size+1,4,none⟩ (by show w.heap.size≤w.heap.size+1;omega) _
          ·exact (heap_setCell_other w4 ⟨w.heap.size+1,4,none⟩ w.heap.size _ (by show w.heap.size≠w.heap.size+1;omega)).trans ((ax hg4 (by omega) (aB HON.out (by omega))).trans (au hgr3 (by omega) (by omega) HZN.out))
          ·exact heap_setCell_same w4 (w.heap.size+1) 4 _ _ _ hv4
          ·rw [List.length_append];exact ownsRow_setCell_below hown4 (by show w.heap.size+1<w.heap.size+3;omega) _
          ·rw [HX.out];exact cR.next hgr3 (by omega) (by omega) hg4 (fun k hk=>(HON.out.lt k hk).2) hat HIN.out rfl ho3.one (Nat.le_refl _) hV3 ⟨w.heap.size+1,4,none⟩ (by show w.heap.size+1<w.heap.size+3;omega) _
          ·exact (((HMN.out.kept hgr3 (fun e=>by have:=Option.some.inj e;omega)).alloc _).kept hg4 (aB HON.out (by omega)).symm).setCell (by show w.heap.size+2≠w.heap.size+1;omega) _
         case measure=>
          have m1:=HPR.out.next;have m2:Rdr (w4.setCell ⟨w.heap.size+1,4,none⟩ (.slice (some ⟨g,0,none⟩) (av.length+1) cap)) rb vL j1 q1:=(heap_setCell_other w4 ⟨w.heap.size+1,4,none⟩ rb _ (by show rb≠w.heap.size+1;omega)).trans ((ax hg4 (by omega) (aB HON.out (by omega))).trans hp3);obtain ⟨k1,k2,_⟩:=HOK.out;rw [m1,m2.next];omega
        ·go_simp;go_at_call 51
         refine (HVC.out wn.drew hpn HRTN.out).mono ?_;rintro e w3 ⟨hg3,v0,v1,v2,v3,v4,rfl,ho3,hV3,hp3⟩;have hgr3:=Fr.trans (Fr.drew (Fr.of rb (Below.refl wn.heap.size wn))) hg3;have hv3:=au hgr3 (by omega) (by omega) HVN.out;have x3w:=(aw hv3).2.2.2.2;have hs23:wn.heap.size≤w3.heap.size:=hg3.size;have hown3:=HON.out.kept hgr3 (.inr (aB HON.out (by omega)));refine hK.out _ _ trivial (fun _=>?_);clear hK K;refine zm 7 ⟨some 30,.build 37 #[(0,.tmp 25),(1,.tmp 29)],37,"read.go:183",#[⟨2,.data⟩,⟨6,.data⟩],none⟩ _ rfl (by kernel_rfl) (fun _ _ _ h=>h) (by rfl) trivial (fun w hSw=>by go_simp;with_reducible rfl) ?_
         refine wpAnyH_ready (rs:=[1,8]) (by kernel_rfl) (by simp) ?_;refine AllReadyH.cons (o:={ dst:=some 24,op:=Op.load 23 (Operand.tmp 23),type:=23,pos:= "read.go:183",after:= #[{ on:=0,ground:=Ground.data }],guard:=none }) rfl (fun K hK=>?_) (AllReadyH.cons (o:={ dst:=some 31,op:=Op.buildSlice 23 1 #[(0,Operand.tmp 30)],type:=23,pos:= "read.go:183",after:= #[{ on:=7,ground:=Ground.data }],guard:=none }) rfl (fun K hK=>?_) AllReadyH.nil)
         ·go_simp;refine hK.out _ _ trivial (fun _=>?_);clear hK K;refine wpAnyH_ready (rs:=[8]) (by kernel_rfl) (by simp) ?_;refine AllReadyH.cons (o:=⟨some 31,.buildSlice 23 1 #[(0,.tmp 30)],23,"read.go:183",#[⟨7,.data⟩],none⟩) rfl (fun K hK=>?_) AllReadyH.nil
          go_simp;refine hK.out _ _ trivial (fun _=>?_);clear hK K;have x3b:=(aw ((heap_alloc_old w3 (.cells #[.string X,v0,v1,v2,v3,v4] 37) (by omega)).trans hv3)).2.2.2.2;refine wpAnyH_ready (rs:=[9]) (by kernel_rfl) (by simp) ?_;refine AllReadyH.cons (o:=⟨some 32,.call ⟨Callee.builtin Builtin.append,#[.tmp 24,.tmp 31],#[23,23]⟩,23,"read.go:183",#[⟨1,.data⟩,⟨8,.data⟩,⟨6,.chain⟩],none⟩) rfl (fun K hK=>?_) AllReadyH.nil
          refine step_append_lies _ (by rfl) _ _ _ (by rfl) (w.heap.size+3) 37 i0 _ 6 96 Tryz.underlying23 hi0 hz0 hz1 hz2 (by rfl) (by omega) (.slice A av.length c) av.length cs (by rfl) (hown3.alloc _) ⟨w3.heap.size,0,none⟩ 1 1 [.string X,v0,v1,v2,v3,v4] (by rfl) (by rfl) (World.news_of_block (cs:= #[.string X,v0,v1,v2,v3,v4]) (t:=37) (fr:=(0,0)) (heap_alloc_new w3 _)) (qlE ho3.one X) (by omega) (by unfold maxLen;omega) (by omega) (by simp;omega) (w3.heap.size+1) (by simp) ?_;intro g cap w4 hown4 hg4 hat hlt4;have hv4:=(ax hg4 (b:=w.heap.size+1) (by omega) (aB HON.out (by omega))).trans hv3;have x3w:=(aw hv4).2.2.2.2;have f3w:=(aE hv4).2.2.2.2;refine hK.out _ _ trivial (fun _=>?_);clear hK K;refine zm 10 ⟨some 33,.fieldAddr 25 (.tmp 5) 4,0,"read.go:183",#[⟨0,.phase⟩,⟨1,.phase⟩,⟨2,.phase⟩,⟨3,.phase⟩,⟨4,.phase⟩,⟨5,.phase⟩,⟨6,.phase⟩,⟨7,.phase⟩,⟨8,.phase⟩,⟨9,.phase⟩],none⟩ _ rfl (by kernel_rfl) (fun _ _ _ h=>h) (by rfl) trivial (fun w hSw=>by go_simp;with_reducible rfl) ?_
          refine wpAnyH_ready (rs:=[11]) (by kernel_rfl) (by simp) ?_;refine AllReadyH.cons (o:=⟨none,.store 23 (.tmp 33) (.tmp 32),0,"read.go:183",#[⟨10,.data⟩,⟨9,.data⟩,⟨9,.chain⟩,⟨0,.phase⟩,⟨1,.phase⟩,⟨2,.phase⟩,⟨3,.phase⟩,⟨4,.phase⟩,⟨5,.phase⟩,⟨6,.phase⟩,⟨7,.phase⟩,⟨8,.phase⟩,⟨9,.phase⟩],none⟩) rfl (fun K hK=>?_) AllReadyH.nil
          go_simp;refine hK.out _ _ trivial (fun _=>?_);clear hK K;refine wpAnyH_done (by kernel_rfl) ?_ _;go_wp2_with fail;go_roundw
          case rel=>
           obtain ⟨k1,k2,k3,k4,_,_⟩:=HOK.out;refine ⟨ns++[nm],av++[v],j1,q1,f'',n+1,.slice (some ⟨g,0,none⟩) (av.length+1) cap,cs++[.string X,v0,v1,v2,v3,v4],?_,k2,k4,by omega,by omega,by rw [List.length_append];simp;omega,by omega,?_,?_,?_,?_,?_,?_,?_⟩
           ·rw [show (av++[v]).isEmpty=false by simp];exact HRN.out
           ·exact (heap_setCell_other w4 ⟨w.heap.size+1,4,none⟩ rb _ (by show rb≠w.heap.size+1;omega)).trans ((ax hg4 (by omega) (aB HON.out (by omega))).trans hp3)
           ·exact Fr.next (Fr.trans HGN.out hgr3) hg4 (fun k hk=>by have:=(HON.out.lt k hk).1;omega) ⟨w.heap.size+1,4,none⟩ (by show w.heap.size≤w.heap.size+1;omega) _
           ·exact (heap_setCell_other w4 ⟨w.heap.size+1,4,none⟩ w.heap.size _ (by show w.heap.size≠w.heap.size+1;omega)).trans ((ax hg4 (by omega) (aB HON.out (by omega))).trans (au hgr3 (by omega) (by omega) HZN.out))
           ·exact heap_setCell_same w4 (w.heap.size+1) 4 _ _ _ hv4
           ·rw [List.length_append];exact ownsRow_setCell_below hown4 (by show w.heap.size+1<w.heap.size+3;omega) _
           ·rw [HX.out];exact cR.next hgr3 (by omega) (by omega) hg4 (fun k hk=>(HON.out.lt k hk).2) hat HIN.out rfl ho3.one (Nat.le_refl _) hV3 ⟨w.heap.size+1,4,none⟩ (by show w.heap.size+1<w.heap.size+3;omega) _
           ·exact (((HMN.out.kept hgr3 (fun e=>by have:=Option.some.inj e;omega)).alloc _).kept hg4 (aB HON.out (by omega)).symm).setCell (by show w.heap.size+2≠w.heap.size+1;omega) _
          case measure=>
           have m1:=HPR.out.next;have m2:Rdr (w4.setCell ⟨w.heap.size+1,4,none⟩ (.slice (some ⟨g,0,none⟩) (av.length+1) cap)) rb vL j1 q1:=(heap_setCell_other w4 ⟨w.heap.size+1,4,none⟩ rb _ (by show rb≠w.heap.size+1;omega)).trans ((ax hg4 (by omega) (aB HON.out (by omega))).trans hp3);obtain ⟨k1,k2,_⟩:=HOK.out;rw [m1,m2.next];omega
         ·go_simp;refine hK.out _ _ trivial (fun _=>?_);clear hK K;have x3b:=(aw ((heap_alloc_old w3 (.cells #[.string X,v0,v1,v2,v3,v4] 37) (by omega)).trans hv3)).2.2.2.2;refine wpAnyH_ready (rs:=[1]) (by kernel_rfl) (by simp) ?_;refine AllReadyH.cons (o:=⟨some 24,.load 23 (.tmp 23),23,"read.go:183",#[⟨0,.data⟩],none⟩) rfl (fun K hK=>?_) AllReadyH.nil
          go_simp;refine hK.out _ _ trivial (fun _=>?_);clear hK K;refine wpAnyH_ready (rs:=[9]) (by kernel_rfl) (by simp) ?_;refine AllReadyH.cons (o:=⟨some 32,.call ⟨Callee.builtin Builtin.append,#[.tmp 24,.tmp 31],#[23,23]⟩,23,"read.go:183",#[⟨1,.data⟩,⟨8,.data⟩,⟨6,.chain⟩],none⟩) rfl (fun K hK=>?_) AllReadyH.nil
          refine step_append_lies _ (by rfl) _ _ _ (by rfl) (w.heap.size+3) 37 i0 _ 6 96 Tryz.underlying23 hi0 hz0 hz1 hz2 (by rfl) (by omega) (.slice A av.length c) av.length cs (by rfl) (hown3.alloc _) ⟨w3.heap.size,0,none⟩ 1 1 [.string X,v0,v1,v2,v3,v4] (by rfl) (by rfl) (World.news_of_block (cs:= #[.string X,v0,v1,v2,v3,v4]) (t:=37) (fr:=(0,0)) (heap_alloc_new w3 _)) (qlE ho3.one X) (by omega) (by unfold maxLen;omega) (by omega) (by simp;omega) (w3.heap.size+1) (by simp) ?_;intro g cap w4 hown4 hg4 hat hlt4;have hv4:=(ax hg4 (b:=w.heap.size+1) (by omega) (aB HON.out (by omega))).trans hv3;have x3w:=(aw hv4).2.2.2.2;have f3w:=(aE hv4).2.2.2.2;refine hK.out _ _ trivial (fun _=>?_);clear hK K;refine zm 10 ⟨some 33,.fieldAddr 25 (.tmp 5) 4,0,"read.go:183",#[⟨0,.phase⟩,⟨1,.phase⟩,⟨2,.phase⟩,⟨3,.phase⟩,⟨4,.phase⟩,⟨5,.phase⟩,⟨6,.phase⟩,⟨7,.phase⟩,⟨8,.phase⟩,⟨9,.phase⟩],none⟩ _ rfl (by kernel_rfl) (fun _ _ _ h=>h) (by rfl) trivial (fun w hSw=>by go_simp;with_reducible rfl) ?_
          refine wpAnyH_ready (rs:=[11]) (by kernel_rfl) (by simp) ?_;refine AllReadyH.cons (o:=⟨none,.store 23 (.tmp 33) (.tmp 32),0,"read.go:183",#[⟨10,.data⟩,⟨9,.data⟩,⟨9,.chain⟩,⟨0,.phase⟩,⟨1,.phase⟩,⟨2,.phase⟩,⟨3,.phase⟩,⟨4,.phase⟩,⟨5,.phase⟩,⟨6,.phase⟩,⟨7,.phase⟩,⟨8,.phase⟩,⟨9,.phase⟩],none⟩) rfl (fun K hK=>?_) AllReadyH.nil
          go_simp;refine hK.out _ _ trivial (fun _=>?_);clear hK K;refine wpAnyH_done (by kernel_rfl) ?_ _;go_wp2_with fail;go_roundw
          case rel=>
           obtain ⟨k1,k2,k3,k4,_,_⟩:=HOK.out;refine ⟨ns++[nm],av++[v],j1,q1,f'',n+1,.slice (some ⟨g,0,none⟩) (av.length+1) cap,cs++[.string X,v0,v1,v2,v3,v4],?_,k2,k4,by omega,by omega,by rw [List.length_append];simp;omega,by omega,?_,?_,?_,?_,?_,?_,?_⟩
           ·rw [show (av++[v]).isEmpty=false by simp];exact HRN.out
           ·exact (heap_setCell_other w4 ⟨w.heap.size+1,4,none⟩ rb _ (by show rb≠w.heap.size+1;omega)).trans ((ax hg4 (by omega) (aB HON.out (by omega))).trans hp3)
           ·exact Fr.next (Fr.trans HGN.out hgr3) hg4 (fun k hk=>by have:=(HON.out.lt k hk).1;omega) ⟨w.heap.size+1,4,none⟩ (by show w.heap.size≤w.heap.size+1;omega) _
           ·exact (heap_setCell_other w4 ⟨w.heap.size+1,4,none⟩ w.heap.size _ (by show w.heap.size≠w.heap.size+1;omega)).trans ((ax hg4 (by omega) (aB HON.out (by omega))).trans (au hgr3 (by omega) (by omega) HZN.out))
           ·exact heap_setCell_same w4 (w.heap.size+1) 4 _ _ _ hv4
           ·rw [List.length_append];exact ownsRow_setCell_below hown4 (by show w.heap.size+1<w.heap.size+3;omega) _
           ·rw [HX.out];exact cR.next hgr3 (by omega) (by omega) hg4 (fun k hk=>(HON.out.lt k hk).2) hat HIN.out rfl ho3.one (Nat.le_refl _) hV3 ⟨w.heap.size+1,4,none⟩ (by show w.heap.size+1<w.heap.size+3;omega) _
           ·exact (((HMN.out.kept hgr3 (fun e=>by have:=Option.some.inj e;omega)).alloc _).kept hg4 (aB HON.out (by omega)).symm).setCell (by show w.heap.size+2≠w.heap.size+1;omega) _
          case measure=>
           have m1:=HPR.out.next;have m2:Rdr (w4.setCell ⟨w.heap.size+1,4,none⟩ (.slice (some ⟨g,0,none⟩) (av.length+1) cap)) rb vL j1 q1:=(heap_setCell_other w4 ⟨w.heap.size+1,4,none⟩ rb _ (by show rb≠w.heap.size+1;omega)).trans ((ax hg4 (by omega) (aB HON.out (by omega))).trans hp3);obtain ⟨k1,k2,_⟩:=HOK.out;rw [m1,m2.next];omega
      ·cases h
     ·rw [Bool.not_eq_true] at hc;rw [hc];rintro e wn ⟨hgn,⟨h,_⟩ | ⟨_,rfl⟩⟩
      ·cases h
      ·have HRB:=zh (show R = .bad (tk ts E (j'+1)).2.2.2 50 by rw [hR2,qje h4 hin hc];rfl);refine ag (P:=Tryz.prog) (fn:=Tryz.f84) rfl ?_;rw [HRB.out];exact ⟨Fr.trans HF3.out hgn,rfl⟩
   ·have HR2:=zh hR2;clear hR2;refine ag (P:=Tryz.prog) (fn:=Tryz.f84) rfl ?_;rw [HR2.out];exact ⟨Fr.trans HG.out hg2,rfl⟩
 ·cases h
