/- Merged: TrP TrQ TrR TrT TsF. -/
import Derived.Test.YtnecfkhbncepnaaGreatDoorTt42
import Derived.Test.YtnecfkhbncepnaaGreatDoorTt16
import Derived.Test.YtnecfkhbncepnaaGreatDoorTt26
set_option maxRecDepth 100000
set_option maxHeartbeats 1000000
namespace Go.Proofs.YtnecfkhbncepnaaGreatDoor
namespace Tr
open Go.Proofs Go.RowKit Go.Lib Go.Sort Utf Sc Re
mutual
/-- only lists have values, only maps members -/
def oV:V→Prop
 | .mk k _ _ l _ ms=>(k≠5→l=[])∧(k≠6→ms=[])∧oL l∧oL ms
def oL:List V→Prop
 | []=>True
 | v::r=>oV v∧oL r
end
theorem qjT (v:V):oV v↔(v.k≠5→v.l=[])∧(v.k≠6→v.ms=[])∧oL v.l∧oL v.ms:=by cases v;rw [oV];rfl
theorem qaa {v:V}:∀ {l:List V},oL l→v∈l→oV v
 | [],_,h=>by cases h
 | a::r,h,hv=>by
  rw [oL] at h;rcases List.mem_cons.1 hv with rfl | hv
  ·exact h.1
  ·exact qaa h.2 hv
mutual
/-- the first value is the second one, sorted -/
def Srt:V→V→Prop
 | .mk k n s l ns ms,v=>k=v.k∧n=v.n∧s=v.s∧dM l v.l∧ns.length=ms.length∧ns.Pairwise (fun a b=>ltN b a=false)∧∃ P:List (List UInt8×V),P.Perm (v.ns.zip v.ms)∧P.map Prod.fst=ns∧dM ms (P.map Prod.snd)
def dM:List V→List V→Prop
 | [],r=>r=[]
 | x::t,r=>∃ y u,r=y::u∧Srt x y∧dM t u
end
theorem bE:∀ l r:List V,dM l r↔l.length=r.length∧∀ i (h1:i<l.length) (h2:i<r.length),Srt l[i] r[i]
 | [],r=>by
  rw [dM];exact ⟨fun e=>by subst e;exact ⟨rfl,fun i h=>by simp at h⟩,fun h=>List.eq_nil_of_length_eq_zero h.1.symm⟩
 | x::t,r=>by
  rw [dM];constructor
  ·rintro ⟨y,u,rfl,h1,h2⟩;obtain ⟨k1,k2⟩:=(bE t u).1 h2;refine ⟨by simp [k1],fun i i1 i2=>?_⟩;cases i with
   | zero=>exact h1
   | succ i=>exact k2 i (by simpa using i1) (by simpa using i2)
  ·rintro ⟨h1,h2⟩;cases r with
   | nil=>simp at h1
   | cons y u=>exact ⟨y,u,rfl,h2 0 (by simp) (by simp),(bE t u).2 ⟨by simpa using h1,fun i i1 i2=>h2 (i+1) (by simpa using i1) (by simpa using i2)⟩⟩
theorem qbu (a v:V):Srt a v↔a.k=v.k∧a.n=v.n∧a.s=v.s∧dM a.l v.l∧a.ns.length=a.ms.length∧a.ns.Pairwise (fun a b=>ltN b a=false)∧∃ P:List (List UInt8×V),P.Perm (v.ns.zip v.ms)∧P.map Prod.fst=a.ns∧dM a.ms (P.map Prod.snd):=by
 cases a;rw [Srt];rfl
structure aA (F:List Nat) (w w':World):Prop where
 os:w'.os=w.os
 tape:w'.tape=w.tape
 output:w'.output=w.output
 size:w.heap.size≤w'.heap.size
 block:∀ k,k<w.heap.size→k∉F→w'.heap[k]? = w.heap[k]?
theorem aA.refl (F:List Nat) (w:World):aA F w w:=⟨rfl,rfl,rfl,Nat.le_refl _,fun _ _ _=>rfl⟩
theorem aA.trans {F:List Nat} {w w1 w2:World} (h:aA F w w1) (k:aA F w1 w2):aA F w w2:=
 ⟨k.os.trans h.os,k.tape.trans h.tape,k.output.trans h.output,Nat.le_trans h.size k.size,fun i h1 h2=>(k.block i (Nat.lt_of_lt_of_le h1 h.size) h2).trans (h.block i h1 h2)⟩
theorem aA.more {F G:List Nat} {w w':World} (h:aA F w w') (hs:∀ x,x∈F→x∈G):aA G w w':=⟨h.os,h.tape,h.output,h.size,fun k h1 h2=>h.block k h1 fun h3=>h2 (hs k h3)⟩
theorem aA.of {F:List Nat} {w w':World} (h:Below w.heap.size w w'):aA F w w':=⟨h.os,h.tape,h.output,h.size,fun k hk _=>h.block k hk⟩
theorem aA.below {F:List Nat} {B:Nat} {w w':World} (h:aA F w w') (hB:B≤w.heap.size) (hF:∀ x∈F,B≤x):Below B w w':=⟨h.os,h.tape,h.output,h.size,fun k hk=>h.block k (by omega) fun hx=>by have:=hF k hx;omega⟩
structure It (s o0 g:Nat) (lc:List V) (Gs:List (List Nat)) (w:World):Prop where
 len:Gs.length=lc.length
 at_:∀ i (h1:i<lc.length) (h2:i<Gs.length),∃ cs,am w g (i*s+o0) cs∧RdF w lc[i] cs Gs[i]
 nod:(g::Gs.flatten).Nodup
 lt:∀ x∈g::Gs.flatten,x<w.heap.size
theorem dh:∀ (Gs:List (List Nat)) (j:Nat) (G:List Nat) (_hj:j<Gs.length),G.Perm Gs[j]→(Gs.set j G).flatten.Perm Gs.flatten
 | [],_,_,hj,_=>by simp at hj
 | a::r,0,G,_,h=>by
  simp only [List.set_cons_zero,List.flatten_cons];exact h.append_right _
 | a::r,j+1,G,hj,h=>by
  simp only [List.set_cons_succ,List.flatten_cons];exact (dh r j G (by simpa using hj) (by simpa using h)).append_left _
theorem aq {Gs:List (List Nat)} {i:Nat} (hi:i<Gs.length) {x:Nat} (hx:x∈Gs[i]):x∈Gs.flatten:=List.mem_flatten.2 ⟨_,List.getElem_mem hi,hx⟩
theorem qad:∀ {Gs:List (List Nat)} (i j:Nat) (hi:i<Gs.length) (hj:j<Gs.length),Gs.flatten.Nodup→i≠j→∀ x,x∈Gs[i]→x∈Gs[j]→False
 | [],i,_,hi,_,_,_,_,_,_=>by simp at hi
 | a::r,i,j,hi,hj,hn,hne,x,hx,hy=>by
  rw [List.flatten_cons,List.nodup_append] at hn;cases i with
  | zero=>
   cases j with
   | zero=>exact hne rfl
   | succ j=>exact hn.2.2 x (by simpa using hx) x (aq (by simpa using hj) (by simpa using hy)) rfl
  | succ i=>
   cases j with
   | zero=>exact hn.2.2 x (by simpa using hy) x (aq (by simpa using hi) (by simpa using hx)) rfl
   | succ j=>exact qad i j (by simpa using hi) (by simpa using hj) hn.2.1 (by omega) x (by simpa using hx) (by simpa using hy)
theorem It.step {s o0 g j:Nat} {lc:List V} {Gs:List (List Nat)} {w w':World} (h:It s o0 g lc Gs w) (_hj:j<lc.length) (hjg:j<Gs.length) {v':V} {G':List Nat} {cs:List Value} (hc:aA Gs[j] w w')
  (hcs:am w g (j*s+o0) cs) (hr:RdF w' v' cs G') (hp:G'.Perm Gs[j]):It s o0 g (lc.set j v') (Gs.set j G') w':=by
 have hn:=h.nod;rw [List.nodup_cons] at hn;have hg:w'.heap[g]? = w.heap[g]?:=hc.block g (h.lt g (by simp)) fun hx=>hn.1 (aq hjg hx);have hpf:=dh Gs j G' hjg hp;refine ⟨by simp [h.len],fun i h1 h2=>?_,?_,fun x hx=>?_⟩
 ·by_cases e:j=i
  ·subst e;simp only [List.getElem_set_self];exact ⟨cs,hcs.keep hg,hr⟩
  ·simp only [List.getElem_set_ne e];have i1:i<lc.length:=by simpa using h1
   have i2:i<Gs.length:=by simpa using h2
   obtain ⟨c,p1,p2⟩:=h.at_ i i1 i2;exact ⟨c,p1.keep hg,RdF.keep _ _ _ (fun k hk=>hc.block k (h.lt k (by simp;right;exact ⟨_,List.getElem_mem i2,hk⟩)) fun hx=>qad i j i2 hjg hn.2 (fun q=>e q.symm) k hk hx) p2⟩
 ·rw [List.nodup_cons];exact ⟨fun hx=>hn.1 (hpf.mem_iff.1 hx),hpf.nodup_iff.2 hn.2⟩
 ·have:=h.lt x (by
   rcases List.mem_cons.1 hx with rfl | hx
   ·simp
   ·exact List.mem_cons_of_mem _ (hpf.mem_iff.1 hx))
  exact Nat.lt_of_lt_of_le this hc.size
theorem It.keep {s o0 g:Nat} {lc:List V} {Gs:List (List Nat)} {w w':World} (h:It s o0 g lc Gs w) (hb:Below w.heap.size w w'):It s o0 g lc Gs w' where
 len:=h.len
 at_:=fun i h1 h2=>by
  obtain ⟨c,p1,p2⟩:=h.at_ i h1 h2;exact ⟨c,p1.keep (hb.block g (h.lt g (by simp))),RdF.keep _ _ _ (fun k hk=>hb.block k (h.lt k (List.mem_cons_of_mem _ (aq h2 hk)))) p2⟩
 nod:=h.nod
 lt:=fun x hx=>Nat.lt_of_lt_of_le (h.lt x hx) hb.size
theorem qlm {α β : Type} (f : α → β):∀ {l' l:List β},l'.Perm l→∀ t:List α,t.map f=l→∃ t':List α,t'.Perm t∧t'.map f=l':=by
 intro l' l h;induction h with
 | nil=>intro t ht;exact ⟨t,List.Perm.refl _,ht⟩
 | cons x _ ih=>
  intro t ht;cases t with
  | nil=>simp at ht
  | cons a r=>
   simp only [List.map_cons,List.cons.injEq] at ht;obtain ⟨t',p,e⟩:=ih r ht.2;exact ⟨a::t',p.cons a,by simp [e,ht.1]⟩
 | swap x y l=>
  intro t ht
  match t,ht with
  | a::b::r,ht=>
   simp only [List.map_cons,List.cons.injEq] at ht;exact ⟨b::a::r,List.Perm.swap _ _ _,by simp [ht.1,ht.2.1,ht.2.2]⟩
 | trans _ _ ih1 ih2=>
  intro t ht;obtain ⟨t1,p1,e1⟩:=ih2 t ht;obtain ⟨t2,p2,e2⟩:=ih1 t1 e1;exact ⟨t2,p2.trans p1,e2⟩
theorem qkz {w0 W:World} {blk off:Nat} {d:Array M6} (S:SWK aj 6 w0 blk off d W):aA [blk] w0 W:=by
 obtain ⟨n,os,rfl⟩:=S;refine ⟨rfl,rfl,rfl,?_,fun k hk hne=>?_⟩
 ·unfold sortWorldK;rw [size_grow,size_putRowK];show w0.heap.size≤w0.heap.size+_;omega
 ·have hb:k≠blk:=fun e=>hne (by simp [e]);unfold sortWorldK;rw [heap_grow_old _ _ (by rw [size_putRowK];exact hk)];show ((Sort.ahead w0 n).heap.modify blk _)[k]? = _;rw [Array.getElem?_modify,if_neg (fun e=>hb e.symm)];rfl
theorem qoJ {w:World} {g:Nat} {d:Array M6} (h:∀ i,i<d.size→am w g (i*6) (aj d[i]!)):HoldsK aj 6 w g 0 d:=by
 intro j hj;rw [size_flatK] at hj;have hk:j / 6<d.size:=by omega
 have e:j=j / 6*6+j % 6:=by omega
 have hm:j % 6<6:=by omega
 have hc:=h (j / 6) hk (j % 6) ((aj d[j / 6]!)[j % 6]!) (by
  have hl:j % 6<(aj d[j / 6]!).length:=by rw [qbS];exact hm
  rw [getElem!_pos (aj d[j / 6]!) (j % 6) hl];exact List.getElem?_eq_getElem hl)
 rw [get_flatK _ _ _ _ hj,Nat.zero_add];rw [←e] at hc;exact hc
theorem qlL {W:World} {b o:Nat} {x:M6} (h:C6 W b o x):am W b o (aj x):=by
 obtain ⟨⟨a0,a1,a2,a3,a4,a5⟩,⟨f0,f1,f2,f3,f4,f5⟩⟩:=h;intro j u hu;have hj:j<6:=by have:=(List.getElem?_eq_some_iff.1 hu).1;rwa [qbS] at this
 have hjj:j=0∨j=1∨j=2∨j=3∨j=4∨j=5:=by omega
 rcases hjj with rfl | rfl | rfl | rfl | rfl | rfl <;> injection hu with hu <;> subst hu
 ·exact ⟨a0,f0⟩
 ·exact ⟨a1,f1⟩
 ·exact ⟨a2,f2⟩
 ·exact ⟨a3,f3⟩
 ·exact ⟨a4,f4⟩
 ·exact ⟨a5,f5⟩
theorem qgE {w:World} {g:Nat}:∀ (ms:List V) (ns:List (List UInt8)) (F:List Nat) (i:Nat),bf w g i ns ms F→ns.length=ms.length→∃ T:List (M6×V×List Nat),T.map (fun t=>t.2.1)=ms∧T.map (fun t=>t.1.nm)=ns∧(T.map (fun t=>t.2.2)).flatten=F∧
  (∀ j (h:j<T.length),am w g ((i+j)*6) (aj T[j].1))∧(∀ t∈T,RdF w t.2.1 (dl t.1) t.2.2)
 | [],ns,F,i,h,hn=>by rw [bf] at h;exact ⟨[],rfl,by rw [List.eq_nil_of_length_eq_zero hn];rfl,by rw [h];rfl,fun j h=>by simp at h,fun t h=>by cases h⟩
 | v::r,ns,F,i,h,hn=>by
  rw [bf] at h;obtain ⟨nm,ns',cs,F1,F2,rfl,rfl,h1,h2,h3⟩:=h;obtain ⟨T,t1,t2,t3,t4,t5⟩:=qgE r ns' F2 (i+1) h3 (by simpa using hn);obtain ⟨A,c,A2,c2,_,_,rfl,_⟩:=h2.cells;refine ⟨(⟨nm,v.k,v.n,aa v.s,A,v.l.length,c,A2,v.ms.length,c2⟩,v,F1)::T,by simp [t1],by simp [t2],by simp [t3],fun j hj=>?_,fun t ht=>?_⟩
  ·cases j with
   | zero=>exact (show am w g ((i+0)*6) _ from h1)
   | succ j=>
    have:=t4 j (by simpa using hj);rw [show i+1+j=i+(j+1) by omega] at this;exact this
  ·rcases List.mem_cons.1 ht with rfl | ht
   ·exact h2
   ·exact t5 t ht
theorem qlx {d:Array M6} {n:Nat} (hn:d.size=n) (h:SortedIn (ltOf cfM) 0 n d):(d.toList.map M6.nm).Pairwise (fun a b=>ltN b a=false):=by
 rw [List.pairwise_iff_getElem];intro i j hi hj hij;have hi':i<d.size:=by simpa using hi
 have hj':j<d.size:=by simpa using hj
 have:=h i j (Nat.zero_le _) hij (by omega);rw [getElem!_pos d i hi',getElem!_pos d j hj',qsh] at this
 simpa using this
theorem qiY {w0 W:World} {g:Nat} {T:List (M6×V×List Nat)} {d':Array M6} (hT:∀ j (h:j<T.length),am w0 g (j*6) (aj T[j].1)) (hv:∀ t∈T,RdF w0 t.2.1 (dl t.1) t.2.2) (hnod:(g::(T.map (fun t=>t.2.2)).flatten).Nodup) (hlt:∀ x∈g::(T.map (fun t=>t.2.2)).flatten,x<w0.heap.size)
  (S:SWK aj 6 w0 g 0 d' W) (R:RowK aj 6 w0 g 0 (T.map Prod.fst).toArray) (hp:PermIn 0 T.length (T.map Prod.fst).toArray d') (hs:SortedIn (ltOf cfM) 0 T.length d') :
  ∃ T':List (M6×V×List Nat),T'.Perm T∧(T'.map (fun t=>t.1.nm)).Pairwise (fun a b=>ltN b a=false)∧It 6 1 g (T'.map (fun t=>t.2.1)) (T'.map (fun t=>t.2.2)) W∧cW g (T'.map (fun t=>t.1.nm)) W:=by
 have hsz:d'.size=T.length:=by have:=hp.1;simpa using this
 have hperm:d'.toList.Perm (T.map Prod.fst):=by
  have h3:=hp.2.2;have e1:(d'.extract 0 T.length).toList=d'.toList:=by rw [←hsz];simp
  have e2:((T.map Prod.fst).toArray.extract 0 T.length).toList=T.map Prod.fst:=by
   simp only [List.extract_toArray,List.extract_eq_take_drop,List.drop_zero,Nat.sub_zero];exact List.take_of_length_le (by simp)
  rw [e1,e2] at h3;exact h3
 obtain ⟨T',p1,p2⟩:=qlm Prod.fst hperm T rfl;have hlen:T'.length=T.length:=p1.length_eq;have hch:=qkz S;have hfl:(T'.map (fun t=>t.2.2)).flatten.Perm (T.map (fun t=>t.2.2)).flatten:=(p1.map _).flatten;have hnd:=hnod;rw [List.nodup_cons] at hnd;have hcell:∀ j (h:j<T'.length),am W g (j*6) (aj T'[j].1):=fun j h=>by
  have hjd:j<d'.size:=by omega
  have:=qlL (qaQ S R (by simp [hsz]) j hjd);rw [Nat.zero_add] at this;have e:d'[j]! = T'[j].1:=by
   rw [getElem!_pos d' j hjd];have q:d'.toList[j]? = (T'.map Prod.fst)[j]?:=by rw [p2]
   rw [List.getElem?_eq_getElem (by simpa using hjd),List.getElem?_map,List.getElem?_eq_getElem h] at q
   simpa using q
  rw [e] at this;exact this
 have hval:∀ t∈T',RdF W t.2.1 (dl t.1) t.2.2:=fun t ht=>by
  have ht':=p1.mem_iff.1 ht;exact RdF.keep _ _ _ (fun k hk=>hch.block k (hlt k (List.mem_cons_of_mem _ (List.mem_flatten.2 ⟨_,List.mem_map.2 ⟨t,ht',rfl⟩,hk⟩))) fun hx=>by
   rw [List.mem_singleton] at hx;subst hx;exact hnd.1 (List.mem_flatten.2 ⟨_,List.mem_map.2 ⟨t,ht',rfl⟩,hk⟩)) (hv t ht')
 refine ⟨T',p1,?_,⟨by simp,fun i h1 h2=>?_,?_,fun x hx=>?_⟩,fun j hj=>?_⟩
 ·have:=qlx hsz hs;rw [←p2,List.map_map] at this;exact this
 ·have hi:i<T'.length:=by simpa using h1
  refine ⟨dl T'[i].1,(ca.1 (show am W g (i*6) (.string (aa T'[i].1.nm)::dl T'[i].1) from hcell i hi)).2,?_⟩;simp only [List.getElem_map];exact hval _ (List.getElem_mem hi)
 ·rw [List.nodup_cons];exact ⟨fun hx=>hnd.1 (hfl.mem_iff.1 hx),hfl.nodup_iff.2 hnd.2⟩
 ·refine Nat.lt_of_lt_of_le (hlt x ?_) hch.size;rcases List.mem_cons.1 hx with rfl | hx
  ·simp
  ·exact List.mem_cons_of_mem _ (hfl.mem_iff.1 hx)
 ·have hj':j<T'.length:=by simpa using hj
  have:=(ca.1 (show am W g (j*6) (.string (aa T'[j].1.nm)::dl T'[j].1) from hcell j hj')).1;simp only [List.getElem_map];exact this
def qoP (v:V) (cs:List Value) (F:List Nat) (w:World) (e:Ending) (w':World):Prop:=
 e = .returned (.tuple #[])∧∃ (v':V) (F':List Nat),Srt v' v∧RdF w' v' cs F'∧F'.Perm F∧aA F w w'
def qgX (v:V):Prop:=∀ (cs:List Value) (F:List Nat) (w:World),RdF w v cs F→F.Nodup→(∀ x∈F,x<w.heap.size)→Calls Tryz.prog 55 #[.agg cs.toArray] w (qoP v cs F w)
theorem cG:∀ (Gs:List (List Nat)),Gs.flatten.Nodup→∀ j (h:j<Gs.length),Gs[j].Nodup
 | [],_,j,h=>by simp at h
 | a::r,hn,j,h=>by
  rw [List.flatten_cons,List.nodup_append] at hn;cases j with
  | zero=>exact hn.1
  | succ j=>exact cG r hn.2.1 j (by simpa using h)
def OLp (s o0:Nat) (B:Option Addr) (l:List V) (F:List Nat) (j:Nat) (lc:List V) (Gs:List (List Nat)) (w:World):Prop:=
 lc.length=l.length∧(∀ i (h1:i<lc.length) (h2:i<l.length),i<j→Srt lc[i] l[i])∧(∀ i (h1:i<lc.length) (h2:i<l.length),j≤i→lc[i]=l[i])∧
 ((l.length=0∧Gs=[]∧F=[])∨∃ g,0<l.length∧B=some ⟨g,0,none⟩∧It s o0 g lc Gs w∧(g::Gs.flatten).Perm F)
theorem OLp.end_ {s o0:Nat} {B:Option Addr} {l:List V} {F:List Nat} {lc:List V} {Gs:List (List Nat)} {w:World} (h:OLp s o0 B l F l.length lc Gs w):dM lc l:=
 (bE lc l).2 ⟨h.1,fun i h1 h2=>h.2.1 i h1 h2 h2⟩
theorem OLp.step {s o0 g j:Nat} {l:List V} {F:List Nat} {lc:List V} {Gs:List (List Nat)} {w w':World} (h:OLp s o0 (some ⟨g,0,none⟩) l F j lc Gs w) (hI:It s o0 g lc Gs w) (hP:(g::Gs.flatten).Perm F) (hl:0<l.length) (hj:j<lc.length) (hjg:j<Gs.length) (hjl:j<l.length) {v':V} {G':List Nat} {cs:List Value} (hc:aA Gs[j] w w')
  (hcs:am w g (j*s+o0) cs) (hr:RdF w' v' cs G') (hp:G'.Perm Gs[j]) (hs:Srt v' l[j]):OLp s o0 (some ⟨g,0,none⟩) l F (j+1) (lc.set j v') (Gs.set j G') w':=by
 refine ⟨by simp [h.1],fun i h1 h2 hij=>?_,fun i h1 h2 hij=>?_,.inr ⟨g,hl,rfl,It.step hI hj hjg hc hcs hr hp,?_⟩⟩
 ·by_cases e:j=i
  ·subst e;simp only [List.getElem_set_self];exact hs
  ·simp only [List.getElem_set_ne e];exact h.2.1 i (by simpa using h1) h2 (by omega)
 ·have e:j≠i:=by omega
  simp only [List.getElem_set_ne e];exact h.2.2.1 i (by simpa using h1) h2 (by omega)
 ·exact ((dh Gs j G' hjg hp).cons g).trans hP
theorem OLp.keep {s o0:Nat} {B:Option Addr} {l:List V} {F:List Nat} {j:Nat} {lc:List V} {Gs:List (List Nat)} {w w':World} (h:OLp s o0 B l F j lc Gs w) (hb:Below w.heap.size w w'):OLp s o0 B l F j lc Gs w':=by
 obtain ⟨h1,h2,h3,h4⟩:=h;refine ⟨h1,h2,h3,?_⟩;rcases h4 with h4 | ⟨g,p1,p2,p3,p4⟩
 ·exact .inl h4
 ·exact .inr ⟨g,p1,p2,p3.keep hb,p4⟩
theorem OLp.start5 {w:World} {A:Option Addr} {l:List V} {F:List Nat} (hF:(l.length=0∧F=[])∨∃ g T,0<l.length∧A=some ⟨g,0,none⟩∧F=g::T∧bz w g 0 l T) (hn:F.Nodup) (hlt:∀ x∈F,x<w.heap.size):∃ Gs,OLp 5 0 A l F 0 l Gs w:=by
 rcases hF with ⟨h,rfl⟩ | ⟨g,T,h0,e,rfl,hr⟩
 ·exact ⟨[],rfl,fun i _ _ h=>by omega,fun i _ _ _=>rfl,.inl ⟨h,rfl,rfl⟩⟩
 ·obtain ⟨Fs,f1,rfl,f3⟩:=bz.items l T 0 hr;exact ⟨Fs,rfl,fun i _ _ h=>by omega,fun i _ _ _=>rfl,.inr ⟨g,h0,e,⟨f1,fun i h1 h2=>by
   have:=f3 i h1 h2;rw [Nat.zero_add] at this;exact this,hn,hlt⟩,List.Perm.refl _⟩⟩
def qnP (B:Option Addr) (ns:List (List UInt8)) (ms:List V) (F:List Nat) (w:World) (e:Ending) (w':World):Prop:=
 e = .returned (.tuple #[])∧∃ (ns1:List (List UInt8)) (ms1:List V) (Gs:List (List Nat)),ns1.length=ms.length∧ns1.Pairwise (fun a b=>ltN b a=false)∧(ns1.zip ms1).Perm (ns.zip ms)∧ms1.length=ms.length∧OLp 6 1 B ms1 F 0 ms1 Gs w'∧(∀ g,B=some ⟨g,0,none⟩→0<ms.length→cW g ns1 w')∧aA F w w'
theorem qll (B:Option Addr) (c:Nat) (ns:List (List UInt8)) (ms:List V) (F:List Nat) (w:World) (hn:ns.length=ms.length) (hsz:ms.length<1152921504606846976)
  (hF:(ms.length=0∧F=[])∨∃ g T,0<ms.length∧B=some ⟨g,0,none⟩∧F=g::T∧bf w g 0 ns ms T) (hnd:F.Nodup) (hlt:∀ x∈F,x<w.heap.size) :
  Calls Tryz.prog 114 #[.slice B ms.length c,.func (.func 115) #[] #[]] w (qnP B ns ms F w):=by
 rcases hF with ⟨h,rfl⟩ | ⟨g,T,h0,e,rfl,hr⟩
 ·rw [h];refine (qdp B c _ w).mono ?_;rintro e w' ⟨rfl,rfl⟩;have e1:ms=[]:=List.eq_nil_of_length_eq_zero h;subst e1;have e2:ns=[]:=List.eq_nil_of_length_eq_zero hn;subst e2;exact ⟨rfl,[],[],[],rfl,List.Pairwise.nil,List.Perm.refl _,rfl,⟨rfl,(fun i h=>by simp at h),(fun i h=>by simp at h),.inl ⟨rfl,rfl,rfl⟩⟩,(fun g _ h=>by simp at h),aA.refl _ _⟩
 ·subst e;obtain ⟨R,r1,r2,r3,r4,r5⟩:=qgE ms ns T 0 hr hn;have hRl:R.length=ms.length:=by rw [←r1];simp
  subst r3;have hrow:RowK aj 6 w g 0 (R.map Prod.fst).toArray:=⟨qbS,qis,qoJ fun i hi=>by
   have hi':i<R.length:=by simpa using hi
   have:=r4 i hi';rw [Nat.zero_add] at this;rw [getElem!_pos _ i hi]
   simpa using this,hlt g (by simp)⟩
  have hd:(R.map Prod.fst).toArray.size=ms.length:=by simp [hRl]
  refine (qdO g 0 c ms.length (R.map Prod.fst).toArray w hrow hd hsz).mono ?_;rintro e w' ⟨rfl,d',hS,hP,hT⟩;rw [←hRl] at hP hT;obtain ⟨R',p1,p2,p3,p4⟩:=qiY (fun j h=>by have:=r4 j h;rw [Nat.zero_add] at this;exact this) r5 hnd hlt hS hrow hP hT;have hfl:(R'.map (fun t=>t.2.2)).flatten.Perm (R.map (fun t=>t.2.2)).flatten:=(p1.map _).flatten;have hRl':R'.length=ms.length:=by rw [p1.length_eq,hRl]
  refine ⟨rfl,R'.map (fun t=>t.1.nm),R'.map (fun t=>t.2.1),R'.map (fun t=>t.2.2),by simp [hRl'],p2,?_,by simp [hRl'],⟨rfl,(fun i _ _ h=>by omega),(fun i _ _ _=>rfl),.inr ⟨g,by simp [hRl'];omega,rfl,p3,hfl.cons g⟩⟩,fun g' e _=>?_,(qkz hS).more (fun x hx=>by
   rw [List.mem_singleton] at hx;subst hx;simp)⟩
  ·rw [List.zip_map',←r1,←r2,List.zip_map'];exact p1.map _
  ·injection e with e
   injection e with e
   subst e;exact p4
theorem qmE {w w1 w2 w3 wr:World} {v:V} {k n:Int} {S:ByteArray} {n1 n2 c1 c2 j1 j2:Nat} {A1 A2 B1 B2:Option Addr} {FL FM:List Nat} {lc mc:List V} {Gl Gm:List (List Nat)} {ns1:List (List UInt8)} {ms1:List V}
  (hcap:n1≤c1∧n2≤c2) (hl:v.l.length=n1) (hm:v.ms.length=n2) (hk:v.k=k) (hn:v.n=n) (hS:aa v.s=S) (hb1:Below w.heap.size w w1) (hnd:FL.Nodup∧FM.Nodup∧∀ a∈FL,∀ b∈FM,a≠b) (hlt:∀ x∈FL++FM,x<w.heap.size)
  (hB1:0<n1→B1=A1) (hB2:0<n2→B2=A2) (hc2:aA FM w1 w2) (hc3:aA FL w2 w3) (hc4:aA FM w3 wr) (hO1:OLp 5 0 B1 v.l FL j1 lc Gl w3) (hO2:OLp 6 1 B2 ms1 FM j2 mc Gm wr) (hs2:dM mc ms1) (hs1:dM lc v.l) (_hnn:v.ns.length=v.ms.length)
  (hnl:ns1.length=v.ms.length) (hns:ns1.Pairwise (fun a b=>ltN b a=false)) (hnp:(ns1.zip ms1).Perm (v.ns.zip v.ms)) (hml:ms1.length=v.ms.length) (hNm:∀ g,B2=some ⟨g,0,none⟩→0<n2→cW g ns1 wr) :
  ∃ (v':V) (F':List Nat),Srt v' v∧RdF wr v' [.int .i64 k,.int .i64 n,.string S,.slice A1 n1 c1,.slice A2 n2 c2] F'∧F'.Perm (FL++FM)∧aA (FL++FM) w wr:=by
 have hch:aA (FL++FM) w wr:=(((show aA (FL++FM) w w1 from aA.of hb1).trans (hc2.more fun x hx=>by simp [hx])).trans (hc3.more fun x hx=>by simp [hx])).trans (hc4.more fun x hx=>by simp [hx]);have hlc:lc.length=n1:=hO1.1.trans hl;have hmc:mc.length=n2:=(hO2.1.trans hml).trans hm;have keep3:∀ x∈FL,wr.heap[x]? = w3.heap[x]?:=fun x hx=>hc4.block x (by
  have:=hlt x (by simp [hx]);have:=hb1.size;have:=hc2.size;have:=hc3.size;omega) (fun hy=>hnd.2.2 x hx x hy rfl)
 have PL:∃ F1:List Nat,((lc.length=0∧F1=[])∨∃ g T,0<lc.length∧A1=some ⟨g,0,none⟩∧F1=g::T∧bz wr g 0 lc T)∧F1.Perm FL:=by
  rcases hO1.2.2.2 with ⟨h, -,rfl⟩ | ⟨g,h0,e,hI,hP⟩
  ·exact ⟨[],.inl ⟨by omega,rfl⟩,List.Perm.refl _⟩
  ·refine ⟨g::Gl.flatten,.inr ⟨g,_,by omega,(hB1 (by omega)).symm.trans e,rfl,bz.of_items lc Gl 0 hI.len fun j h1 h2=>?_⟩,hP⟩;obtain ⟨cc,u1,u2⟩:=hI.at_ j h1 h2;rw [Nat.zero_add];exact ⟨cc,u1.keep (keep3 g (hP.mem_iff.1 (by simp))),RdF.keep _ _ _ (fun x hx=>keep3 x (hP.mem_iff.1 (List.mem_cons_of_mem _ (aq h2 hx)))) u2⟩
 have PM:∃ F2:List Nat,((mc.length=0∧F2=[])∨∃ g T,0<mc.length∧A2=some ⟨g,0,none⟩∧F2=g::T∧bf wr g 0 ns1 mc T)∧F2.Perm FM:=by
  rcases hO2.2.2.2 with ⟨h, -,rfl⟩ | ⟨g,h0,e,hI,hP⟩
  ·exact ⟨[],.inl ⟨by omega,rfl⟩,List.Perm.refl _⟩
  ·refine ⟨g::Gm.flatten,.inr ⟨g,_,by omega,(hB2 (by omega)).symm.trans e,rfl,bf.of_items mc ns1 Gm 0 hI.len (by omega) fun j h1 h2 h3=>?_⟩,hP⟩;obtain ⟨cc,u1,u2⟩:=hI.at_ j h1 h2;rw [Nat.zero_add];exact ⟨cc,ca.2 ⟨hNm g e (by omega) j h3,u1⟩,u2⟩
 obtain ⟨F1,l1,l2⟩:=PL;obtain ⟨F2,m1,m2⟩:=PM;refine ⟨.mk v.k v.n v.s lc ns1 mc,F1++F2,?_,?_,l2.append m2,hch⟩
 ·rw [Srt];refine ⟨rfl,rfl,rfl,hs1,by omega,hns,ns1.zip ms1,hnp,?_,?_⟩
  ·rw [List.map_fst_zip];omega
  ·rw [List.map_snd_zip]
   ·exact hs2
   ·omega
 ·refine RdF.of_cells ⟨A1,c1,A2,c2,F1,F2,(by show lc.length≤c1;omega),(by show mc.length≤c2;omega),?_,(by show ns1.length=mc.length;omega),rfl,l1,m1⟩;show _=[Value.int .i64 v.k,.int .i64 v.n,.string (aa v.s),.slice A1 lc.length c1,.slice A2 mc.length c2]
  rw [hk,hn,hS,hlc,hmc]
theorem qkW (h:Nat):∀ v:V,ht v≤h→oV v→szA 140737488355328 v→qgX v:=by
 induction h with
 | zero=>intro v hh;rw [dL] at hh;omega
 | succ h ih=>
  intro v hh ho hz cs F w hv hnd hlt;obtain ⟨-, -, -,z4,z5, -,z7,z8⟩:=(cI _ v).1 hz;obtain ⟨o1,o2,o3,o4⟩:=(qjT v).1 ho;have hht:=dL v;have IHL:=zh (show ∀ x∈v.l,qgX x from fun x hx=>ih x (by have:=bn hx;omega) (qaa o3 hx) (aV z7 hx));have IHM:=zh (show ∀ x∈v.ms,qgX x from fun x hx=>ih x (by have:=bn hx;omega) (qaa o4 hx) (aV z8 hx));obtain ⟨A1,c1,A2,c2,FL,FM,rfl,hn,rfl,hFL,hFM⟩:=hv.cells;have HCAP:=zh (hv.caps rfl);have HIN:=zh (fun (W:World)=>qbY v.k v.n (aa v.s) A1 A2 v.l.length c1 v.ms.length c2 W);have hnd':=hnd;rw [List.nodup_append] at hnd';have HFL:=zh hFL;have HFM:=zh hFM;have HN:=zh hn;have HND:=zh hnd';have HLT:=zh hlt;have HO1:=zh o1;have HO2:=zh o2;obtain ⟨k,hk⟩:∃ x,v.k=x:=⟨_,rfl⟩
  obtain ⟨n,hnn⟩:∃ x,v.n=x:=⟨_,rfl⟩
  obtain ⟨S,hS⟩:∃ x,aa v.s=x:=⟨_,rfl⟩
  obtain ⟨l,hll⟩:∃ x,v.l.length=x:=⟨_,rfl⟩
  obtain ⟨m,hmm⟩:∃ x,v.ms.length=x:=⟨_,rfl⟩
  have HK:=zh hk;have HNN:=zh hnn;have HSS:=zh hS;have HL:=zh hll;have HM:=zh hmm;rw [hk,hnn,hS,hll,hmm] at HIN ⊢;rw [hll,hmm] at HCAP;rw [hll] at z4;rw [hmm] at z5;clear ih hh hz z7 z8 hht hv hFL hFM hn hnd hnd' hlt o1 o2 o3 o4 ho hk hnn hS hll hmm;go_enter Tryz.func55,Tryz.ntmps55;go_wp2_with fail;refine (HIN.out _).mono ?_;rintro e w1 ⟨⟨B1,n1,d1,B2,n2,d2,rfl,q1,q2,q3,q4⟩,hb1⟩;have hB1:n1=l∧(0<l→B1=A1):=by
   by_cases h5:k=5
   ·exact ⟨(q1 h5).2.1,fun _=>(q1 h5).1⟩
   ·have:=HO1.out (by rw [HK.out];exact h5);have hl0:l=0:=by rw [←HL.out,this];rfl
    exact ⟨by rw [(q2 h5).2.1,hl0],fun h=>by omega⟩
  have hB2:n2=m∧(0<m→B2=A2):=by
   by_cases h6:k=6
   ·exact ⟨(q3 h6).2.1,fun _=>(q3 h6).1⟩
   ·have:=HO2.out (by rw [HK.out];exact h6);have hl0:m=0:=by rw [←HM.out,this];rfl
    exact ⟨by rw [(q4 h6).2.1,hl0],fun h=>by omega⟩
  obtain ⟨rfl,hB1⟩:=hB1;obtain ⟨rfl,hB2⟩:=hB2;have HB1:=zh (show Below w.heap.size w w1 from ((Below.refl _ _).alloc (Nat.le_refl _) _).trans (hb1.mono (by simp)));have hs1:w.heap.size≤w1.heap.size:=HB1.out.size;have hFM1:(v.ms.length=0∧FM=[])∨∃ g T,0<v.ms.length∧B2=some ⟨g,0,none⟩∧FM=g::T∧bf w1 g 0 v.ns v.ms T:=by
   rcases HFM.out with h | ⟨g,T,h0,e,e2,h3⟩
   ·exact .inl h
   ·subst e2;exact .inr ⟨g,T,h0,(hB2 (by rw [←HM.out];exact h0)).trans e,rfl,bf.keep v.ms g 0 v.ns T (HB1.out.block g (HLT.out g (by simp))) (fun x hx=>HB1.out.block x (HLT.out x (by simp [hx]))) h3⟩
  have hFL1:(v.l.length=0∧FL=[])∨∃ g T,0<v.l.length∧B1=some ⟨g,0,none⟩∧FL=g::T∧bz w1 g 0 v.l T:=by
   rcases HFL.out with h | ⟨g,T,h0,e,e2,h3⟩
   ·exact .inl h
   ·subst e2;exact .inr ⟨g,T,h0,(hB1 (by rw [←HL.out];exact h0)).trans e,rfl,bz.keep v.l g 0 T (HB1.out.block g (HLT.out g (by simp))) (fun x hx=>HB1.out.block x (HLT.out x (by simp [hx]))) h3⟩
  have HSC:=zh (qll B2 d2 v.ns v.ms FM w1 HN.out (by rw [HM.out];omega) hFM1 HND.out.2.1 (fun x hx=>Nat.lt_of_lt_of_le (HLT.out x (by simp [hx])) hs1));rw [HM.out] at HSC;have HFL1:=zh hFL1;have HB1A:=zh hB1;have HB2A:=zh hB2;clear q1 q2 q3 q4 hb1 hFM1 hFL1 hB1 hB2 HIN;go_wp2_with fail;refine HSC.out.mono ?_;rintro e w2 ⟨rfl,ns1,ms1,Gm,n1l,n1s,n1p,m1l,hOm,hNm,hc2⟩;have HNL:=zh n1l;have HNS:=zh n1s;have HNP:=zh n1p;have HML:=zh m1l;have HOM:=zh hOm;have HNM:=zh hNm;have HC2:=zh hc2;have hs2:w1.heap.size≤w2.heap.size:=hc2.size;have hst:=OLp.start5 (w:=w2) (A:=B1) (l:=v.l) (F:=FL) (by
   rcases HFL1.out with h | ⟨g,T,h0,e,e2,h3⟩
   ·exact .inl h
   ·subst e2;exact .inr ⟨g,T,h0,e,rfl,bz.keep v.l g 0 T (hc2.block g (Nat.lt_of_lt_of_le (HLT.out g (by simp)) hs1) (fun hx=>HND.out.2.2 g (by simp) g hx rfl)) (fun x hx=>hc2.block x (Nat.lt_of_lt_of_le (HLT.out x (by simp [hx])) hs1) (fun hy=>HND.out.2.2 x (by simp [hx]) x hy rfl)) h3⟩) HND.out.1 (fun x hx=>by have:=HLT.out x (by simp [hx]);omega)
  obtain ⟨Gl,hOl⟩:=hst;have HOL:=zh hOl;clear n1l n1s n1p m1l hOm hNm hc2 hOl HSC HFL1;go_wp2_with fail;go_loopw [17] (fun si wr=>∃ (j:Nat) (lc:List V) (Gs:List (List Nat)),si = .int .i64 j∧j≤n1∧Aside (OLp 5 0 B1 v.l FL j lc Gs wr)∧Aside (aA FL w2 wr)) (fun si _=>n1-(intOf si).toNat)
  case atStart=>exact ⟨0,v.l,Gl,rfl,by omega,HOL.out,(show aA _ _ _ from aA.refl _ _)⟩
  case round=>
   obtain ⟨j,lc,Gs,rfl,hjn,hO,hC⟩:=hrel;by_cases hlt:j<n1
   ·have t1:decide ((j:Int)<(n1:Int))=true:=zT (by omega);have t2:decide (j<n1)=true:=zT hlt;have k0:(0:Int)≤(j:Int):=by omega
    have k1:(j:Int)<(n1:Int):=by omega
    have k2:((j:Int)).toNat=j:=by omega
    have hjl:j<v.l.length:=by rw [HL.out];exact hlt
    have hO':=hO.out;rcases hO'.2.2.2 with h | ⟨g,h0,e,hI,hP⟩
    ·have:=h.1;omega
    ·subst e;have hjc:j<lc.length:=by rw [hO'.1];exact hjl
     have hjg:j<Gs.length:=by rw [hI.len];exact hjc
     obtain ⟨xcs,hxc,hxv⟩:=hI.at_ j hjc hjg;have hlcj:=hO'.2.2.1 j hjc hjl (Nat.le_refl _);rw [hlcj] at hxv;have hmem:v.l[j]∈v.l:=List.getElem_mem hjl;obtain ⟨xA,xc,xB,xd,_,_,rfl, -⟩:=hxv.cells;have hIn:=hI.nod;rw [List.nodup_cons] at hIn;have HCP:=zh (fun (W:World) (hW:Below wr.heap.size wr W)=>IHL.out v.l[j] hmem _ Gs[j] W (RdF.keep _ _ _ (fun x hx=>hW.block x (hI.lt x (List.mem_cons_of_mem _ (aq hjg hx)))) hxv) (cG _ hIn.2 j hjg) (fun x hx=>Nat.lt_of_lt_of_le (hI.lt x (List.mem_cons_of_mem _ (aq hjg hx))) hW.size));have a0:=(hxc 0 _ rfl).1;have a1:=(hxc 1 _ rfl).1;have a2:=(hxc 2 _ rfl).1;have a3:=(hxc 3 _ rfl).1;have a4:=(hxc 4 _ rfl).1;simp only [Nat.add_zero] at a0 a1 a2 a3 a4;have HXC:=zh hxc;have HO':=zh hO';have HI:=zh hI;have HP:=zh hP;have HX:=zh (show v.l[j]=v.l[j] from rfl);generalize v.l[j].k=xk at *;generalize v.l[j].n=xn at *;generalize aa v.l[j].s=xs at *;generalize v.l[j].l.length=xl at *;generalize v.l[j].ms.length=xm at *;clear hxv hxc hlcj hmem hO' hI hP hIn HX;have HWB:=zh ((Below.refl wr.heap.size wr).alloc (Nat.le_refl _) (.cells #[.int .i64 xk,.int .i64 xn,.string xs,.slice xA xl xc,.slice xB xm xd] 25));go_wp2_with fail;refine (HCP.out _ HWB.out).mono ?_;rintro e w5 ⟨rfl,v5,F5,hS5,hF5,hp5,hc5⟩;have HS5:=zh hS5;have HF5:=zh hF5;have HP5:=zh hp5;have HC5:=zh hc5;clear hS5 hF5 hp5 hc5 HCP;go_wp2_with fail;go_roundw
     case rel=>
      have hIW:=HI.out.keep HWB.out;have hg:g<wr.heap.size:=HI.out.lt g (by simp);have hch:aA FL w2 w5:=(show aA FL w2 wr from hC.out).trans ((aA.of HWB.out).trans (HC5.out.more fun x hx=>HP.out.mem_iff.1 (List.mem_cons_of_mem _ (aq hjg hx))));refine ⟨j+1,lc.set j v5,Gs.set j F5,by go_num,by omega,(show OLp _ _ _ _ _ _ _ _ _ from OLp.step (HO'.out.keep HWB.out) hIW HP.out h0 hjc hjg hjl HC5.out (HXC.out.keep (HWB.out.block g hg)) HF5.out HP5.out HS5.out),hch⟩
     case measure=>simp [intOf];omega
   ·have t1:decide ((j:Int)<(n1:Int))=false:=zF (by omega);have t2:decide (j<n1)=false:=zF hlt;obtain rfl:n1=j:=by omega
    obtain ⟨w3,hw3⟩:∃ w3,w3=wr:=⟨_,rfl⟩
    rw [←hw3] at hO hC ⊢;have HOL3:=zh hO.out;have HC3:=zh hC.out;have hs3:w2.heap.size≤w3.heap.size:=hC.out.size;have HMM:=zh (show ms1.length=n2 from HML.out.trans HM.out);have hself:∀ x∈FM,w3.heap[x]? = w2.heap[x]?:=fun x hx=>HC3.out.block x (by have:=HLT.out x (by simp [hx]);omega) (fun hy=>HND.out.2.2 x hy x hx rfl);have hkeepM:OLp 6 1 B2 ms1 FM 0 ms1 Gm w3:=by
     obtain ⟨p1,p2,p3,p4⟩:=HOM.out;refine ⟨p1,p2,p3,?_⟩;rcases p4 with p4 | ⟨g,r1,r2,r3,r4⟩
     ·exact .inl p4
     ·refine .inr ⟨g,r1,r2,⟨r3.len,fun i h1 h2=>?_,r3.nod,fun x hx=>Nat.lt_of_lt_of_le (r3.lt x hx) hs3⟩,r4⟩;obtain ⟨cc,u1,u2⟩:=r3.at_ i h1 h2;exact ⟨cc,u1.keep (hself g (r4.mem_iff.1 (by simp))),RdF.keep _ _ _ (fun x hx=>hself x (r4.mem_iff.1 (List.mem_cons_of_mem _ (aq h2 hx)))) u2⟩
    have HOM3:=zh hkeepM;have HNM3:=zh (show ∀ g,B2=some ⟨g,0,none⟩→0<n2→cW g ns1 w3 from fun g e h0=>by
     refine (HNM.out g e (by rw [HM.out];exact h0)).keep (hself g ?_);rcases HOM.out.2.2.2 with p4 | ⟨g',r1,r2,r3,r4⟩
     ·have:=p4.1;have:=HMM.out;omega
     ·rw [r2] at e;injection e with e
      injection e with e
      subst e;exact r4.mem_iff.1 (by simp))
    have HSRT1:=zh (show dM lc v.l from OLp.end_ (by rw [HL.out];exact HOL3.out));have HLC:=zh (show lc.length=n1 from HOL3.out.1.trans HL.out);have IHM1:=zh (show ∀ x∈ms1,qgX x from fun x hx=>IHM.out x (by
     have hz1:ms1.length=ns1.length:=by rw [HML.out,HNL.out]
     obtain ⟨i,hi,e⟩:=List.getElem_of_mem hx;have hm1:(ns1[i]'(by omega),x)∈ns1.zip ms1:=by
      rw [←e];have:(ns1.zip ms1)[i]'(by simp;omega)=(ns1[i]'(by omega),ms1[i]):=by simp
      rw [←this];exact List.getElem_mem _
     exact (List.of_mem_zip (HNP.out.mem_iff.1 hm1)).2))
    clear hw3 hO hC hself hkeepM hlt t1 t2;go_wp2_with fail;go_loopw [26] (fun si wr=>∃ (j:Nat) (lc2:List V) (Gs:List (List Nat)),si = .int .i64 j∧j≤n2∧Aside (OLp 6 1 B2 ms1 FM j lc2 Gs wr)∧Aside (aA FM w3 wr)∧Aside (∀ g,B2=some ⟨g,0,none⟩→0<n2→cW g ns1 wr)) (fun si _=>n2-(intOf si).toNat)
    case atStart=>exact ⟨0,ms1,Gm,rfl,by omega,HOM3.out,(show aA _ _ _ from aA.refl _ _),HNM3.out⟩
    case round=>
     obtain ⟨j,lc2,Gs,rfl,hjn,hO,hC,hNm⟩:=hrel;by_cases hlt:j<n2
     ·have t1:decide ((j:Int)<(n2:Int))=true:=zT (by omega);have t2:decide (j<n2)=true:=zT hlt;have k0:(0:Int)≤(j:Int):=by omega
      have k1:(j:Int)<(n2:Int):=by omega
      have k2:((j:Int)).toNat=j:=by omega
      have hjl:j<ms1.length:=by rw [HMM.out];exact hlt
      have hO':=hO.out;rcases hO'.2.2.2 with h | ⟨g,h0,e,hI,hP⟩
      ·have:=h.1;omega
      ·subst e;have hjc:j<lc2.length:=by rw [hO'.1];exact hjl
       have hjg:j<Gs.length:=by rw [hI.len];exact hjc
       obtain ⟨xcs,hxc,hxv⟩:=hI.at_ j hjc hjg;have hlcj:=hO'.2.2.1 j hjc hjl (Nat.le_refl _);rw [hlcj] at hxv;have hmem:ms1[j]∈ms1:=List.getElem_mem hjl;have hjns:j<ns1.length:=by rw [HNL.out,HM.out];exact hlt
       have an:=(hNm.out g rfl (by omega) j hjns 0 _ rfl).1;generalize aa ns1[j]=X at an;obtain ⟨xA,xc,xB,xd,_,_,rfl, -⟩:=hxv.cells;have hIn:=hI.nod;rw [List.nodup_cons] at hIn;have HCP:=zh (fun (W:World) (hW:Below wr.heap.size wr W)=>IHM1.out ms1[j] hmem _ Gs[j] W (RdF.keep _ _ _ (fun x hx=>hW.block x (hI.lt x (List.mem_cons_of_mem _ (aq hjg hx)))) hxv) (cG _ hIn.2 j hjg) (fun x hx=>Nat.lt_of_lt_of_le (hI.lt x (List.mem_cons_of_mem _ (aq hjg hx))) hW.size));have a0:=(hxc 0 _ rfl).1;have a1:=(hxc 1 _ rfl).1;have a2:=(hxc 2 _ rfl).1;have a3:=(hxc 3 _ rfl).1;have a4:=(hxc 4 _ rfl).1;simp only [Nat.add_zero,Nat.add_assoc,Nat.reduceAdd] at a0 a1 a2 a3 a4 an;have HXC:=zh hxc;have HO':=zh hO';have HI:=zh hI;have HP:=zh hP;have HX:=zh (show ms1[j]=ms1[j] from rfl);generalize ms1[j].k=xk at *;generalize ms1[j].n=xn at *;generalize aa ms1[j].s=xs at *;generalize ms1[j].l.length=xl at *;generalize ms1[j].ms.length=xm at *;clear hxv hxc hlcj hmem hO' hI hP hIn HX;have HWB:=zh ((Below.refl wr.heap.size wr).alloc (Nat.le_refl _) (.cells #[.string X,.int .i64 xk,.int .i64 xn,.string xs,.slice xA xl xc,.slice xB xm xd] 44));go_wp2_with fail;refine (HCP.out _ HWB.out).mono ?_;rintro e w5 ⟨rfl,v5,F5,hS5,hF5,hp5,hc5⟩;have HS5:=zh hS5;have HF5:=zh hF5;have HP5:=zh hp5;have HC5:=zh hc5;clear hS5 hF5 hp5 hc5 HCP;go_wp2_with fail;go_roundw
       case rel=>
        have hIW:=HI.out.keep HWB.out;have hg:g<wr.heap.size:=HI.out.lt g (by simp);have hch:aA FM w3 w5:=(show aA FM w3 wr from hC.out).trans ((aA.of HWB.out).trans (HC5.out.more fun x hx=>HP.out.mem_iff.1 (List.mem_cons_of_mem _ (aq hjg hx))));refine ⟨j+1,lc2.set j v5,Gs.set j F5,by go_num,by omega,(show OLp _ _ _ _ _ _ _ _ _ from OLp.step (HO'.out.keep HWB.out) hIW HP.out h0 hjc hjg hjl HC5.out (HXC.out.keep (HWB.out.block g hg)) HF5.out HP5.out HS5.out),hch,?_⟩;refine (show ∀ g',_→_→cW g' ns1 _ from fun g' e _=>?_);injection e with e
        injection e with e
        subst e;have hnd:=hIW.nod;rw [List.nodup_cons] at hnd;exact (hNm.out g rfl (by omega)).keep ((HC5.out.block g (hIW.lt g (by simp)) fun hx=>hnd.1 (aq hjg hx)).trans (HWB.out.block g hg))
       case measure=>simp [intOf];omega
     ·have t1:decide ((j:Int)<(n2:Int))=false:=zF (by omega);have t2:decide (j<n2)=false:=zF hlt;obtain rfl:n2=j:=by omega
      go_wp2;go_end0
      refine ⟨rfl,?_⟩;have hOe:=hO.out;have hCe:aA FM w3 wr:=hC.out;have hsrt2:dM lc2 ms1:=OLp.end_ (by rw [HMM.out];exact hOe);exact qmE (w:=w) (w1:=w1) (w2:=w2) (w3:=w3) (wr:=wr) HCAP.out HL.out HM.out HK.out HNN.out HSS.out HB1.out HND.out HLT.out HB1A.out HB2A.out HC2.out HC3.out hCe HOL3.out hOe hsrt2 HSRT1.out HN.out HNL.out HNS.out HNP.out HML.out hNm.out
end Tr
namespace Tr
open Go.Proofs Go.RowKit Go.Lib Utf Sc Re
def qmh (v:V) (w:World) (e:Ending) (w':World):Prop:=
 (∃ (a:V) (cs:List Value) (F:List Nat),e = .returned (.agg cs.toArray)∧Srt a v∧RdF w' a cs F∧F.Nodup∧∀ x∈F,w.heap.size≤x∧x<w'.heap.size)∧Below w.heap.size w w'
theorem qmN (v:V) (cs:List Value) (w:World) (ho:oV v) (hz:szA 140737488355328 v) (hv:RdA w 0 w.heap.size v cs):Calls Tryz.prog 28 #[.agg cs.toArray] w (qmh v w):=by
 have HCP:=zh (fun (W:World) (hW:Below w.heap.size w W)=>qns (ht v) v (Nat.le_refl _) hz cs W (hv.below hW (Nat.le_refl _) hW.size));have HOR:=zh (qkW (ht v) v (Nat.le_refl _) ho hz);obtain ⟨A1,c1,A2,c2,rfl, -⟩:=hv.cells;obtain ⟨k,hk⟩:∃ x,v.k=x:=⟨_,rfl⟩
 obtain ⟨n,hnn⟩:∃ x,v.n=x:=⟨_,rfl⟩
 obtain ⟨S,hS⟩:∃ x,aa v.s=x:=⟨_,rfl⟩
 obtain ⟨l,hll⟩:∃ x,v.l.length=x:=⟨_,rfl⟩
 obtain ⟨m,hmm⟩:∃ x,v.ms.length=x:=⟨_,rfl⟩
 rw [hk,hnn,hS,hll,hmm] at HCP ⊢;have HE:=zh (And.intro hk (And.intro hnn (And.intro hS (And.intro hll hmm))));clear hv hz ho hk hnn hS hll hmm;go_enter Tryz.func28,Tryz.ntmps28;go_wp2_with fail;have hz0:=ag (w.alloc (.cells #[.int .i64 k,.int .i64 n,.string S,.slice A1 l c1,.slice A2 m c2] 25)) (.cells #[.int .i64 0,.int .i64 0,.string ⟨#[]⟩,.slice none 0 0,.slice none 0 0] 25);have hz1:=qkd (ag w (.cells #[.int .i64 k,.int .i64 n,.string S,.slice A1 l c1,.slice A2 m c2] 25)) (.cells #[.int .i64 0,.int .i64 0,.string ⟨#[]⟩,.slice none 0 0,.slice none 0 0] 25);rw [aF] at hz0;have hs0:((w.alloc (.cells #[.int .i64 k,.int .i64 n,.string S,.slice A1 l c1,.slice A2 m c2] 25)).alloc (.cells #[.int .i64 0,.int .i64 0,.string ⟨#[]⟩,.slice none 0 0,.slice none 0 0] 25)).heap.size=w.heap.size+2:=by rw [aF,aF]
 have hb0:Below w.heap.size w ((w.alloc (.cells #[.int .i64 k,.int .i64 n,.string S,.slice A1 l c1,.slice A2 m c2] 25)).alloc (.cells #[.int .i64 0,.int .i64 0,.string ⟨#[]⟩,.slice none 0 0,.slice none 0 0] 25)):=((Below.refl _ _).alloc (Nat.le_refl _) _).alloc (by simp) _;generalize ((w.alloc (.cells #[.int .i64 k,.int .i64 n,.string S,.slice A1 l c1,.slice A2 m c2] 25)).alloc (.cells #[.int .i64 0,.int .i64 0,.string ⟨#[]⟩,.slice none 0 0,.slice none 0 0] 25))=w0 at *;refine (HCP.out _ hb0).mono ?_;rintro e w1 ⟨⟨cs1,F1,rfl,hF1,hn1,hr1⟩,hb1⟩;obtain ⟨B1,d1,B2,d2, -, -,rfl, -⟩:=hF1.cells;rw [HE.out.1,HE.out.2.1,HE.out.2.2.1,HE.out.2.2.2.1,HE.out.2.2.2.2] at hF1;have h1:=(hb1.block w.heap.size (by omega)).trans hz1;have h0:=(hb1.block (w.heap.size+1) (by omega)).trans hz0;have HB1:=zh (hb0.trans (hb1.mono hb0.size));have HSW1:=zh (show w.heap.size+2≤w1.heap.size by have:=hb1.size;omega);have hr2:∀ x∈F1,w.heap.size+2≤x∧x<w1.heap.size:=fun x hx=>by have:=hr1 x hx;omega
 have hv2:=cr h1 (.int .i64 k) (.int .i64 n) (.string S) (.slice B1 l d1) (.slice B2 m d2);have h02:=(ci (show w.heap.size+1≠w.heap.size by omega) (.int .i64 k) (.int .i64 n) (.string S) (.slice B1 l d1) (.slice B2 m d2)).trans h0;have hF2:RdF (st5 w1 w.heap.size (.int .i64 k) (.int .i64 n) (.string S) (.slice B1 l d1) (.slice B2 m d2)) v _ F1:=RdF.keep _ _ _ (fun x hx=>ci (by have:=hr2 x hx;omega) _ _ _ _ _) hF1;have hb2:Below w.heap.size w (st5 w1 w.heap.size (.int .i64 k) (.int .i64 n) (.string S) (.slice B1 l d1) (.slice B2 m d2)):=co HB1.out (Nat.le_refl _) _ _ _ _ _;have hsz2:=dW (w:=w1) (b:=w.heap.size) (.int .i64 k) (.int .i64 n) (.string S) (.slice B1 l d1) (.slice B2 m d2);obtain ⟨⟨p0,p1,p2,p3,p4⟩,⟨f0,f1,f2,f3,f4⟩⟩:=ae h1;have e1:=HE.out.1;obtain ⟨w2,hw2⟩:∃ w2,w2=st5 w1 w.heap.size (.int .i64 k) (.int .i64 n) (.string S) (.slice B1 l d1) (.slice B2 m d2):=⟨_,rfl⟩
 rw [←hw2] at hv2 h02 hF2 hb2 hsz2;have HF2:=zh hF2;have HN1:=zh hn1;have HR2:=zh hr2;have HV2:=zh hv2;have H02:=zh h02;have HB2:=zh hb2;have HS2:=zh hsz2;have HW2:=zh hw2;obtain ⟨⟨q0,q1,q2,q3,q4⟩, -⟩:=ae hv2;have hkk:=HE.out.1;have hkn:=HE.out.2.1;have hks:=HE.out.2.2.1;have hkl:=HE.out.2.2.2.1;have hkm:=HE.out.2.2.2.2;have HOR2:=zh (HOR.out _ F1 w2 hF2 hn1 (fun x hx=>by have:=hr2 x hx;omega));rw [hkk,hkn,hks,hkl,hkm];clear hF1 hF2 hn1 hr1 hr2 hb1 hb0 hz0 hz1 hs0 h1 h0 hv2 h02 hb2 hsz2 hw2 e1 hkk hkn hks hkl hkm HOR HCP;go_wp2_with fail;rw [show ((((w1.setCell ⟨w.heap.size,0,none⟩ (.int .i64 k)).setCell ⟨w.heap.size,1,none⟩ (.int .i64 n)).setCell ⟨w.heap.size,2,none⟩ (.string S)).setCell ⟨w.heap.size,3,none⟩ (.slice B1 l d1)).setCell ⟨w.heap.size,4,none⟩ (.slice B2 m d2)=w2 from HW2.out.symm];refine HOR2.out.mono ?_;rintro e w3 ⟨rfl,a,F3,hS3,hF3,hp3,hc3⟩;have hv3:=(hc3.block w.heap.size (by have:=HSW1.out;have:=HS2.out;omega) (fun hx=>by have:=HR2.out _ hx;omega)).trans HV2.out;have h03:=(hc3.block (w.heap.size+1) (by have:=HSW1.out;have:=HS2.out;omega) (fun hx=>by have:=HR2.out _ hx;omega)).trans H02.out;have HS3:=zh hS3;have HF3:=zh hF3;have HP3:=zh hp3;have HC3:=zh hc3;have H03:=zh h03;obtain ⟨⟨r0,r1,r2,r3,r4⟩, -⟩:=ae hv3;obtain ⟨⟨u0,u1,u2,u3,u4⟩,⟨g0,g1,g2,g3,g4⟩⟩:=ae h03;clear p0 p1 p2 p3 p4 f0 f1 f2 f3 f4 q0 q1 q2 q3 q4 hS3 hF3 hp3 hc3 hv3 h03 HOR2;go_wp2;refine bodyPost_ret (qd9 rfl rfl (cr H03.out (.int .i64 k) (.int .i64 n) (.string S) (.slice B1 l d1) (.slice B2 m d2))) rfl ?_;have hr3:∀ x∈F3,w.heap.size+2≤x∧x<w1.heap.size:=fun x hx=>HR2.out x (HP3.out.mem_iff.1 hx);have hb3:Below w.heap.size w w3:=HB2.out.trans (HC3.out.below HB2.out.size (fun x hx=>by have:=HR2.out x hx;omega));refine ⟨⟨a,[.int .i64 k,.int .i64 n,.string S,.slice B1 l d1,.slice B2 m d2],F3,rfl,HS3.out,RdF.keep _ _ _ (fun x hx=>ci (show x≠w.heap.size+1 by have:=hr3 x hx;omega) _ _ _ _ _) HF3.out,HP3.out.nodup_iff.2 HN1.out,fun x hx=>?_⟩,co hb3 (by omega) _ _ _ _ _⟩;have e:=dW (w:=w3) (b:=w.heap.size+1) (.int .i64 k) (.int .i64 n) (.string S) (.slice B1 l d1) (.slice B2 m d2);have:=hr3 x hx;have:=HC3.out.size;have:=HS2.out;exact ⟨by omega,by show x<(st5 w3 (w.heap.size+1) (.int .i64 k) (.int .i64 n) (.string S) (.slice B1 l d1) (.slice B2 m d2)).heap.size;rw [e];omega⟩
def qhz (w:World) (e:Ending) (w':World):Prop:=(∃ b,e = .returned (.bool b))∧Below w.heap.size w w'
theorem qqr (h:Nat):∀ (v:V) (cs:List Value) (w:World),ht v≤h→szA 4611686018427387904 v→RdA w 0 w.heap.size v cs→Calls Tryz.prog 35 #[.agg cs.toArray] w (qhz w):=by
 induction h with
 | zero=>intro v cs w hh;rw [dL] at hh;omega
 | succ h ih=>
  intro v cs w hh hz hv;have hht:=dL v;obtain ⟨-, -, -,z1,z2, -,z3,z4⟩:=(cI _ v).1 hz;have IHL:=zh (show ∀ x∈v.l,∀ (cx:List Value) (W:World),RdA W 0 W.heap.size x cx→Calls Tryz.prog 35 #[.agg cx.toArray] W (qhz W) from fun x hx cx W hr=>ih x cx W (by have:=bn hx;omega) (aV z3 hx) hr);have IHM:=zh (show ∀ x∈v.ms,∀ (cx:List Value) (W:World),RdA W 0 W.heap.size x cx→Calls Tryz.prog 35 #[.agg cx.toArray] W (qhz W) from fun x hx cx W hr=>ih x cx W (by have:=bn hx;omega) (aV z4 hx) hr);obtain ⟨A0,c0,A20,c20,rfl,hns,hL,hM⟩:=hv.cells;have HL:=zh hL;have HM:=zh hM;have HNS:=zh hns;obtain ⟨l,hl⟩:∃ x,v.l.length=x:=⟨_,rfl⟩
  obtain ⟨m,hm⟩:∃ x,v.ms.length=x:=⟨_,rfl⟩
  have HN1:=zh hl;have HN2:=zh hm;rw [hl] at z1 HL ⊢;rw [hm] at z2 HM ⊢;clear ih hh hht z3 z4 hz hv hL hM hns hl hm;generalize v.k=k;generalize v.n=n;generalize aa v.s=S;obtain ⟨W0,hW0⟩:∃ W0,W0=w.alloc (.cells #[.int .i64 k,.int .i64 n,.string S,.slice A0 l c0,.slice A20 m c20] 25):=⟨_,rfl⟩
  have HB0:=zh (show Below w.heap.size w W0 by rw [hW0];exact (Below.refl _ _).alloc (Nat.le_refl _) _);have HS0:=zh (show W0.heap.size=w.heap.size+1 by rw [hW0,aF]);have HR0:=zh (show W0.heap[w.heap.size]? = some (.cells #[.int .i64 k,.int .i64 n,.string S,.slice A0 l c0,.slice A20 m c20] 25 (0,0)) by rw [hW0];exact ag _ _);have HBW0:=zh (Below.refl W0.heap.size W0);have HW0:=zh hW0;clear hW0;by_cases h5:k=5
  ·subst h5;by_cases hm:0<m
   ·have q2:decide ((0:Int)<(m:Int))=true:=zT (by omega);have q2b:decide (0<m)=true:=zT (by omega);go_enter Tryz.func35,Tryz.ntmps35;go_wp2;go_ret;exact ⟨⟨false,rfl⟩,(Below.refl _ _).alloc (Nat.le_refl _) _⟩
   ·have q2:decide ((0:Int)<(m:Int))=false:=zF (by omega);have q2b:decide (0<m)=false:=zF (by omega);go_enter Tryz.func35,Tryz.ntmps35;go_wp2_with fail;rw [←HW0.out];clear q2 q2b hm;go_loopw [3] (fun i wr=>∃ kk:Nat,i = .int .i64 kk∧kk≤l∧Aside (Below W0.heap.size W0 wr)) (fun i _=>l-(intOf i).toNat)
    case atStart=>exact ⟨0,rfl,by omega,(show Below _ _ _ from Below.refl _ _)⟩
    case round=>
     obtain ⟨kk,rfl,hk,hbel⟩:=hrel;have hb0:Below W0.heap.size W0 wr:=HBW0.out.trans hbel.out;have HBR:=zh hb0;have hwb:Below w.heap.size w wr:=HB0.out.trans (hb0.mono HB0.out.size);have HWB:=zh hwb;obtain ⟨⟨p0,p1,p2,p3,p4⟩, -⟩:=ae ((hb0.block w.heap.size (by rw [HS0.out];omega)).trans HR0.out);clear hb0;by_cases hlt:kk<l
     ·have t1:decide ((kk:Int)<(l:Int))=true:=zT (by omega);have t2:decide (kk<l)=true:=zT hlt;have k0:(0:Int)≤(kk:Int):=by omega
      have k1:(kk:Int)<(l:Int):=by omega
      have k2:((kk:Int)).toNat=kk:=by omega
      have hkl:kk<v.l.length:=by rw [HN1.out];exact hlt
      obtain ⟨g,o,rfl,_,hg,hr⟩:=HL.out (by omega);obtain ⟨xcs,hxc,hxv⟩:=bC.at_ _ o hr kk hkl;have hmem:v.l[kk]∈v.l:=List.getElem_mem hkl;have HCP:=zh (IHL.out _ hmem xcs wr (hxv.below hwb (Nat.le_refl _) hwb.size));obtain ⟨xA,xc,xB,xd,rfl, -⟩:=hxv.cells;have a0:=(hwb.cell (p:=⟨g,o+kk*5,none⟩) hg).trans (hxc 0 _ rfl);have a1:=(hwb.cell (p:=⟨g,o+kk*5+1,none⟩) hg).trans (hxc 1 _ rfl);have a2:=(hwb.cell (p:=⟨g,o+kk*5+2,none⟩) hg).trans (hxc 2 _ rfl);have a3:=(hwb.cell (p:=⟨g,o+kk*5+3,none⟩) hg).trans (hxc 3 _ rfl);have a4:=(hwb.cell (p:=⟨g,o+kk*5+4,none⟩) hg).trans (hxc 4 _ rfl);generalize v.l[kk].k=xk at *;generalize v.l[kk].n=xn at *;generalize aa v.l[kk].s=xs at *;generalize v.l[kk].l.length=xl at *;generalize v.l[kk].ms.length=xm at *;clear hxv hxc hmem hr hwb;go_wp2_with fail;refine HCP.out.mono ?_;rintro e w5 ⟨⟨b,rfl⟩,hb5⟩;have HB5:=zh (show Below W0.heap.size W0 w5 from hbel.out.trans (hb5.mono HBR.out.size));clear hb5 HCP;cases b
      ·go_wp2;go_ret;exact ⟨⟨false,rfl⟩,HB0.out.trans ((HBW0.out.trans HB5.out).mono HB0.out.size)⟩
      ·go_wp2;go_roundw
       case rel=>exact ⟨kk+1,by go_num,by omega,(show Below _ _ _ from HB5.out)⟩
       case measure=>simp [intOf];omega
     ·have t1:decide ((kk:Int)<(l:Int))=false:=zF (by omega);have t2:decide (kk<l)=false:=zF hlt;obtain ⟨w2,hw2⟩:∃ w2,w2=wr:=⟨_,rfl⟩
      rw [←hw2] at p0 p1 p2 p3 p4 hbel HBR ⊢;have HBw2:=zh HBR.out;clear hw2 hbel hlt HBR HWB hwb;go_wp2_with fail;go_loopw [4] (fun i wr=>∃ kk:Nat,i = .int .i64 kk∧kk≤m∧Aside (Below W0.heap.size w2 wr)) (fun i _=>m-(intOf i).toNat)
      case atStart=>exact ⟨0,rfl,by omega,(show Below _ _ _ from Below.refl _ _)⟩
      case round=>
       obtain ⟨kk,rfl,hk,hbel⟩:=hrel;have hb0:Below W0.heap.size W0 wr:=HBw2.out.trans hbel.out;have HBR:=zh hb0;have hwb:Below w.heap.size w wr:=HB0.out.trans (hb0.mono HB0.out.size);have HWB:=zh hwb;obtain ⟨⟨p0,p1,p2,p3,p4⟩, -⟩:=ae ((hb0.block w.heap.size (by rw [HS0.out];omega)).trans HR0.out);clear hb0;by_cases hlt:kk<m
       ·have t1:decide ((kk:Int)<(m:Int))=true:=zT (by omega);have t2:decide (kk<m)=true:=zT hlt;have k0:(0:Int)≤(kk:Int):=by omega
        have k1:(kk:Int)<(m:Int):=by omega
        have k2:((kk:Int)).toNat=kk:=by omega
        have hkl:kk<v.ms.length:=by rw [HN2.out];exact hlt
        have hkn:kk<v.ns.length:=by rw [HNS.out];exact hkl
        obtain ⟨g,o,rfl,_,hg,hr⟩:=HM.out (by omega);obtain ⟨hxn,xcs,hxc,hxv⟩:=bA.at_ _ _ o hr kk hkl hkn;have hmem:v.ms[kk]∈v.ms:=List.getElem_mem hkl;have HCP:=zh (IHM.out _ hmem xcs wr (hxv.below hwb (Nat.le_refl _) hwb.size));obtain ⟨xA,xc,xB,xd,rfl, -⟩:=hxv.cells;have a0:=(hwb.cell (p:=⟨g,o+kk*6+1,none⟩) hg).trans (hxc 0 _ rfl);have a1:=(hwb.cell (p:=⟨g,o+kk*6+2,none⟩) hg).trans (hxc 1 _ rfl);have a2:=(hwb.cell (p:=⟨g,o+kk*6+3,none⟩) hg).trans (hxc 2 _ rfl);have a3:=(hwb.cell (p:=⟨g,o+kk*6+4,none⟩) hg).trans (hxc 3 _ rfl);have a4:=(hwb.cell (p:=⟨g,o+kk*6+5,none⟩) hg).trans (hxc 4 _ rfl);generalize v.ms[kk].k=xk at *;generalize v.ms[kk].n=xn at *;generalize aa v.ms[kk].s=xs at *;generalize v.ms[kk].l.length=xl at *;generalize v.ms[kk].ms.length=xm at *;clear hxv hxc hmem hr hwb hxn;go_wp2_with fail;refine HCP.out.mono ?_;rintro e w5 ⟨⟨b,rfl⟩,hb5⟩;have HB5:=zh (show Below W0.heap.size w2 w5 from hbel.out.trans (hb5.mono HBR.out.size));clear hb5 HCP;cases b
        ·go_wp2;go_ret;exact ⟨⟨false,rfl⟩,HB0.out.trans ((HBw2.out.trans HB5.out).mono HB0.out.size)⟩
        ·go_wp2;go_roundw
         case rel=>exact ⟨kk+1,by go_num,by omega,(show Below _ _ _ from HB5.out)⟩
         case measure=>simp [intOf];omega
       ·have t1:decide ((kk:Int)<(m:Int))=false:=zF (by omega);have t2:decide (kk<m)=false:=zF hlt;go_wp2;go_ret;exact ⟨⟨true,rfl⟩,HWB.out⟩
  ·have n5:decide (k=5)=false:=zF h5;by_cases hl:0<l
   ·have q1:decide ((0:Int)<(l:Int))=true:=zT (by omega);have q1b:decide (0<l)=true:=zT (by omega);go_enter Tryz.func35,Tryz.ntmps35;go_wp2;go_ret;exact ⟨⟨false,rfl⟩,(Below.refl _ _).alloc (Nat.le_refl _) _⟩
   ·have q1:decide ((0:Int)<(l:Int))=false:=zF (by omega);have q1b:decide (0<l)=false:=zF (by omega);by_cases h6:k=6
    ·subst h6;go_enter Tryz.func35,Tryz.ntmps35;go_wp2_with fail;rw [←HW0.out];clear q1 q1b hl;go_loopw [3] (fun i wr=>∃ kk:Nat,i = .int .i64 kk∧kk≤l∧Aside (Below W0.heap.size W0 wr)) (fun i _=>l-(intOf i).toNat)
     case atStart=>exact ⟨0,rfl,by omega,(show Below _ _ _ from Below.refl _ _)⟩
     case round=>
      obtain ⟨kk,rfl,hk,hbel⟩:=hrel;have hb0:Below W0.heap.size W0 wr:=HBW0.out.trans hbel.out;have HBR:=zh hb0;have hwb:Below w.heap.size w wr:=HB0.out.trans (hb0.mono HB0.out.size);have HWB:=zh hwb;obtain ⟨⟨p0,p1,p2,p3,p4⟩, -⟩:=ae ((hb0.block w.heap.size (by rw [HS0.out];omega)).trans HR0.out);clear hb0;by_cases hlt:kk<l
      ·have t1:decide ((kk:Int)<(l:Int))=true:=zT (by omega);have t2:decide (kk<l)=true:=zT hlt;have k0:(0:Int)≤(kk:Int):=by omega
       have k1:(kk:Int)<(l:Int):=by omega
       have k2:((kk:Int)).toNat=kk:=by omega
       have hkl:kk<v.l.length:=by rw [HN1.out];exact hlt
       obtain ⟨g,o,rfl,_,hg,hr⟩:=HL.out (by omega);obtain ⟨xcs,hxc,hxv⟩:=bC.at_ _ o hr kk hkl;have hmem:v.l[kk]∈v.l:=List.getElem_mem hkl;have HCP:=zh (IHL.out _ hmem xcs wr (hxv.below hwb (Nat.le_refl _) hwb.size));obtain ⟨xA,xc,xB,xd,rfl, -⟩:=hxv.cells;have a0:=(hwb.cell (p:=⟨g,o+kk*5,none⟩) hg).trans (hxc 0 _ rfl);have a1:=(hwb.cell (p:=⟨g,o+kk*5+1,none⟩) hg).trans (hxc 1 _ rfl);have a2:=(hwb.cell (p:=⟨g,o+kk*5+2,none⟩) hg).trans (hxc 2 _ rfl);have a3:=(hwb.cell (p:=⟨g,o+kk*5+3,none⟩) hg).trans (hxc 3 _ rfl);have a4:=(hwb.cell (p:=⟨g,o+kk*5+4,none⟩) hg).trans (hxc 4 _ rfl);generalize v.l[kk].k=xk at *;generalize v.l[kk].n=xn at *;generalize aa v.l[kk].s=xs at *;generalize v.l[kk].l.length=xl at *;generalize v.l[kk].ms.length=xm at *;clear hxv hxc hmem hr hwb;go_wp2_with fail;refine HCP.out.mono ?_;rintro e w5 ⟨⟨b,rfl⟩,hb5⟩;have HB5:=zh (show Below W0.heap.size W0 w5 from hbel.out.trans (hb5.mono HBR.out.size));clear hb5 HCP;cases b
       ·go_wp2;go_ret;exact ⟨⟨false,rfl⟩,HB0.out.trans ((HBW0.out.trans HB5.out).mono HB0.out.size)⟩
       ·go_wp2;go_roundw
        case rel=>exact ⟨kk+1,by go_num,by omega,(show Below _ _ _ from HB5.out)⟩
        case measure=>simp [intOf];omega
      ·have t1:decide ((kk:Int)<(l:Int))=false:=zF (by omega);have t2:decide (kk<l)=false:=zF hlt;obtain ⟨w2,hw2⟩:∃ w2,w2=wr:=⟨_,rfl⟩
       rw [←hw2] at p0 p1 p2 p3 p4 hbel HBR ⊢;have HBw2:=zh HBR.out;clear hw2 hbel hlt HBR HWB hwb;go_wp2_with fail;go_loopw [4] (fun i wr=>∃ kk:Nat,i = .int .i64 kk∧kk≤m∧Aside (Below W0.heap.size w2 wr)) (fun i _=>m-(intOf i).toNat)
       case atStart=>exact ⟨0,rfl,by omega,(show Below _ _ _ from Below.refl _ _)⟩
       case round=>
        obtain ⟨kk,rfl,hk,hbel⟩:=hrel;have hb0:Below W0.heap.size W0 wr:=HBw2.out.trans hbel.out;have HBR:=zh hb0;have hwb:Below w.heap.size w wr:=HB0.out.trans (hb0.mono HB0.out.size);have HWB:=zh hwb;obtain ⟨⟨p0,p1,p2,p3,p4⟩, -⟩:=ae ((hb0.block w.heap.size (by rw [HS0.out];omega)).trans HR0.out);clear hb0;by_cases hlt:kk<m
        ·have t1:decide ((kk:Int)<(m:Int))=true:=zT (by omega);have t2:decide (kk<m)=true:=zT hlt;have k0:(0:Int)≤(kk:Int):=by omega
         have k1:(kk:Int)<(m:Int):=by omega
         have k2:((kk:Int)).toNat=kk:=by omega
         have hkl:kk<v.ms.length:=by rw [HN2.out];exact hlt
         have hkn:kk<v.ns.length:=by rw [HNS.out];exact hkl
         obtain ⟨g,o,rfl,_,hg,hr⟩:=HM.out (by omega);obtain ⟨hxn,xcs,hxc,hxv⟩:=bA.at_ _ _ o hr kk hkl hkn;have hmem:v.ms[kk]∈v.ms:=List.getElem_mem hkl;have HCP:=zh (IHM.out _ hmem xcs wr (hxv.below hwb (Nat.le_refl _) hwb.size));obtain ⟨xA,xc,xB,xd,rfl, -⟩:=hxv.cells;have a0:=(hwb.cell (p:=⟨g,o+kk*6+1,none⟩) hg).trans (hxc 0 _ rfl);have a1:=(hwb.cell (p:=⟨g,o+kk*6+2,none⟩) hg).trans (hxc 1 _ rfl);have a2:=(hwb.cell (p:=⟨g,o+kk*6+3,none⟩) hg).trans (hxc 2 _ rfl);have a3:=(hwb.cell (p:=⟨g,o+kk*6+4,none⟩) hg).trans (hxc 3 _ rfl);have a4:=(hwb.cell (p:=⟨g,o+kk*6+5,none⟩) hg).trans (hxc 4 _ rfl);generalize v.ms[kk].k=xk at *;generalize v.ms[kk].n=xn at *;generalize aa v.ms[kk].s=xs at *;generalize v.ms[kk].l.length=xl at *;generalize v.ms[kk].ms.length=xm at *;clear hxv hxc hmem hr hwb hxn;go_wp2_with fail;refine HCP.out.mono ?_;rintro e w5 ⟨⟨b,rfl⟩,hb5⟩;have HB5:=zh (show Below W0.heap.size w2 w5 from hbel.out.trans (hb5.mono HBR.out.size));clear hb5 HCP;cases b
         ·go_wp2;go_ret;exact ⟨⟨false,rfl⟩,HB0.out.trans ((HBw2.out.trans HB5.out).mono HB0.out.size)⟩
         ·go_wp2;go_roundw
          case rel=>exact ⟨kk+1,by go_num,by omega,(show Below _ _ _ from HB5.out)⟩
          case measure=>simp [intOf];omega
        ·have t1:decide ((kk:Int)<(m:Int))=false:=zF (by omega);have t2:decide (kk<m)=false:=zF hlt;go_wp2;go_ret;exact ⟨⟨true,rfl⟩,HWB.out⟩
    ·have n6:decide (k=6)=false:=zF h6;by_cases hm:0<m
     ·have q2:decide ((0:Int)<(m:Int))=true:=zT (by omega);have q2b:decide (0<m)=true:=zT (by omega);go_enter Tryz.func35,Tryz.ntmps35;go_wp2;go_ret;exact ⟨⟨false,rfl⟩,(Below.refl _ _).alloc (Nat.le_refl _) _⟩
     ·have q2:decide ((0:Int)<(m:Int))=false:=zF (by omega);have q2b:decide (0<m)=false:=zF (by omega);go_enter Tryz.func35,Tryz.ntmps35;go_wp2_with fail;rw [←HW0.out];clear q1 q1b hl q2 q2b hm;go_loopw [3] (fun i wr=>∃ kk:Nat,i = .int .i64 kk∧kk≤l∧Aside (Below W0.heap.size W0 wr)) (fun i _=>l-(intOf i).toNat)
      case atStart=>exact ⟨0,rfl,by omega,(show Below _ _ _ from Below.refl _ _)⟩
      case round=>
       obtain ⟨kk,rfl,hk,hbel⟩:=hrel;have hb0:Below W0.heap.size W0 wr:=HBW0.out.trans hbel.out;have HBR:=zh hb0;have hwb:Below w.heap.size w wr:=HB0.out.trans (hb0.mono HB0.out.size);have HWB:=zh hwb;obtain ⟨⟨p0,p1,p2,p3,p4⟩, -⟩:=ae ((hb0.block w.heap.size (by rw [HS0.out];omega)).trans HR0.out);clear hb0;by_cases hlt:kk<l
       ·have t1:decide ((kk:Int)<(l:Int))=true:=zT (by omega);have t2:decide (kk<l)=true:=zT hlt;have k0:(0:Int)≤(kk:Int):=by omega
        have k1:(kk:Int)<(l:Int):=by omega
        have k2:((kk:Int)).toNat=kk:=by omega
        have hkl:kk<v.l.length:=by rw [HN1.out];exact hlt
        obtain ⟨g,o,rfl,_,hg,hr⟩:=HL.out (by omega);obtain ⟨xcs,hxc,hxv⟩:=bC.at_ _ o hr kk hkl;have hmem:v.l[kk]∈v.l:=List.getElem_mem hkl;have HCP:=zh (IHL.out _ hmem xcs wr (hxv.below hwb (Nat.le_refl _) hwb.size));obtain ⟨xA,xc,xB,xd,rfl, -⟩:=hxv.cells;have a0:=(hwb.cell (p:=⟨g,o+kk*5,none⟩) hg).trans (hxc 0 _ rfl);have a1:=(hwb.cell (p:=⟨g,o+kk*5+1,none⟩) hg).trans (hxc 1 _ rfl);have a2:=(hwb.cell (p:=⟨g,o+kk*5+2,none⟩) hg).trans (hxc 2 _ rfl);have a3:=(hwb.cell (p:=⟨g,o+kk*5+3,none⟩) hg).trans (hxc 3 _ rfl);have a4:=(hwb.cell (p:=⟨g,o+kk*5+4,none⟩) hg).trans (hxc 4 _ rfl);generalize v.l[kk].k=xk at *;generalize v.l[kk].n=xn at *;generalize aa v.l[kk].s=xs at *;generalize v.l[kk].l.length=xl at *;generalize v.l[kk].ms.length=xm at *;clear hxv hxc hmem hr hwb;go_wp2_with fail;refine HCP.out.mono ?_;rintro e w5 ⟨⟨b,rfl⟩,hb5⟩;have HB5:=zh (show Below W0.heap.size W0 w5 from hbel.out.trans (hb5.mono HBR.out.size));clear hb5 HCP;cases b
        ·go_wp2;go_ret;exact ⟨⟨false,rfl⟩,HB0.out.trans ((HBW0.out.trans HB5.out).mono HB0.out.size)⟩
        ·go_wp2;go_roundw
         case rel=>exact ⟨kk+1,by go_num,by omega,(show Below _ _ _ from HB5.out)⟩
         case measure=>simp [intOf];omega
       ·have t1:decide ((kk:Int)<(l:Int))=false:=zF (by omega);have t2:decide (kk<l)=false:=zF hlt;obtain ⟨w2,hw2⟩:∃ w2,w2=wr:=⟨_,rfl⟩
        rw [←hw2] at p0 p1 p2 p3 p4 hbel HBR ⊢;have HBw2:=zh HBR.out;clear hw2 hbel hlt HBR HWB hwb;go_wp2_with fail;go_loopw [4] (fun i wr=>∃ kk:Nat,i = .int .i64 kk∧kk≤m∧Aside (Below W0.heap.size w2 wr)) (fun i _=>m-(intOf i).toNat)
        case atStart=>exact ⟨0,rfl,by omega,(show Below _ _ _ from Below.refl _ _)⟩
        case round=>
         obtain ⟨kk,rfl,hk,hbel⟩:=hrel;have hb0:Below W0.heap.size W0 wr:=HBw2.out.trans hbel.out;have HBR:=zh hb0;have hwb:Below w.heap.size w wr:=HB0.out.trans (hb0.mono HB0.out.size);have HWB:=zh hwb;obtain ⟨⟨p0,p1,p2,p3,p4⟩, -⟩:=ae ((hb0.block w.heap.size (by rw [HS0.out];omega)).trans HR0.out);clear hb0;by_cases hlt:kk<m
         ·have t1:decide ((kk:Int)<(m:Int))=true:=zT (by omega);have t2:decide (kk<m)=true:=zT hlt;have k0:(0:Int)≤(kk:Int):=by omega
          have k1:(kk:Int)<(m:Int):=by omega
          have k2:((kk:Int)).toNat=kk:=by omega
          have hkl:kk<v.ms.length:=by rw [HN2.out];exact hlt
          have hkn:kk<v.ns.length:=by rw [HNS.out];exact hkl
          obtain ⟨g,o,rfl,_,hg,hr⟩:=HM.out (by omega);obtain ⟨hxn,xcs,hxc,hxv⟩:=bA.at_ _ _ o hr kk hkl hkn;have hmem:v.ms[kk]∈v.ms:=List.getElem_mem hkl;have HCP:=zh (IHM.out _ hmem xcs wr (hxv.below hwb (Nat.le_refl _) hwb.size));obtain ⟨xA,xc,xB,xd,rfl, -⟩:=hxv.cells;have a0:=(hwb.cell (p:=⟨g,o+kk*6+1,none⟩) hg).trans (hxc 0 _ rfl);have a1:=(hwb.cell (p:=⟨g,o+kk*6+2,none⟩) hg).trans (hxc 1 _ rfl);have a2:=(hwb.cell (p:=⟨g,o+kk*6+3,none⟩) hg).trans (hxc 2 _ rfl);have a3:=(hwb.cell (p:=⟨g,o+kk*6+4,none⟩) hg).trans (hxc 3 _ rfl);have a4:=(hwb.cell (p:=⟨g,o+kk*6+5,none⟩) hg).trans (hxc 4 _ rfl);generalize v.ms[kk].k=xk at *;generalize v.ms[kk].n=xn at *;generalize aa v.ms[kk].s=xs at *;generalize v.ms[kk].l.length=xl at *;generalize v.ms[kk].ms.length=xm at *;clear hxv hxc hmem hr hwb hxn;go_wp2_with fail;refine HCP.out.mono ?_;rintro e w5 ⟨⟨b,rfl⟩,hb5⟩;have HB5:=zh (show Below W0.heap.size w2 w5 from hbel.out.trans (hb5.mono HBR.out.size));clear hb5 HCP;cases b
          ·go_wp2;go_ret;exact ⟨⟨false,rfl⟩,HB0.out.trans ((HBw2.out.trans HB5.out).mono HB0.out.size)⟩
          ·go_wp2;go_roundw
           case rel=>exact ⟨kk+1,by go_num,by omega,(show Below _ _ _ from HB5.out)⟩
           case measure=>simp [intOf];omega
         ·have t1:decide ((kk:Int)<(m:Int))=false:=zF (by omega);have t2:decide (kk<m)=false:=zF hlt;go_wp2;go_ret;exact ⟨⟨true,rfl⟩,HWB.out⟩
