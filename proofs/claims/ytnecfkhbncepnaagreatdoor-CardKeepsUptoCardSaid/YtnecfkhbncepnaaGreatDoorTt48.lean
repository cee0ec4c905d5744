/- Merged: CdO TsP. -/
import Derived.Test.YtnecfkhbncepnaaGreatDoorTt45
import Derived.Deep.MidRow
namespace Go.Proofs.YtnecfkhbncepnaaGreatDoor
namespace Cd
open Go.Proofs Go.RowKit Go.Lib Utf Sc Re Tr
def qdw (u:V) (F:List Nat) (w:World) (e:Ending) (w':World):Prop:=
 ∃ (cs:List Value) (G:List Nat),e = .returned (.agg cs.toArray)∧RdF w' u cs G∧G.Nodup∧(∀ x∈G,(x∈F∨w.heap.size≤x)∧x<w'.heap.size)∧aA F w w'
theorem dQ {Gs:List (List Nat)} {j:Nat} {G:List Nat} {x:Nat} (h:x∈(Gs.set j G).flatten):x∈G∨∃ i,∃ hi:i<Gs.length,i≠j∧x∈Gs[i]:=by
 obtain ⟨A,hA,hx⟩:=List.mem_flatten.1 h;obtain ⟨i,hi,rfl⟩:=List.getElem_of_mem hA;have hi':i<Gs.length:=by simpa using hi
 by_cases e:j=i
 ·subst e;rw [List.getElem_set_self] at hx;exact .inl hx
 ·rw [List.getElem_set_ne e] at hx;exact .inr ⟨i,hi',fun q=>e q.symm,hx⟩
theorem qaZ:∀ (Gs:List (List Nat)) (j:Nat) (G:List Nat),Gs.flatten.Nodup→G.Nodup→(∀ x∈G,∀ i (hi:i<Gs.length),i≠j→x∉Gs[i])→(Gs.set j G).flatten.Nodup
 | [],_,_,_,_,_=>by simp
 | A::r,0,G,h,hG,hd=>by
  rw [List.flatten_cons,List.nodup_append] at h;rw [List.set_cons_zero,List.flatten_cons,List.nodup_append];refine ⟨hG,h.2.1,fun a ha b hb e=>?_⟩;subst e;obtain ⟨B,hB,hx⟩:=List.mem_flatten.1 hb;obtain ⟨i,hi,rfl⟩:=List.getElem_of_mem hB;exact hd a ha (i+1) (by simpa using hi) (by omega) (by simpa using hx)
 | A::r,j+1,G,h,hG,hd=>by
  rw [List.flatten_cons,List.nodup_append] at h;rw [List.set_cons_succ,List.flatten_cons,List.nodup_append];refine ⟨h.1,qaZ r j G h.2.1 hG fun x hx i hi hij=>?_,fun a ha b hb e=>?_⟩
  ·have:=hd x hx (i+1) (by simpa using hi) (by omega)
   simpa using this
  ·subst e;rcases dQ hb with hx | ⟨i,hi, -,hx⟩
   ·exact hd a hx 0 (by simp) (by omega) (by simpa using ha)
   ·exact h.2.2 a ha a (aq hi hx) rfl
structure Lq (s o0 N g:Nat) (F:List Nat) (l:List V) (Gs0:List (List Nat)) (f:V→V) (j:Nat) (lc:List V) (Gs:List (List Nat)) (w:World):Prop where
 it:It s o0 g lc Gs w
 ll:lc.length=l.length
 gl:Gs0.length=l.length
 new:∀ i (h1:i<lc.length) (h2:i<l.length),i<j→lc[i]=f l[i]
 old:∀ i (h1:i<lc.length) (h2:i<l.length),j≤i→lc[i]=l[i]
 gold:∀ i (h1:i<Gs.length) (h2:i<Gs0.length),j≤i→Gs[i]=Gs0[i]
 sub:∀ x∈Gs.flatten,x∈F∨N≤x
section
variable {s o0 N g:Nat} {F:List Nat} {l:List V} {Gs0:List (List Nat)} {f:V→V} {j:Nat} {lc:List V} {Gs:List (List Nat)} {w w':World}
theorem Lq.keep (h:Lq s o0 N g F l Gs0 f j lc Gs w) (hb:Below w.heap.size w w'):Lq s o0 N g F l Gs0 f j lc Gs w':={ h with it:=h.it.keep hb }
theorem Lq.step (h:Lq s o0 N g F l Gs0 f j lc Gs w) (hs:o0+5≤s) (hj:j<lc.length) (hjg:j<Gs.length) (hjl:j<l.length) (hN:N≤w.heap.size) {v0 v1 v2 v3 v4:Value} {G:List Nat} (hc:aA Gs[j] w w') (hr:RdF w' (f l[j]) [v0,v1,v2,v3,v4] G) (hn:G.Nodup)
  (hG:∀ x∈G,(x∈Gs[j]∨w.heap.size≤x)∧x<w'.heap.size):Lq s o0 N g F l Gs0 f (j+1) (lc.set j (f l[j])) (Gs.set j G) (eL w' g (j*s+o0) v0 v1 v2 v3 v4):=by
 have hnod:=h.it.nod;rw [List.nodup_cons] at hnod;have hg:w'.heap[g]? = w.heap[g]?:=hc.block g (h.it.lt g (by simp)) fun hx=>hnod.1 (aq hjg hx);have hgl:g<w.heap.size:=h.it.lt g (by simp);have hgG:g∉G:=fun hx=>by
  rcases (hG g hx).1 with h1 | h1
  ·exact hnod.1 (aq hjg h1)
  ·omega
 have hap:∀ x∈G,∀ i (hi:i<Gs.length),i≠j→x∉Gs[i]:=fun x hx i hi hij h2=>by
  rcases (hG x hx).1 with h1 | h1
  ·exact qad i j hi hjg hnod.2 hij x h2 h1
  ·have:=h.it.lt x (List.mem_cons_of_mem _ (aq hi h2));omega
 refine ⟨⟨by simp [h.it.len],fun i h1 h2=>?_,?_,fun x hx=>?_⟩,by simp [h.ll],h.gl,fun i h1 h2 hij=>?_,fun i h1 h2 hij=>?_,fun i h1 h2 hij=>?_,fun x hx=>?_⟩
 ·by_cases e:j=i
  ·subst e;simp only [List.getElem_set_self];obtain ⟨c,p1,p2⟩:=h.it.at_ j hj hjg;obtain ⟨_,_,_,_,_,_,ec, -⟩:=p2.cells;refine ⟨[v0,v1,v2,v3,v4],qkL (by rw [ec];rfl) (p1.keep hg),RdF.keep _ _ _ (fun k hk=>aG fun e=>hgG (e▸hk)) hr⟩
  ·simp only [List.getElem_set_ne e];have i1:i<lc.length:=by simpa using h1
   have i2:i<Gs.length:=by simpa using h2
   obtain ⟨c,p1,p2⟩:=h.it.at_ i i1 i2;obtain ⟨_,_,_,_,_,_,ec, -⟩:=p2.cells;have hc5:c.length=5:=by rw [ec];rfl
   refine ⟨c,qbX (by
    rw [hc5];rcases Nat.lt_or_gt_of_ne e with e2 | e2
    ·right
     have:=Nat.mul_le_mul_right s (show j+1≤i by omega);rw [Nat.succ_mul] at this;omega
    ·left
     have:=Nat.mul_le_mul_right s (show i+1≤j by omega);rw [Nat.succ_mul] at this;omega) (p1.keep hg),RdF.keep _ _ _ (fun k hk=>?_) p2⟩
   rw [aG (show k≠g from fun e=>hnod.1 (by rw [←e];exact aq i2 hk))];exact hc.block k (h.it.lt k (List.mem_cons_of_mem _ (aq i2 hk))) fun hx=>qad i j i2 hjg hnod.2 (fun q=>e q.symm) k hk hx
 ·rw [List.nodup_cons];refine ⟨fun hx=>?_,qaZ Gs j G hnod.2 hn hap⟩;rcases dQ hx with hx | ⟨i,hi, -,hx⟩
  ·exact hgG hx
  ·exact hnod.1 (aq hi hx)
 ·rw [qa1];have hs:=hc.size;rcases List.mem_cons.1 hx with rfl | hx
  ·omega
  ·rcases dQ hx with hx | ⟨i,hi, -,hx⟩
   ·exact (hG x hx).2
   ·have:=h.it.lt x (List.mem_cons_of_mem _ (aq hi hx));omega
 ·by_cases e:j=i
  ·subst e;simp only [List.getElem_set_self]
  ·simp only [List.getElem_set_ne e];exact h.new i (by simpa using h1) h2 (by omega)
 ·simp only [List.getElem_set_ne (show j≠i by omega)];exact h.old i (by simpa using h1) h2 (by omega)
 ·simp only [List.getElem_set_ne (show j≠i by omega)];exact h.gold i (by simpa using h1) h2 (by omega)
 ·rcases dQ hx with hx | ⟨i,hi, -,hx⟩
  ·rcases (hG x hx).1 with h1 | h1
   ·exact h.sub x (aq hjg h1)
   ·exact .inr (by omega)
  ·exact h.sub x (aq hi hx)
theorem Lq.end_ (h:Lq s o0 N g F l Gs0 f l.length lc Gs w):lc=l.map f:=by
 refine List.ext_getElem (by rw [h.ll,List.length_map]) fun i h1 h2=>?_;have hi:i<l.length:=by rw [←h.ll];exact h1
 rw [h.new i h1 hi hi,List.getElem_map]
end
theorem Lq.start5 {w:World} {g N:Nat} {T F:List Nat} {l:List V} {f:V→V} (hr:bz w g 0 l T) (hn:(g::T).Nodup) (hlt:∀ x∈g::T,x<w.heap.size) (hF:∀ x∈g::T,x∈F):∃ Gs,Gs.flatten=T∧Lq 5 0 N g F l Gs f 0 l Gs w:=by
 obtain ⟨Fs,f1,rfl,f3⟩:=bz.items l T 0 hr;refine ⟨Fs,rfl,⟨⟨f1,fun i h1 h2=>?_,hn,hlt⟩,rfl,f1,fun i _ _ h=>by omega,fun i _ _ _=>rfl,fun i _ _ _=>rfl,fun x hx=> .inl (hF x (List.mem_cons_of_mem _ hx))⟩⟩;have:=f3 i h1 h2;rw [Nat.zero_add] at this;exact this
theorem Lq.start6 {w:World} {g N:Nat} {T F:List Nat} {ns:List (List UInt8)} {ms:List V} {f:V→V} (hr:bf w g 0 ns ms T) (hnl:ns.length=ms.length) (hn:(g::T).Nodup) (hlt:∀ x∈g::T,x<w.heap.size) (hF:∀ x∈g::T,x∈F):∃ Gs,Gs.flatten=T∧Lq 6 1 N g F ms Gs f 0 ms Gs w∧cW g ns w:=by
 obtain ⟨Fs,f1,rfl,f3⟩:=bf.items ms ns T 0 hr hnl;refine ⟨Fs,rfl,⟨⟨f1,fun i h1 h2=>?_,hn,hlt⟩,rfl,f1,fun i _ _ h=>by omega,fun i _ _ _=>rfl,fun i _ _ _=>rfl,fun x hx=> .inl (hF x (List.mem_cons_of_mem _ hx))⟩,fun i hi=>?_⟩
 ·obtain ⟨cs,p1,p2⟩:=f3 i h1 h2 (by omega);rw [Nat.zero_add] at p1;exact ⟨cs,(ca.1 p1).2,p2⟩
 ·obtain ⟨cs,p1, -⟩:=f3 i (by omega) (by omega) hi;rw [Nat.zero_add] at p1;exact (ca.1 p1).1
theorem aA.st5o {F:List Nat} {w w':World} {g o:Nat} {v0 v1 v2 v3 v4:Value} (h:aA F w w') (hg:g∈F∨w.heap.size≤g):aA F w (eL w' g o v0 v1 v2 v3 v4):=
 ⟨(qac (w:=w')).os.trans h.os,(qac (w:=w')).tape.trans h.tape,(qac (w:=w')).output.trans h.output,by rw [qa1];exact h.size,fun k hk hkF=>(aG (fun e=>by
  subst e;rcases hg with h1 | h1
  ·exact hkF h1
  ·omega)).trans (h.block k hk hkF)⟩
structure Mb where
 nm:List UInt8
 cs:List Value
 v:V
 G:List Nat
structure dw (B N:Nat) (U:List Nat) (mv:Value) (R:List Mb) (w:World):Prop where
 own:w.ownsRow B 44 6 mv R.length (R.map fun r=> .string (aa r.nm)::r.cs).flatten
 rd:∀ r∈R,RdF w r.v r.cs r.G
 nod:(R.map Mb.G).flatten.Nodup
 sub:∀ x∈(R.map Mb.G).flatten,(x∈U∨N≤x)∧x<w.heap.size∧mv.ownBlock≠some x
theorem qb9 {R:List Mb} {r:Mb} (hr:r∈R) {x:Nat} (hx:x∈r.G):x∈(R.map Mb.G).flatten:=List.mem_flatten.2 ⟨_,List.mem_map.2 ⟨r,hr,rfl⟩,hx⟩
section
variable {B N:Nat} {U:List Nat} {mv:Value} {R:List Mb} {w w':World}
theorem dw.keep (h:dw B N U mv R w) (hb:Below w.heap.size w w'):dw B N U mv R w' where
 own:=bD h.own hb
 rd:=fun r hr=>RdF.keep _ _ _ (fun k hk=>hb.block k (h.sub k (qb9 hr hk)).2.1) (h.rd r hr)
 nod:=h.nod
 sub:=fun x hx=>⟨(h.sub x hx).1,Nat.lt_of_lt_of_le (h.sub x hx).2.1 hb.size,(h.sub x hx).2.2⟩
theorem dw.chg {H:List Nat} (h:dw B N U mv R w) (hb:aA H w w') (hN:∀ x∈H,x<N∧x∉U) (hB:N≤B):dw B N U mv R w' where
 own:=by
  have hlt:=h.own.lt;obtain ⟨h0,h1⟩:=h.own;refine ⟨h0,?_⟩;rcases h1 with h1 | ⟨g,cap,cur,rfl,h2,h3,h4⟩
  ·exact .inl h1
  ·exact .inr ⟨g,cap,cur,rfl,h2,(hb.block g (hlt g rfl).2 fun hx=>by have:=(hN g hx).1;omega).trans h3,h4⟩
 rd:=fun r hr=>RdF.keep _ _ _ (fun k hk=>hb.block k (h.sub k (qb9 hr hk)).2.1 fun hx=>by
  rcases (h.sub k (qb9 hr hk)).1 with h1 | h1
  ·exact (hN k hx).2 h1
  ·have:=(hN k hx).1;omega) (h.rd r hr)
 nod:=h.nod
 sub:=fun x hx=>⟨(h.sub x hx).1,Nat.lt_of_lt_of_le (h.sub x hx).2.1 hb.size,(h.sub x hx).2.2⟩
theorem dw.more (h:dw B N U mv R w) {U':List Nat} (hU:∀ x∈U,x∈U'):dw B N U' mv R w:={ h with sub:=fun x hx=>⟨(h.sub x hx).1.imp (hU x) id,(h.sub x hx).2⟩ }
theorem dw.push (h:dw B N U mv R w) (r:Mb) {mv':Value} (hown:w'.ownsRow B 44 6 mv' (R.length+1) ((R.map fun r=> .string (aa r.nm)::r.cs).flatten++(.string (aa r.nm)::r.cs))) (hg:w.grownBy w' mv.ownBlock)
  (ho:mv'.ownBlock=mv.ownBlock∨mv'.ownBlock=some w.heap.size) (hr:RdF w r.v r.cs r.G) (hn:r.G.Nodup) (hs:∀ x∈r.G,(x∈U∨N≤x)∧x<w.heap.size∧mv.ownBlock≠some x) (hd:∀ x∈r.G,x∉(R.map Mb.G).flatten):dw B N U mv' (R++[r]) w' where
 own:=by
  rw [List.length_append,List.map_append,List.flatten_append,List.map_cons,List.map_nil,List.flatten_singleton];exact hown
 rd:=fun q hq=>by
  rcases List.mem_append.1 hq with hq | hq
  ·exact RdF.keep _ _ _ (fun k hk=>hg.block k (h.sub k (qb9 hq hk)).2.1 fun e=>(h.sub k (qb9 hq hk)).2.2 e.symm) (h.rd q hq)
  ·rw [List.mem_singleton] at hq;subst hq;exact RdF.keep _ _ _ (fun k hk=>hg.block k (hs k hk).2.1 fun e=>(hs k hk).2.2 e.symm) hr
 nod:=by
  rw [List.map_append,List.flatten_append,List.map_cons,List.map_nil,List.flatten_singleton,List.nodup_append];exact ⟨h.nod,hn,fun a ha b hb e=>hd b hb (e▸ha)⟩
 sub:=fun x hx=>by
  have key:(x∈U∨N≤x)∧x<w.heap.size∧mv.ownBlock≠some x:=by
   rw [List.map_append,List.flatten_append,List.map_cons,List.map_nil,List.flatten_singleton,List.mem_append] at hx;rcases hx with hx | hx
   ·exact h.sub x hx
   ·exact hs x hx
  refine ⟨key.1,Nat.lt_of_lt_of_le key.2.1 hg.size,fun e=>?_⟩;rcases ho with ho | ho
  ·exact key.2.2 (ho▸e)
  ·rw [ho] at e;injection e with e
   omega
end
end Cd
namespace Tr
open Go.Proofs Go.RowKit Go.Lib Utf Sc Re
theorem qe9 (b:Nat):∀ (vs:List Value) (o:Nat) (w:World),(w.setCells b o vs).heap.size=w.heap.size
 | [],_,_=>rfl
 | v::r,o,w=>by rw [World.setCells,qe9 b r];simp
theorem qce (b:Nat) (F:List Nat) (hb:b∈F):∀ (vs:List Value) (o:Nat) (w:World),aA F w (w.setCells b o vs)
 | [],_,w=>aA.refl _ _
 | v::r,o,w=>by
  rw [World.setCells];exact (show aA F w (w.setCell ⟨b,o,none⟩ v) from ⟨rfl,rfl,rfl,by simp,fun k _ hk=>Below.heap_setCell _ _ _ k (fun e=>hk (by rw [e];exact hb))⟩).trans (qce b F hb r (o+1) _)
theorem am.there {w:World} {g o:Nat} {cs:List Value} (h:am w g o cs):w.there g o cs.length:=fun j hj=>by
 obtain ⟨h1,h2⟩:=h j cs[j] (List.getElem?_eq_getElem hj);exact ⟨by rw [h1];rfl,h2⟩
