/- Merged: BkPut BkPl2. -/
import Derived.Test.YtofelafamfckiaaGreatDoorTt31
import Derived.Test.YtofelafamfckiaaGreatDoorTt28
set_option maxRecDepth 100000
set_option maxHeartbeats 1000000
namespace Go.Proofs.YtofelafamfckiaaGreatDoor
namespace Bk
open Go.Proofs Go.RowKit Utf Sc Po
open Tr (ltN)
theorem qd2:∀ a:List UInt8,Op.bytesLess a a=false
 | []=>by simp [Op.bytesLess]
 | x::r=>by simp [Op.bytesLess,qd2 r]
theorem qfa:∀ {a b:List UInt8},Op.bytesLess b a=false→Op.bytesLess a b=true∨a=b
 | [],[],_=> .inr rfl
 | [],_::_,_=> .inl (by simp [Op.bytesLess])
 | _::_,[],h=>by simp [Op.bytesLess] at h
 | x::r,y::t,h=>by
  simp only [Op.bytesLess,Bool.or_eq_false_iff,Bool.and_eq_false_iff,decide_eq_false_iff_not,beq_eq_false_iff_ne] at h;by_cases hxy:x=y
  ·subst hxy;have h2:Op.bytesLess t r=false:=by
    rcases h.2 with h3 | h3
    ·exact absurd rfl h3
    ·exact h3
   rcases qfa h2 with h4 | h4
   ·exact .inl (by simp [Op.bytesLess,h4])
   ·exact .inr (by rw [h4])
  ·have hlt:x<y:=by
    rcases UInt8.lt_or_lt_of_ne hxy with h3 | h3
    ·exact h3
    ·exact absurd h3 h.1
   exact .inl (by simp [Op.bytesLess,hlt])
def qar (l:List (List UInt8)) (s:List UInt8):List (List UInt8):=(l.filter (fun x=>Op.bytesLess x s)++[s])++l.filter (fun x=>Op.bytesLess s x)
theorem qco (f:List UInt8→Bool) {l:List (List UInt8)} {k:Nat} (h:k<l.length):(l.take (k+1)).filter f=(l.take k).filter f++(if f l[k]=true then [l[k]] else []):=by
 rw [List.take_succ_eq_append_getElem h,List.filter_append]
 congr 1
 cases hf:f l[k] with
 | true=>rw [List.filter_cons,if_pos hf,if_pos rfl];rfl
 | false=>rw [List.filter_cons,if_neg (by rw [hf];simp),if_neg (by simp)];rfl
theorem cF (l:List (List UInt8)) (k:Nat) (h:k<l.length):(aD l)[k]? = some (.string (ae l[k])):=by
 unfold aD;rw [List.getElem?_map,List.getElem?_eq_getElem h];rfl
def qjN (ps:List (List UInt8)) (w:World) (e:Ending) (w':World):Prop:=
 ∃ x,e = .returned x∧w'.ownsRow w.heap.size 9 1 x ps.length (aD ps)∧Below w.heap.size w w'
theorem qfj (v:Value) (l:List (List UInt8)) (s:List UInt8) (w:World) (hv:Rd w w.heap.size v (aD l)) (hn:l.length≤2000000000000) :
  Calls Tryz.prog 29 #[v,.string (ae s)] w (qjN (qar l s) w):=by
 obtain ⟨i1,hj,hy0,hy1,hy2⟩:=info_parts qkX;obtain ⟨A,c,rfl,hx⟩:=hv;have HX:=zh hx;rw [aY];obtain ⟨n,hln⟩:∃ n,l.length=n:=⟨_,rfl⟩
 have HLEN:=zh hln;have HBD:=zh (show n≤2000000000000 by rw [←hln];exact hn);have hn2:n≤2000000000000:=HBD.out;obtain ⟨S,hS⟩:∃ S,ae s=S:=⟨_,rfl⟩
 have HSC:=zh (show [Value.string S]=aD [s] by rw [←hS];rfl);have HSL:=zh (show S.toList=s by rw [←hS,ay]);rw [hln,hS];clear hx hln hn hS;go_enter Tryz.func29,Tryz.ntmps29;go_wp2_with fail;go_loopw [5,6] (fun so si wr=>∃ (k:Nat) (o:List (List UInt8)),si = .int .i64 (k:Int)∧k≤n∧Aside (o=(l.take k).filter (fun x=>Op.bytesLess x s))∧Aside (wr.ownsRow w.heap.size 9 1 so o.length (aD o))∧Aside (Below w.heap.size w wr)) (fun _ si _=>n-(intOf si).toNat)
 case atStart=>exact ⟨0,[],rfl,by omega,(show _=_ by simp),(show World.ownsRow _ _ _ _ _ _ _ from World.ownsRow_nil _ _ _ _),(show Below _ _ _ from Below.refl _ _)⟩
 case round=>
  obtain ⟨k,o,rfl,hk,ho,hr,hb⟩:=hrel;have HOE:=zh ho.out;have HR:=zh hr.out;have HE:=zh hb.out;have HOL:=zh (show o.length≤4000000000002 by
   rw [HOE.out];have h1:=List.length_filter_le (fun x=>Op.bytesLess x s) (l.take k);have h2:=List.length_take_le k l;have h3:=Nat.zero_le 0;have h4:=HLEN.out;have h5:=HBD.out
   (try simp only [List.length_append,List.length_cons,List.length_nil])
   omega)
  clear ho hr hb;by_cases hlt:k<n
  ·have t1:decide ((k:Int)<(n:Int))=true:=zT (by omega);have t2:decide (k<n)=true:=zT hlt;have k0:(0:Int)≤(k:Int):=by omega
   have k1:(k:Int)<(n:Int):=by omega
   have k2:((k:Int)).toNat=k:=by omega
   have hkl:k<l.length:=by rw [HLEN.out];exact hlt
   have HTK:=zh (qco (fun x=>Op.bytesLess x s) hkl);obtain ⟨ad,rfl,had,hc⟩:=HX.out (by rw [aY];omega);have ap:=(HE.out.cell (p:=ad.add k) (by rw [qbM];exact had)).trans (hc k _ (cF l k hkl));obtain ⟨q,hq⟩:∃ q,l[k]=q:=⟨_,rfl⟩
   obtain ⟨Y,hY⟩:∃ Y,ae q=Y:=⟨_,rfl⟩
   rw [hq] at ap HTK;rw [hY] at ap;have HY:=zh (show [Value.string Y]=aD [q] by rw [←hY];rfl);have HYL:=zh (show Y.toList=q by rw [←hY,ay]);clear hq hY hc;by_cases hx:(fun x=>Op.bytesLess x s) q=true
   ·have d1:Op.bytesLess Y.toList S.toList=true:=by rw [HYL.out,HSL.out];exact hx
    go_wp2_with (at_builtin;refine wpList_append_lies _ rfl _ _ 29 rfl w.heap.size 9 i1 _ 1 16 Tryz.underlying29 hj hy0 hy1 hy2 (by rfl) (by decide) u5 o.length (aD o) rfl (HR.out.alloc _) ⟨wr.heap.size,0,none⟩ 1 1 [.string Y] rfl rfl (aN _ _ _) (by intro u hu;simp at hu;subst hu;rfl) (by decide) (by have:=HOL.out;unfold maxLen;omega) (by have:=HOL.out;omega) (by have:=HE.out.size;simp;omega) _ rfl ?_;intro g cap w2 hown2 hg2 hat hgl)
    have HO2:=zh (show w2.ownsRow w.heap.size 9 1 (.slice (some ⟨g,0,none⟩) (o.length+1) cap) (o++[q]).length (aD (o++[q])) by
     rw [HY.out] at hown2;rw [List.length_append,aD,List.map_append];exact hown2)
    have HB2:=zh (show Below w.heap.size w w2 from (HE.out.alloc HE.out.size _).grown hg2 (by have:=HE.out.size;simp;omega) (fun k hk=>(HR.out.lt k hk).1));clear hown2 hg2 hat;go_wp2_with fail;go_roundw
    case rel=>exact ⟨k+1,o++[q],by go_num,by omega,(show _=_ by rw [HTK.out,if_pos hx,HOE.out];(try simp only [List.append_assoc])),HO2.out,HB2.out⟩
    case measure=>simp [intOf];omega
   ·have d1:Op.bytesLess Y.toList S.toList=false:=by rw [HYL.out,HSL.out];simpa using hx
    go_wp2_with fail;go_roundw
    case rel=>exact ⟨k+1,o,by go_num,by omega,(show _=_ by rw [HTK.out,if_neg hx,HOE.out,List.append_nil]),HR.out,HE.out⟩
    case measure=>simp [intOf];omega
  ·have t1:decide ((k:Int)<(n:Int))=false:=zF (by omega);have t2:decide (k<n)=false:=zF hlt;have HOF:=zh (show o=l.filter (fun x=>Op.bytesLess x s) by rw [HOE.out,List.take_of_length_le (by rw [HLEN.out];omega)]);obtain ⟨o0,ho0⟩:∃ o0,o=o0:=⟨_,rfl⟩
   subst ho0;go_wp2_with (at_builtin;refine wpList_append_lies _ rfl _ _ 29 rfl w.heap.size 9 i1 _ 1 16 Tryz.underlying29 hj hy0 hy1 hy2 (by rfl) (by decide) u5 o.length (aD o) rfl (HR.out.alloc _) ⟨wr.heap.size,0,none⟩ 1 1 [.string S] rfl rfl (aN _ _ _) (by intro u hu;simp at hu;subst hu;rfl) (by decide) (by have:=HOL.out;unfold maxLen;omega) (by have:=HOL.out;omega) (by have:=HE.out.size;simp;omega) _ rfl ?_;intro g cap w2 hown2 hg2 hat hgl)
   have HO2:=zh (show w2.ownsRow w.heap.size 9 1 (.slice (some ⟨g,0,none⟩) (o.length+1) cap) (o++[s]).length (aD (o++[s])) by
    rw [HSC.out] at hown2;rw [List.length_append,aD,List.map_append];exact hown2)
   have HB2:=zh (show Below w.heap.size w w2 from (HE.out.alloc HE.out.size _).grown hg2 (by have:=HE.out.size;simp;omega) (fun k hk=>(HR.out.lt k hk).1));clear hown2 hg2 hat t1 t2 hlt hk;go_wp2_with fail;go_loopw [5,7] (fun so si wr=>∃ (k:Nat) (o:List (List UInt8)),si = .int .i64 (k:Int)∧k≤n∧Aside (o=(l.filter (fun x=>Op.bytesLess x s)++[s])++(l.take k).filter (fun x=>Op.bytesLess s x))∧Aside (wr.ownsRow w.heap.size 9 1 so o.length (aD o))∧Aside (Below w.heap.size w wr)) (fun _ si _=>n-(intOf si).toNat)
   case atStart=>exact ⟨0,o++[s],rfl,by omega,(show _=_ by rw [HOF.out];simp),HO2.out,HB2.out⟩
   case round=>
    obtain ⟨k,o,rfl,hk,ho,hr,hb⟩:=hrel;have HOE:=zh ho.out;have HR:=zh hr.out;have HE:=zh hb.out;have HOL:=zh (show o.length≤4000000000002 by
     rw [HOE.out];have h1:=List.length_filter_le (fun x=>Op.bytesLess s x) (l.take k);have h2:=List.length_take_le k l;have h3:=List.length_filter_le (fun x=>Op.bytesLess x s) l;have h4:=HLEN.out;have h5:=HBD.out
     (try simp only [List.length_append,List.length_cons,List.length_nil])
     omega)
    clear ho hr hb;by_cases hlt:k<n
    ·have t1:decide ((k:Int)<(n:Int))=true:=zT (by omega);have t2:decide (k<n)=true:=zT hlt;have k0:(0:Int)≤(k:Int):=by omega
     have k1:(k:Int)<(n:Int):=by omega
     have k2:((k:Int)).toNat=k:=by omega
     have hkl:k<l.length:=by rw [HLEN.out];exact hlt
     have HTK:=zh (qco (fun x=>Op.bytesLess s x) hkl);obtain ⟨ad,rfl,had,hc⟩:=HX.out (by rw [aY];omega);have ap:=(HE.out.cell (p:=ad.add k) (by rw [qbM];exact had)).trans (hc k _ (cF l k hkl));obtain ⟨q,hq⟩:∃ q,l[k]=q:=⟨_,rfl⟩
     obtain ⟨Y,hY⟩:∃ Y,ae q=Y:=⟨_,rfl⟩
     rw [hq] at ap HTK;rw [hY] at ap;have HY:=zh (show [Value.string Y]=aD [q] by rw [←hY];rfl);have HYL:=zh (show Y.toList=q by rw [←hY,ay]);clear hq hY hc;by_cases hx:(fun x=>Op.bytesLess s x) q=true
     ·have d1:Op.bytesLess Y.toList S.toList=false:=by rw [HYL.out,HSL.out];exact Sm.qa0 hx
      have d2:(Y.toList==S.toList)=false:=by rw [HYL.out,HSL.out];exact beq_eq_false_iff_ne.2 (Ne.symm (Sm.qgI hx))
      have d3:¬Y.toList=S.toList:=by rw [HYL.out,HSL.out];exact Ne.symm (Sm.qgI hx)
      go_wp2_with (at_builtin;refine wpList_append_lies _ rfl _ _ 29 rfl w.heap.size 9 i1 _ 1 16 Tryz.underlying29 hj hy0 hy1 hy2 (by rfl) (by decide) u5 o.length (aD o) rfl (HR.out.alloc _) ⟨wr.heap.size,0,none⟩ 1 1 [.string Y] rfl rfl (aN _ _ _) (by intro u hu;simp at hu;subst hu;rfl) (by decide) (by have:=HOL.out;unfold maxLen;omega) (by have:=HOL.out;omega) (by have:=HE.out.size;simp;omega) _ rfl ?_;intro g cap w2 hown2 hg2 hat hgl)
      have HO2:=zh (show w2.ownsRow w.heap.size 9 1 (.slice (some ⟨g,0,none⟩) (o.length+1) cap) (o++[q]).length (aD (o++[q])) by
       rw [HY.out] at hown2;rw [List.length_append,aD,List.map_append];exact hown2)
      have HB2:=zh (show Below w.heap.size w w2 from (HE.out.alloc HE.out.size _).grown hg2 (by have:=HE.out.size;simp;omega) (fun k hk=>(HR.out.lt k hk).1));clear hown2 hg2 hat;go_wp2_with fail;go_roundw
      case rel=>exact ⟨k+1,o++[q],by go_num,by omega,(show _=_ by rw [HTK.out,if_pos hx,HOE.out];(try simp only [List.append_assoc])),HO2.out,HB2.out⟩
      case measure=>simp [intOf];omega
     ·rcases qfa (a:=q) (b:=s) (by simpa using hx) with h3 | h3
      ·have d1:Op.bytesLess Y.toList S.toList=true:=by rw [HYL.out,HSL.out];exact h3
       go_wp2_with fail;go_roundw
       case rel=>exact ⟨k+1,o,by go_num,by omega,(show _=_ by rw [HTK.out,if_neg hx,HOE.out,List.append_nil]),HR.out,HE.out⟩
       case measure=>simp [intOf];omega
      ·have d1:Op.bytesLess Y.toList S.toList=false:=by rw [HYL.out,HSL.out,h3];exact qd2 s
       have d2:(Y.toList==S.toList)=true:=by rw [HYL.out,HSL.out,h3];exact beq_self_eq_true _
       have d3:Y.toList=S.toList:=by rw [HYL.out,HSL.out,h3]
       go_wp2_with fail;go_roundw
       case rel=>exact ⟨k+1,o,by go_num,by omega,(show _=_ by rw [HTK.out,if_neg hx,HOE.out,List.append_nil]),HR.out,HE.out⟩
       case measure=>simp [intOf];omega
    ·have t1:decide ((k:Int)<(n:Int))=false:=zF (by omega);have t2:decide (k<n)=false:=zF hlt;have HOF:=zh (show o=(l.filter (fun x=>Op.bytesLess x s)++[s])++l.filter (fun x=>Op.bytesLess s x) by rw [HOE.out,List.take_of_length_le (by rw [HLEN.out];omega)]);go_wp2_with fail;go_ret;rw [HOF.out] at HR;refine ⟨_,rfl,?_,HE.out⟩;have e:qar l s=((l.filter (fun x=>Op.bytesLess x s)++[s])++l.filter (fun x=>Op.bytesLess s x)):=rfl;rw [e];exact HR.out
end Bk
namespace Bk
open Go.Proofs Go.RowKit Utf
open Tr (ltN qbI qgb)
open Cd (mem fst qbO)
open Re (V)
theorem qdk:∀ a b:List UInt8,Op.bytesLess a b=ltN a b
 | [],[]=>by simp [Op.bytesLess,ltN,Lib.compareBytes]
 | [],_::_=>by simp [Op.bytesLess,ltN,Lib.compareBytes]
 | _::_,[]=>by simp [Op.bytesLess,ltN,Lib.compareBytes]
 | x::r,y::t=>by
  have ih:=qdk r t;unfold ltN at ih ⊢;rw [Op.bytesLess,Lib.compareBytes,ih];by_cases h1:x<y
  ·rw [if_pos h1];simp [h1]
  ·rw [if_neg h1];by_cases h2:y<x
   ·rw [if_pos h2];have h3:x≠y:=fun e=>by rw [e] at h2;exact absurd h2 (UInt8.lt_irrefl _)
    simp [h1,h3]
   ·rw [if_neg h2];have h3:x=y:=UInt8.le_antisymm (UInt8.not_lt.1 h2) (UInt8.not_lt.1 h1);simp [h3]
abbrev qcG (l:List (List UInt8)):Prop:=l.Pairwise fun a b=>ltN a b=true
theorem qcM (l:List (List UInt8)) (s n:List UInt8):n∈qar l s↔n∈l∨n=s:=by
 unfold qar;simp only [List.mem_append,List.mem_filter,List.mem_singleton,qdk];constructor
 ·rintro ((⟨h, -⟩ | h) | ⟨h, -⟩)
  ·exact .inl h
  ·exact .inr h
  ·exact .inl h
 ·rintro (h | h)
  ·cases h1:ltN n s with
   | true=>exact .inl (.inl ⟨h,rfl⟩)
   | false=>
    cases h2:ltN s n with
    | true=>exact .inr ⟨h,rfl⟩
    | false=>exact .inl (.inr (qgb h1 h2))
  ·exact .inl (.inr h)
theorem qcV {l:List (List UInt8)} (h:qcG l) (s:List UInt8):qcG (qar l s):=by
 unfold qar qcG;simp only [qdk];rw [List.pairwise_append,List.pairwise_append];refine ⟨⟨h.sublist List.filter_sublist,List.pairwise_singleton _ _,fun a ha b hb=>?_⟩,h.sublist List.filter_sublist,fun a ha b hb=>?_⟩
 ·rw [List.mem_singleton] at hb;rw [hb];exact (List.mem_filter.1 ha).2
 ·have hb2:=(List.mem_filter.1 hb).2;rcases List.mem_append.1 ha with ha | ha
  ·exact qbI.trans _ _ _ (List.mem_filter.1 ha).2 hb2
  ·rw [List.mem_singleton] at ha;rw [ha];exact hb2
theorem qcP (l:List (List UInt8)) (s:List UInt8) (_h:qcG l):(qar l s).length≤l.length+1:=by
 unfold qar;rw [List.length_append,List.length_append];have key:∀ q:List (List UInt8),(q.filter (fun x=>Op.bytesLess x s)).length+(q.filter (fun x=>Op.bytesLess s x)).length≤q.length:=fun q=>by
  induction q with
  | nil=>simp
  | cons a r ih=>
   rw [List.filter_cons,List.filter_cons];cases h1:Op.bytesLess a s with
   | true=>
    rw [Sm.qa0 h1];simp only [if_pos,List.length_cons];simp only [Bool.false_eq_true,if_false];omega
   | false=>
    simp only [Bool.false_eq_true,if_false];split <;> simp only [List.length_cons] <;> omega
 have:=key l;simp only [List.length_cons,List.length_nil];omega
def bP (P:List (List UInt8×V)):List (List UInt8):=P.foldl (fun o m=>if aC m.1 m.2=true then o else qar o m.1) []
theorem qec (P:List (List UInt8×V)) (m:List UInt8×V):bP (P++[m])=if aC m.1 m.2=true then bP P else qar (bP P) m.1:=by
 unfold bP;rw [List.foldl_append];rfl
theorem qaL (P:List (List UInt8×V)):qcG (bP P)∧(bP P).length≤P.length∧∀ n,n∈bP P↔∃ m∈P,m.1=n∧aC m.1 m.2=false:=by
 have key:∀ k,k≤P.length→qcG (bP (P.take k))∧(bP (P.take k)).length≤k∧∀ n,n∈bP (P.take k)↔∃ m∈P.take k,m.1=n∧aC m.1 m.2=false:=by
  intro k;induction k with
  | zero=>intro _;rw [List.take_zero];exact ⟨List.Pairwise.nil,Nat.le_refl _,fun n=>by simp [bP]⟩
  | succ k ih=>
   intro hk;obtain ⟨h1,h2,h3⟩:=ih (by omega);rw [List.take_succ_eq_append_getElem (show k<P.length by omega),qec];cases hm:aC P[k].1 P[k].2 with
   | true=>
    rw [if_pos rfl];refine ⟨h1,by omega,fun n=>?_⟩;rw [h3 n];constructor
    ·rintro ⟨m,a,b⟩;exact ⟨m,List.mem_append_left _ a,b⟩
    ·rintro ⟨m,a,b,c⟩;rcases List.mem_append.1 a with a | a
     ·exact ⟨m,a,b,c⟩
     ·rw [List.mem_singleton.1 a,hm] at c;cases c
   | false=>
    rw [if_neg (by simp)];refine ⟨qcV h1 _,by have:=qcP (bP (P.take k)) P[k].1 h1;omega,fun n=>?_⟩;rw [qcM,h3 n];constructor
    ·rintro (⟨m,a,b⟩ | h)
     ·exact ⟨m,List.mem_append_left _ a,b⟩
     ·exact ⟨P[k],List.mem_append_right _ (by simp),h.symm,hm⟩
    ·rintro ⟨m,a,b,c⟩;rcases List.mem_append.1 a with a | a
     ·exact .inl ⟨m,a,b,c⟩
     ·rw [List.mem_singleton.1 a] at b;exact .inr b.symm
 have:=key P.length (Nat.le_refl _);rwa [List.take_length] at this
def cR (v:V):List (List UInt8):=if ah∈Tr.inN v then bP (if v.k=6 then mem v else []) else qar (bP (if v.k=6 then mem v else [])) ah
theorem qfl (v:V):qcG (cR v)∧∀ n,n∈cR v↔bI v n=true:=by
 obtain ⟨h1,h2,h3⟩:=qaL (if v.k=6 then mem v else []);unfold cR Tr.inN at *;by_cases hk:v.k=6
 ·simp only [if_pos hk] at *;by_cases hn:ah∈v.ns
  ·rw [if_pos hn];refine ⟨h1,fun n=>?_⟩;rw [h3 n,cV hk];constructor
   ·exact .inl
   ·rintro (h | ⟨-,h⟩)
    ·exact h
    ·exact absurd hn h
  ·rw [if_neg hn];refine ⟨qcV h1 _,fun n=>?_⟩;rw [qcM,h3 n,cV hk];exact or_congr Iff.rfl ⟨fun h=>⟨h,hn⟩,fun h=>h.1⟩
 ·simp only [if_neg hk] at *;rw [if_neg (by simp)];refine ⟨qcV h1 _,fun n=>?_⟩;rw [qcM,h3 n,qeS hk];simp
