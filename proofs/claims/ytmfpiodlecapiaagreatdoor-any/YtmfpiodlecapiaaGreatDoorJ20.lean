import Derived.RowKit3
import Derived.Test.YtmfpiodlecapiaaGreatDoorJ19
import Derived.Conc.CrowdTrace
set_option maxHeartbeats 2000000
set_option maxRecDepth 100000
namespace Go.Proofs.YtmfpiodlecapiaaGreatDoor
open Go.RowKit
def iA(es:List MapEntry)(l:List (Nat×Nat)):Prop:=es.map (fun e=>(e.key,e.val))=l.map fun x=>((Value.int .i64 (x.1:Int)),(Value.pointer (some ⟨x.2,0,none⟩)))
def getM(l:List (Nat×Nat))(id:Nat):Option Nat:=(l.find? fun x=>x.1==id).map (·.2)
def QA(o:Option Nat):Value:=.pointer (o.map fun b=>⟨b,0,none⟩)
theorem qU:∀(es:List MapEntry) (l:List (Nat×Nat)) (id k:Nat),iA es l->∃r,Instr.findNow (.int .i64) (.int .i64 (id:Int)) es k=some r/\r.map (·.2)=(getM l id).map (fun b=>Value.pointer (some ⟨b,0,none⟩))
 | [],[],id,k,_=>⟨none,rfl,rfl⟩
 | [],x::l,id,k,h=>by simp[iA]at h
 |e::es,[],id,k,h=>by simp[iA]at h
 |e::es,x::l,id,k,h=>by
  simp only[iA,List.map_cons,List.cons.injEq,Prod.mk.injEq]at h;obtain⟨⟨h1,h2⟩,h3⟩:=h;have ih:=qU es l id (k+1) h3;simp only[Instr.findNow,h1,Instr.sameNow,if_true];by_cases he:(id:Int)=(x.1:Int)
  ·have e1:((id:Int)==(x.1:Int))=true:=by simpa using he
   have e2:(x.1==id)=true:=by simp;omega
   refine⟨some (k,e.val),by rw[e1],?_⟩;simp[getM,e2,h2]
  ·have e1:((id:Int)==(x.1:Int))=false:=by simpa using he
   have e2:(x.1==id)=false:=by simp;omega
   rw[e1];obtain⟨r,h4,h5⟩:=ih;refine⟨r,h4,?_⟩;rw[h5];simp[getM,e2]
theorem Bo(n:Nat)(b:Bool)(v:Int)(w:World):(Instr.checkKey b (n+1) 3 (.int .i64 v)).run Tryz.prog w= .ok () w:=by
 simp[Instr.checkKey,run_underlying Tryz.underlying3]
theorem nQ(w:World){r:Nat}{es:Array MapEntry}{clock id:Nat}{l:List (Nat×Nat)}(hr:w.heap[r]? =some (.map es clock))(hm:iA es.toList l):
  (Instr.lookup 80 (.map (some r)) (.int .i64 (id:Int)) false).run Tryz.prog w= .ok (QA (getM l id)) w:=by
 obtain⟨x,h1,h2⟩:=qU es.toList l id 0 hm;have hk:∀b,(Instr.checkKey b 10000 3 (.int .i64 (id:Int))).run Tryz.prog w= .ok () w:=fun b=>Bo 9999 b _ w;have hg:(getObj r).run Tryz.prog w= .ok (.map es clock) w:=by simp[getObj,Sem.run,hr]
 have hf:(Instr.findKey 3 (.int .i64 (id:Int)) es.toList).run Tryz.prog w= .ok x w:=by
  simp[Instr.findKey,run_underlying Tryz.underlying3,h1]
 unfold Instr.lookup;simp only[Sem.run_bind,run_underlying Tryz.underlying80,Result.andThen_ok,hg,Sem.run_pure,hk,hf];cases x with
 |none=>
  have:getM l id=none:=by simpa using h2.symm
  simp[this,QA,Tryz.zeroValue97]
 |some y=>
  obtain⟨i,v⟩:=y;cases hgm:getM l id with
  |none=>rw[hgm]at h2;simp at h2
  |some b=>
   rw[hgm]at h2;simp only[Option.map_some,Option.some.injEq]at h2;simp[QA,h2]
theorem U0(w:World){r:Nat}{es:Array MapEntry}{clock id:Nat}{l:List (Nat×Nat)}(v:Value)(hr:w.heap[r]? =some (.map es clock))(hm:iA es.toList l)(hn:getM l id=none):
  (Instr.mapUpdate 80 (.map (some r)) (.int .i64 (id:Int)) v).run Tryz.prog w= .ok () {w with heap:=w.heap.setIfInBounds r (.map (es.push ⟨.int .i64 (id:Int),v,clock⟩) (clock+1))}:=by
 obtain⟨x,h1,h2⟩:=qU es.toList l id 0 hm;have hk:(Instr.checkKey false 10000 3 (.int .i64 (id:Int))).run Tryz.prog w= .ok () w:=Bo 9999 false _ w;have hg:(getObj r).run Tryz.prog w= .ok (.map es clock) w:=by simp[getObj,Sem.run,hr]
 have hx:x=none:=by
  rw[hn]at h2;simpa using h2
 subst hx;have hf:(Instr.findKey 3 (.int .i64 (id:Int)) es.toList).run Tryz.prog w= .ok none w:=by
  simp[Instr.findKey,run_underlying Tryz.underlying3,h1]
 unfold Instr.mapUpdate;simp only[Sem.run_bind,run_underlying Tryz.underlying80,Result.andThen_ok,hg,hk,hf];simp[setObj,Sem.run,hr]
theorem Jk{es:Array MapEntry}{l:List (Nat×Nat)}(h:iA es.toList l)(id b born:Nat):iA (es.push ⟨.int .i64 (id:Int),.pointer (some ⟨b,0,none⟩),born⟩).toList (l++ [(id,b)]):=by
 unfold iA at*;simp[h]
open Go.RowKit Go.Deep
attribute [local go_sem↓] Go.wp_at_zero Go.wp_at_succ
theorem Cc(w:World){r:Nat}{es:Array MapEntry}{clock:Nat}(hr:w.heap[r]? =some (.map es clock))(ty:TypeId):(Builtin.len_ #[80] ty #[.map (some r)]).run Tryz.prog w= .ok (.int .i64 es.size) w:=by
 have hg:(getObj r).run Tryz.prog w= .ok (.map es clock) w:=by simp[getObj,Sem.run,hr]
 simp[Builtin.len_,run_underlying Tryz.underlying80,hg,goInt]
theorem Jj{es:Array MapEntry}{l:List (Nat×Nat)}(h:iA es.toList l):es.size=l.length:=by
 have:=congrArg List.length h;simpa using this
def fK(w:World)(mr:Nat)(es:Array MapEntry)(clock id ob:Nat):World:= {w with heap:=w.heap.setIfInBounds mr (.map (es.push ⟨.int .i64 (id:Int),.pointer (some ⟨ob,0,none⟩),clock⟩) (clock+1))}
theorem Wx{R:Bool->World->Prop}(mr ob id len sz ms V z n s gb go eH clock:Nat)(es:Array MapEntry)(l:List (Nat×Nat))(w:World)(hmap:w.heap[mr]? =some (.map es clock))(hm:iA es.toList l)(hg:getM l id=some ob)
  (hadd:∀w1,Below w.heap.size w w1->Calls Tryz.prog 83 #[.pointer (some ⟨ob,0,none⟩),dS id len sz ms V z n,.slice (some ⟨gb,go,none⟩) s eH] w1 fun e w'=>∃b,e= .returned (.bool b)/\R b w'):
  Calls Tryz.prog 41 #[.map (some mr),dS id len sz ms V z n,.slice (some ⟨gb,go,none⟩) s eH] w fun e w'=>∃b,e= .returned (.bool b)/\R b w':=by
 unfold dS at*;have HA:=hide hadd;clear hadd;have hmr:mr<w.heap.size:=(Array.getElem?_eq_some_iff.1 hmap).1;have hB1:Hid (Below w.heap.size w (w.alloc (.cells #[.int .i64 id,.int .i64 len,.int .i64 sz,.int .i64 ms,.int .i64 V,.int .i64 z,.int .i64 n] 76))):=(Below.refl _ _).alloc (Nat.le_refl _) _;have hl:(Instr.lookup 80 (.map (some mr)) (.int .i64 (id:Int)) false).run Tryz.prog (w.alloc (.cells #[.int .i64 id,.int .i64 len,.int .i64 sz,.int .i64 ms,.int .i64 V,.int .i64 z,.int .i64 n] 76))= .ok (.pointer (some ⟨ob,0,none⟩)) (w.alloc (.cells #[.int .i64 id,.int .i64 len,.int .i64 sz,.int .i64 ms,.int .i64 V,.int .i64 z,.int .i64 n] 76)):=by
  have:=nQ (w.alloc (.cells #[.int .i64 id,.int .i64 len,.int .i64 sz,.int .i64 ms,.int .i64 V,.int .i64 z,.int .i64 n] 76)) (r:=mr) (es:=es) (clock:=clock) (id:=id) (l:=l) (by rw[blk_alloc_lt _ _ _ hmr];exact hmap) hm;rw[hg]at this;exact this
 clear hmap hm hg;go_enter Tryz.func41,Tryz.ntmps41;go_wp2_with (go_at_call 83;refine(HA.out _ hB1.out).mono ?_;rintro _ w2 ⟨b,rfl,hR⟩;replace hR:=hide hR)
 go_ret;exact⟨b,rfl,hR.out⟩
theorem Pn{R:Bool->World->Prop}(mr id len sz ms V z n s gb go eH clock N:Nat)(hl:len<=2000)(h1:1<=sz)(h2:sz<=16)(h3:1<=ms)(h4:ms<=20)(h5:V<=20)(hN:Hid (Cut.blocks (Cut.pieces len sz) ms=N))(yD:N<=256)(es:Array MapEntry)(l:List (Nat×Nat))(w:World)(hmap:w.heap[mr]? =some (.map es clock))(hm:iA es.toList l)(hg:getM l id=none)(hl8:l.length<8)
  (hadd:∀wA wB g vB pb,Below w.heap.size w wA->mP wA [.int .i64 id,.int .i64 len,.int .i64 sz,.int .i64 ms,.int .i64 V,.int .i64 z,.int .i64 n] len sz ms V g (fun i=>(Cut.sizes len sz ms)[i]?.getD 0) (bW (Cut.sizes len sz ms)) wB N vB pb->wB.heap[mr]? =some (.map es clock)->Calls Tryz.prog 83 #[.pointer (some ⟨wA.heap.size+1,0,none⟩),dS id len sz ms V z n,.slice (some ⟨gb,go,none⟩) s eH] (fK wB mr es clock id (wA.heap.size+1)) fun e w'=>∃b,e= .returned (.bool b)/\R b w'):
  Calls Tryz.prog 41 #[.map (some mr),dS id len sz ms V z n,.slice (some ⟨gb,go,none⟩) s eH] w fun e w'=>∃b,e= .returned (.bool b)/\R b w':=by
 have HA:=hide hadd;clear hadd;have hmr:mr<w.heap.size:=(Array.getElem?_eq_some_iff.1 hmap).1;have hB1:Hid (Below w.heap.size w (w.alloc (.cells #[.int .i64 id,.int .i64 len,.int .i64 sz,.int .i64 ms,.int .i64 V,.int .i64 z,.int .i64 n] 76))):=(Below.refl _ _).alloc (Nat.le_refl _) _;have hH:=aP w #[.int .i64 id,.int .i64 len,.int .i64 sz,.int .i64 ms,.int .i64 V,.int .i64 z,.int .i64 n] 76;have hmA:(w.alloc (.cells #[.int .i64 id,.int .i64 len,.int .i64 sz,.int .i64 ms,.int .i64 V,.int .i64 z,.int .i64 n] 76)).heap[mr]? =some (.map es clock):=by rw[blk_alloc_lt _ _ _ hmr];exact hmap
 have hlk:(Instr.lookup 80 (.map (some mr)) (.int .i64 (id:Int)) false).run Tryz.prog (w.alloc (.cells #[.int .i64 id,.int .i64 len,.int .i64 sz,.int .i64 ms,.int .i64 V,.int .i64 z,.int .i64 n] 76))= .ok (.pointer none) (w.alloc (.cells #[.int .i64 id,.int .i64 len,.int .i64 sz,.int .i64 ms,.int .i64 V,.int .i64 z,.int .i64 n] 76)):=by
  have:=nQ (w.alloc (.cells #[.int .i64 id,.int .i64 len,.int .i64 sz,.int .i64 ms,.int .i64 V,.int .i64 z,.int .i64 n] 76)) (r:=mr) (es:=es) (clock:=clock) (id:=id) (l:=l) hmA hm;rw[hg]at this;exact this
 have hln:=Cc (w.alloc (.cells #[.int .i64 id,.int .i64 len,.int .i64 sz,.int .i64 ms,.int .i64 V,.int .i64 z,.int .i64 n] 76)) hmA 3;have hes:(es.size:Int)<8:=by rw[Jj hm];omega
 have hC:Hid (∃g,True):=⟨0,trivial⟩;have hNw:=hide (xZ id len sz ms V z n N hl h1 h2 h3 h4 h5 hN yD (w.alloc (.cells #[.int .i64 id,.int .i64 len,.int .i64 sz,.int .i64 ms,.int .i64 V,.int .i64 z,.int .i64 n] 76)));have hAs:(w.alloc (.cells #[.int .i64 id,.int .i64 len,.int .i64 sz,.int .i64 ms,.int .i64 V,.int .i64 z,.int .i64 n] 76)).heap.size=w.heap.size+1:=by simp
 have Hlay:Hid (∀wB:World,wB.heap[mr]? =some (.map es clock)->(Instr.mapUpdate 80 (.map (some mr)) (.int .i64 (id:Int)) (.pointer (some ⟨w.heap.size+1+1,0,none⟩))).run Tryz.prog wB= .ok () (fK wB mr es clock id (w.heap.size+1+1))):=fun wB hB=>U0 wB _ hB hm hg;have Hhd:Hid (∀wB:World,Below (w.alloc (.cells #[.int .i64 id,.int .i64 len,.int .i64 sz,.int .i64 ms,.int .i64 V,.int .i64 z,.int .i64 n] 76)).heap.size (w.alloc (.cells #[.int .i64 id,.int .i64 len,.int .i64 sz,.int .i64 ms,.int .i64 V,.int .i64 z,.int .i64 n] 76)) wB->aB wB w.heap.size 76 [.int .i64 id,.int .i64 len,.int .i64 sz,.int .i64 ms,.int .i64 V,.int .i64 z,.int .i64 n]):=fun wB hB=>hH.below hB (by rw[hAs];omega);have Hmp:Hid (∀wB:World,Below (w.alloc (.cells #[.int .i64 id,.int .i64 len,.int .i64 sz,.int .i64 ms,.int .i64 V,.int .i64 z,.int .i64 n] 76)).heap.size (w.alloc (.cells #[.int .i64 id,.int .i64 len,.int .i64 sz,.int .i64 ms,.int .i64 V,.int .i64 z,.int .i64 n] 76)) wB->wB.heap[mr]? =some (.map es clock)):=fun wB hB=>by rw[hB.block mr (by rw[hAs];omega)];exact hmA
 have Hrw:Hid (∀wB:World,aB wB w.heap.size 76 [.int .i64 id,.int .i64 len,.int .i64 sz,.int .i64 ms,.int .i64 V,.int .i64 z,.int .i64 n]->aB (fK wB mr es clock id (w.heap.size+1+1)) w.heap.size 76 [.int .i64 id,.int .i64 len,.int .i64 sz,.int .i64 ms,.int .i64 V,.int .i64 z,.int .i64 n]):=fun wB hr=>by
  refine hr.of_block ?_;simp only[fK];rw[Array.getElem?_setIfInBounds_ne (by omega)]
 unfold dS at*;clear hmap hmA;go_enter Tryz.func41,Tryz.ntmps41;go_wp2_with first|(go_at_call 81;refine(jD _ _).mono ?_;rintro _ _ ⟨rfl,rfl⟩)|(go_at_call 82;refine hNw.out.mono ?_;rintro _ w2 ⟨g,vB,pb,rfl,hI⟩;have hmB:=Hmp.out w2 hI.below;have hrB:=Hhd.out w2 hI.below;have hly:=Hlay.out w2 hmB;have c0:=hrB.cell 0 _ rfl;have Us:=Hrw.out w2 hrB;have d0:=Us.cell 0 _ rfl;have d1:=Us.cell 1 _ rfl;have d2:=Us.cell 2 _ rfl;have d3:=Us.cell 3 _ rfl;have d4:=Us.cell 4 _ rfl;have d5:=Us.cell 5 _ rfl;have d6:=Us.cell 6 _ rfl;have hAd:=hide (HA.out _ w2 g vB pb hB1.out hI hmB);rw[hAs]at hAd;replace hI:=hide hI;rw[hAs])|(go_at_call 83;refine hAd.out.mono ?_;rintro _ w3 ⟨b,rfl,hR⟩;replace hR:=hide hR)
 go_ret;exact⟨b,rfl,hR.out⟩
end Go.Proofs.YtmfpiodlecapiaaGreatDoor
namespace Go.bB
variable {P:Program}
structure lJ(γ:Type) where
 m:γ
 f:Fr
 fs:List Fr
 w:World
inductive Rk where
 |zero
 |mk (F:lJ Nat->Rk)
def Rk.Lt(r s:Rk):Prop:=∃F i,s= .mk F/\r=F i
theorem Rk.acc(r:Rk):Acc Rk.Lt r:=by
 induction r with
 |zero=>exact⟨_,fun y ⟨F,i,e,_⟩=>by cases e⟩
 |mk F ih=>exact⟨_,fun y ⟨F',i,e,h⟩=>by cases e;subst h;exact ih i⟩
def Rk.ofNat:Nat->Rk
 |0=>.zero
 |n+1=>.mk fun _=>Rk.ofNat n
theorem Rk.ofNat_lt(n:Nat):Rk.Lt (Rk.ofNat n) (Rk.ofNat (n+1)):=⟨fun _=>Rk.ofNat n,⟨0,⟨0,#[],[],false⟩,[],default⟩,rfl,rfl⟩
inductive GA:List Rk->List Rk->Prop
 |here {r r':Rk} {l:List Rk}:Rk.Lt r' r->GA (r'::l) (r::l)
 |there {r:Rk} {l l':List Rk}:GA l' l->GA (r::l') (r::l)
theorem VY{r:Rk}(hr:Acc Rk.Lt r):∀{l:List Rk},Acc GA l->Acc GA (r::l):=by
 induction hr with
 |intro r _ ihr=>
  intro l hl;induction hl with
  |intro l hl ihl=>
   refine⟨_,fun y hy=>?_⟩;cases hy with
   |here h=>exact ihr _ h ⟨_,hl⟩
   |there h=>exact ihl _ h
theorem SN:∀l:List Rk,Acc GA l
 | []=>⟨_,fun y hy=>by cases hy⟩
 |r::l=>VY r.acc (SN l)
def GF(n:Nat)(r' r:Nat->Rk):Prop:=∃i,i<n/\Rk.Lt (r' i) (r i)/\∀j,j≠i->r' j=r j
theorem Xe:∀(l:List Nat) (r' r:Nat->Rk) (i:Nat),l.Nodup->i∈l->Rk.Lt (r' i) (r i)->(∀j,j≠i->r' j=r j)->GA (l.map r') (l.map r)
 | [],_,_,_,_,h,_,_=>by cases h
 |a::l,r',r,i,hn,hi,hl,ho=>by
  simp only[List.map_cons];obtain⟨h1,h2⟩:=List.nodup_cons.1 hn;by_cases e:a=i
  ·subst e;have:l.map r'=l.map r:=List.map_congr_left fun j hj=>ho j (fun e=>h1 (e▸hj));rw[this];exact .here hl
  ·rw[ho a e];exact .there (Xe l r' r i h2 (by rcases List.mem_cons.1 hi with h|h;exact absurd h.symm e;exact h) hl ho)
theorem YI(n:Nat)(r:Nat->Rk):Acc (GF n) r:=by
 have:∀l,Acc GA l->∀r:Nat->Rk,(List.range n).map r=l->Acc (GF n) r:=by
  intro l hl;induction hl with
  |intro l _ ih=>
   intro r e;refine⟨_,fun r' ⟨i,hi,h1,h2⟩=>ih _ ?_ r' rfl⟩;rw[<-e];exact Xe _ _ _ i List.nodup_range (List.mem_range.2 hi) h1 h2
 exact this _ (SN _) r rfl
def LT(n:Nat)(a b:Nat×(Nat->Rk)):Prop:=a.1<b.1\/(a.1=b.1/\GF n a.2 b.2)
theorem ZC(n:Nat):WellFounded (LT n):=by
 refine⟨fun⟨s,r⟩=>?_⟩;induction s using Nat.strongRecOn generalizing r with
 |_ s ih=>
  have h:=YI n r;induction h with
  |intro r _ ihr=>
   refine⟨_,fun⟨s',r'⟩ h=>?_⟩;rcases h with h|⟨h1,h2⟩
   ·exact ih s' h r'
   ·simp only at h1 h2;subst h1;exact ihr _ h2
section
variable (P:Program) (Node:lJ Nat->(lJ Nat->Prop)->Prop) (Stop:lJ Nat->Prop)
inductive WT:lJ Nat->Prop
 |stop {s:lJ Nat}:Stop s->WT s
 |step {s:lJ Nat}:(∀τ d,∃f' fs' w' es,aG P s.f s.fs (s.w.re τ d)= .go f' fs' w' es)->(∀τ d f' fs' w' es,aG P s.f s.fs (s.w.re τ d)= .go f' fs' w' es->WT ⟨s.m,f',fs',w'⟩)->WT s
 |node {s:lJ Nat} {Next:lJ Nat->Prop}:Node s Next->(∀s',Next s'->WT s')->WT s
def Zh:Rk->lJ Nat->Prop
 | .zero,s=>Stop s
 | .mk F,s=>Stop s\/(∀τ d,∃f' fs' w' es,aG P s.f s.fs (s.w.re τ d)= .go f' fs' w' es/\Zh (F ⟨s.m,f',fs',w'⟩) ⟨s.m,f',fs',w'⟩)\/
  ∃Next,Node s Next/\∀s',Next s'->Zh (F s') s'
end
section
variable {Node:lJ Nat->(lJ Nat->Prop)->Prop} {Stop Stop':lJ Nat->Prop} {s:lJ Nat}
theorem WT.XL(h:WT P Node Stop s):∃r,Zh P Node Stop r s:=by
 classical
 induction h with
 |stop h=>exact⟨.zero,h⟩
 |@step s h1 _ ih=>
  have hc:∀x:lJ Nat,∃r,(∃τ d es,aG P s.f s.fs (s.w.re τ d)= .go x.f x.fs x.w es)->Zh P Node Stop r ⟨s.m,x.f,x.fs,x.w⟩:=by
   intro x;by_cases hx:∃τ d es,aG P s.f s.fs (s.w.re τ d)= .go x.f x.fs x.w es
   ·obtain⟨τ,d,es,e⟩:=hx;obtain⟨r,hr⟩:=ih τ d _ _ _ _ e;exact⟨r,fun _=>hr⟩
   ·exact⟨.zero,fun h=>absurd h hx⟩
  refine⟨.mk fun x=>Classical.choose (hc x),.inr (.inl fun τ d=>?_)⟩;obtain⟨f',fs',w',es,e⟩:=h1 τ d;exact⟨f',fs',w',es,e,Classical.choose_spec (hc ⟨s.m,f',fs',w'⟩) ⟨τ,d,es,e⟩⟩
 |@node s Next h _ ih=>
  have hc:∀x:lJ Nat,∃r,Next x->Zh P Node Stop r x:=by
   intro x;by_cases hx:Next x
   ·obtain⟨r,hr⟩:=ih x hx;exact⟨r,fun _=>hr⟩
   ·exact⟨.zero,fun h=>absurd h hx⟩
  exact⟨.mk fun x=>Classical.choose (hc x),.inr (.inr ⟨Next,h,fun s' hs=>Classical.choose_spec (hc s') hs⟩)⟩
end
end Go.bB
namespace Go.bB
open Go.Ren Go.Conc
variable {P:Program} {X A:FuncId->Bool} {K:FuncId->Nat->Nat}
def Ac(ρ:Array Nat)(p:World)(c:Nat):Prop:=∃b i,ρ[b]? =some c/\(p.cell? ⟨b,i,none⟩).isSome=true
def Own(ρ:Array Nat)(p:World)(c:Nat):Prop:=∃b,ρ[b]? =some c/\Wr p b
theorem Own.vis{ρ:Array Nat}{p:World}{c:Nat}(h:Own ρ p c):Ac ρ p c:=let⟨b,h1,i,h2,_⟩:=h;⟨b,i,h1,h2⟩
theorem PD{ρ:Array Nat}{p u u':World}(h:WR ρ p u)(hs:u.heap.size<=u'.heap.size)(hv:∀c,Ac ρ p c->u'.heap[c]? =u.heap[c]?):WR ρ (p.re u'.tape u'.drawn) u':=by
 have hc:∀b i c,ρ[b]? =some c->(p.cell? ⟨b,i,none⟩).isSome=true->u'.cell? ⟨c,i,none⟩=u.cell? ⟨c,i,none⟩/\u'.frozen? ⟨c,i,none⟩=u.frozen? ⟨c,i,none⟩:=by
  intro b i c h1 h2;have e:=hv c ⟨b,i,h1,h2⟩;exact⟨by simp only[World.cell?,e],by simp only[World.frozen?,e]⟩
 refine⟨h.size,h.rows,h.inj,fun b c x=>Nat.lt_of_lt_of_le (h.low b c x) hs,fun b i v hb=>?_,fun b i c h1 h2 h3=>?_,rfl,rfl⟩
 ·obtain⟨c,v',h1,h2,h3⟩:=h.cell b i v hb;exact⟨c,v',h1,by rw[(hc b i c h1 (by rw[show p.cell? ⟨b,i,none⟩=some v from hb];rfl)).1];exact h2,h3⟩
 ·rw[(hc b i c h3 h1).2];exact h.free b i c h1 h2 h3
theorem SI{ρ ρ':Array Nat}{p u p' u':World}(h:WR ρ p u)(g:Grow ρ p u ρ' p' u'){c:Nat}(hv:Ac ρ' p' c):Ac ρ p c\/u.heap.size<=c:=by
 obtain⟨b,i,h1,h2⟩:=hv;rcases Nat.lt_or_ge b p.heap.size with hlt|hge
 ·have hx:b<ρ.size:=by rw[h.size];exact hlt
  have e:ρ[b]? =some ρ[b]:=Array.getElem?_eq_getElem hx;have:=g.ext _ _ e;rw[h1]at this;obtain rfl:=Option.some.inj this;exact .inl ⟨b,i,e,(g.vJ b i hlt).1▸h2⟩
 ·exact .inr (g.fresh b c hge h1)
theorem SK{ρ ρ':Array Nat}{p u p' u':World}(h:WR ρ p u)(g:Grow ρ p u ρ' p' u'){c:Nat}(hv:Own ρ' p' c):Own ρ p c\/u.heap.size<=c:=by
 obtain⟨b,h1,h2⟩:=hv;rcases Nat.lt_or_ge b p.heap.size with hlt|hge
 ·have hx:b<ρ.size:=by rw[h.size];exact hlt
  have e:ρ[b]? =some ρ[b]:=Array.getElem?_eq_getElem hx;have:=g.ext _ _ e;rw[h1]at this;obtain rfl:=Option.some.inj this;exact .inl ⟨b,e,(g.wr hlt).1 h2⟩
 ·exact .inr (g.fresh b c hge h1)
theorem OB{ρ ρ':Array Nat}{p u p' u':World}(h:WR ρ p u)(g:Grow ρ p u ρ' p' u'){c:Nat}(hv:Ac ρ p c):Ac ρ' p' c:=by
 obtain⟨b,i,h1,h2⟩:=hv;have hlt:b<p.heap.size:=h.size▸lt_of_some h1;exact⟨b,i,g.ext _ _ h1,(g.vJ b i hlt).1.symm▸h2⟩
theorem OC{ρ ρ':Array Nat}{p u p' u':World}(h:WR ρ p u)(g:Grow ρ p u ρ' p' u'){c:Nat}(hv:Own ρ p c):Own ρ' p' c:=by
 obtain⟨b,h1,h2⟩:=hv;have hlt:b<p.heap.size:=h.size▸lt_of_some h1;exact⟨b,g.ext _ _ h1,(g.wr hlt).2 h2⟩
theorem F4{ρ ρ':Array Nat}{p u p' u':World}(g:Grow ρ p u ρ' p' u'){c:Nat}(hc:c<u.heap.size)(hn:¬Own ρ p c):u'.heap[c]? =u.heap[c]? :=g.keep c hc fun b hb hw=>hn ⟨b,hb,hw⟩
def EvF(ρ:Array Nat)(p:World)(e:Event):Prop:=
 (∃c i wr,e=⟨.cell ⟨c,i,none⟩,wr,false⟩/\Ac ρ p c/\(wr=true->Own ρ p c))\/e=⟨.mark .noRoom,false,true⟩\/∃f,e=⟨.mark (.extern f),false,true⟩
theorem Tj{ρ:Array Nat}{p:World}{e:Event}(h:Wv ρ p e):EvF ρ p e:=by
 rcases h with⟨b,c,i,wr,h1,h2,h3,h4⟩|h|h
 ·exact .inl ⟨c,i,wr,h1,⟨b,i,h2,h3⟩,fun hw=>⟨b,h2,i,h3,h4 hw⟩⟩
 ·exact .inr (.inl h)
 ·exact .inr (.inr h)
structure mQ(P:Program)(X A:FuncId->Bool)(K:FuncId->Nat->Nat)(ρ:Array Nat)(p:World)(f:Fr)(fs:List Fr)(f':Fr)(fs':List Fr)(u:World):Prop where
 st:ze P X A K ρ f fs f' fs'
 wr:WR ρ (p.re u.tape u.drawn) u
theorem mQ.other{ρ:Array Nat}{p u u':World}{f f':Fr}{fs fs':List Fr}(h:mQ P X A K ρ p f fs f' fs' u)(hs:u.heap.size<=u'.heap.size)(hv:∀c,Ac ρ p c->u'.heap[c]? =u.heap[c]?):mQ P X A K ρ p f fs f' fs' u':=
 ⟨h.st,(PD h.wr hs hv:WR ρ ((p.re u.tape u.drawn).re u'.tape u'.drawn) u')⟩
theorem mQ.step(hC:Closed P X A K){main:Bool}{C:Ctx}(hk:C.kind≠.early){ρ:Array Nat}{p u:World}{f f' f1:Fr}{fs fs' fs1:List Fr}{p1:World}{es:Array Event}(h:mQ P X A K ρ p f fs f' fs' u)
  (e:aG P f fs (p.re u.tape u.drawn)= .go f1 fs1 p1 es):
  ∃iy Gn Dc u1 es',stepG P main (bP C f' fs') u= .go (bP C Gn Dc) u1 es'/\mQ P X A K iy p1 f1 fs1 Gn Dc u1/\
   u.heap.size<=u1.heap.size/\(∀c,c<u.heap.size->¬Own ρ p c->u1.heap[c]? =u.heap[c]?)/\u1.os=u.os/\u1.output=u.output/\u1.tape=u.tape/\
   (∀c,Ac iy p1 c->Ac ρ p c\/u.heap.size<=c)/\(∀c,Own iy p1 c->Own ρ p c\/u.heap.size<=c)/\(∀c,Ac ρ p c->Ac iy p1 c)/\(∀c,Own ρ p c->Own iy p1 c)/\Ext ρ iy/\
   (∀c,Ac iy p1 c->c<u1.heap.size)/\(NV u->NV u1)/\∀e∈es',EvF iy p1 e:=by
 have:=Bf hC h.st h.wr;rw[e]at this;obtain⟨iy,Gn,Dc,u1,es',e1,h1,h2,h3,h4⟩:=this;have ht:u1.tape=p1.tape:=h2.tape;have hd:u1.drawn=p1.drawn:=h2.drawn;refine⟨iy,Gn,Dc,u1,es',rJ hk h.st.wf' e1,⟨h1,?_⟩,h3.GL,fun c hc hn=>F4 h3 hc hn,h3.os,h3.output,h3.tape,fun c hc=>SI h.wr h3 hc,fun c hc=>SK h.wr h3 hc,fun c hc=>OB h.wr h3 hc,fun c hc=>OC h.wr h3 hc,h3.ext,?_,h3.nv,fun x hx=>Tj (h4 x hx)⟩
 ·rw[ht,hd];exact h2
 ·rintro c ⟨b,i,hb,_⟩;exact h2.low b c hb
end Go.bB
namespace Go.iw
open Go.Conc Go.ConcN
def Ua(Wg:Nat)(l:Loc):Prop:=∃a,l= .cell a/\a.block=Wg
structure Sep(Shun:Loc->Prop)(Wk:Nat->Prop)(Ow Vs:Nat->Nat->Prop)(Wg B:Nat):Prop where
 sees:∀k c,Ow k c->Vs k c
 apart:∀k k' c,Wk k->Wk k'->k≠k'->Ow k c->¬Vs k' c
 low:∀k c,Wk k->Vs k c->c<B
 grp:∀k c,Wk k->Vs k c->c≠Wg
 shun:∀k c i,Wk k->Vs k c->¬Shun (.cell ⟨c,i,none⟩)
 pos:∀k,Wk k->k≠0
structure TI(Shun:Loc->Prop)(Wk:Nat->Prop)(Ow Vs:Nat->Nat->Prop)(Wg B:Nat)(t:Trace):Prop where
 nr:∀said,¬Race said t
 own:∀k c i,Wk k->Ow k c->Perm t k (.cell ⟨c,i,none⟩)
 rd:∀k c i,Wk k->Vs k c->PermW t k (.cell ⟨c,i,none⟩)
 zero:∀i a,touchAt t i=some a->a.loc.isMemory=true->Knows t 0 i\/((Shun a.loc\/Ua Wg a.loc)/\a.kind= .atomic)\/
  ∃k c j,Wk k/\t.g? i=some k/\a.loc= .cell ⟨c,j,none⟩/\a.kind= .plain/\Vs k c/\(a.write=true->Ow k c)
 calm:∀i a,touchAt t i=some a->Ua Wg a.loc->a.kind≠.plain
 low:∀op∈t,op.act.low B
section
variable {Shun:Loc->Prop} {Wk:Nat->Prop} {Ow Vs Ow' Vs':Nat->Nat->Prop} {Wg B B':Nat} {t u:Trace}
theorem yF(h:∀op∈t,op.act.low B){c i:Nat}(hc:B<=c){j:Nat}{a:Touch}(ha:touchAt t j=some a):a.loc≠.cell ⟨c,i,none⟩:=by
 intro e;obtain⟨op,ho,hoa⟩:=touch_of ha;have hl:=h op (Array.mem_of_getElem? ho);have key:∀(x:MemAct),x.touch? =some a->x.low B->False:=by
  intro x hx hxl;cases x with
  |access ev=>
   simp only[MemAct.touch?,Option.some.injEq]at hx;subst hx;simp only at e;simp only[MemAct.low,e,Loc.low]at hxl;omega
  |mark m=>
   cases m<;>simp only[MemAct.touch?,Option.some.injEq]at hx<;>first
    |cases hx;done
    |(subst hx
      simp only[Loc.cell.injEq]at e;subst e;simp only[MemAct.low]at hxl;omega)
  |_=>cases hx
 exact key _ hoa hl
theorem TI.grow(h:TI Shun Wk Ow Vs Wg B t)(ho:∀k c,Wk k->Ow' k c->Ow k c\/B<=c)(hv:∀k c,Wk k->Vs' k c->Vs k c\/B<=c)(ho':∀k c,Ow k c->Ow' k c)(hv':∀k c,Vs k c->Vs' k c)(hB:B<=B'):TI Shun Wk Ow' Vs' Wg B' t:=by
 refine⟨h.nr,fun k c i hk hc=>?_,fun k c i hk hc=>?_,fun i a ha hm=>?_,h.calm,fun op hop=>MemAct.low_mono hB (h.low op hop)⟩
 ·rcases ho k c hk hc with hc|hc
  ·exact h.own k c i hk hc
  ·exact fun j a ha e=>absurd e (yF h.low hc ha)
 ·rcases hv k c hk hc with hc|hc
  ·exact h.rd k c i hk hc
  ·exact fun j a ha e=>absurd e (yF h.low hc ha)
 ·rcases h.zero i a ha hm with h1|h1|⟨k,c,j,h1,h2,h3,h4,h5,h6⟩
  ·exact .inl h1
  ·exact .inr (.inl h1)
  ·exact .inr (.inr ⟨k,c,j,h1,h2,h3,h4,hv' k c h5,fun w=>ho' k c (h6 w)⟩)
theorem nC{Wk:Nat->Prop}{Ow Vs:Nat->Nat->Prop}(h:TI Shun Wk Ow Vs Wg B t)
  (hu:∀op∈u,∀a,op.act.touch? =some a->a.loc.isMemory=true->op.g=0\/((Shun a.loc\/Ua Wg a.loc)/\a.kind= .atomic)\/∃c j,Wk op.g/\a.loc= .cell ⟨c,j,none⟩/\a.kind= .plain/\Vs op.g c/\(a.write=true->Ow op.g c)):
  ∀i a,touchAt (t++u) i=some a->a.loc.isMemory=true->Knows (t++u) 0 i\/((Shun a.loc\/Ua Wg a.loc)/\a.kind= .atomic)\/
  ∃k c j,Wk k/\(t++u).g? i=some k/\a.loc= .cell ⟨c,j,none⟩/\a.kind= .plain/\Vs k c/\(a.write=true->Ow k c):=by
 intro i a ha hm;obtain⟨x,hx,hxa⟩:=touch_of ha;rcases getElem?_append_cases hx with⟨hi,hx'⟩|⟨_,hxu⟩
 ·rcases h.zero i a (by rw[touchAt_of hx'];exact hxa) hm with h1|h1|⟨k,c,j,h1,h2,h3⟩
  ·exact .inl (h1.app u)
  ·exact .inr (.inl h1)
  ·exact .inr (.inr ⟨k,c,j,h1,by rw[Go.Conc.g?_old hi];exact h2,h3⟩)
 ·rcases hu x hxu a hxa hm with h1|h1|⟨c,j,h1,h2⟩
  ·have:=knows_own hx;rw[h1]at this;exact .inl this
  ·exact .inr (.inl h1)
  ·exact .inr (.inr ⟨x.g,c,j,h1,by simp[Trace.g?,hx],h2⟩)
theorem oM(h:TI Shun Wk Ow Vs Wg B t)(hu:∀op∈u,∀a,op.act.touch? =some a->Ua Wg a.loc->a.kind≠.plain):∀i a,touchAt (t++u) i=some a->Ua Wg a.loc->a.kind≠.plain:=by
 intro i a ha hw;obtain⟨x,hx,hxa⟩:=touch_of ha;rcases getElem?_append_cases hx with⟨hi,hx'⟩|⟨_,hxu⟩
 ·exact h.calm i a (by rw[touchAt_of hx'];exact hxa) hw
 ·exact hu x hxu a hxa hw
theorem TI.work(S:Sep Shun Wk Ow Vs Wg B)(h:TI Shun Wk Ow Vs Wg B t){k:Nat}(hk:Wk k)(hg:∀op∈u,op.g=k)(hl:∀op∈u,op.act.low B)
  (hu:∀op∈u,∀a,op.act.touch? =some a->∃c j,a.loc= .cell ⟨c,j,none⟩/\a.kind= .plain/\Vs k c/\(a.write=true->Ow k c)):TI Shun Wk Ow Vs Wg B (t++u):=by
 refine⟨fun said=>noRace_append (h.nr said) hg fun i a ha op hop b hb hc=>?_,fun k' c i hk' hc=>(h.own k' c i hk' hc).app fun op hop b hb e=>?_,fun k' c i hk' hc=>(h.rd k' c i hk' hc).app fun op hop b hb e hw=>?_,
  nC h fun op hop a ha _=>?_,oM h fun op hop a ha hw=>?_,seen_app h.low hl⟩
 ·obtain⟨c,j,h1,h2,h3,h4⟩:=hu op hop b hb;cases hbw:b.write with
  |true=>exact h.own k c j hk (h4 hbw) i a ha (hc.1.trans h1)
  |false=>exact h.rd k c j hk h3 i a ha (hc.1.trans h1) (hc.2.2.1.resolve_right (by simp[hbw]))
 ·obtain⟨c1,j,h1,h2,h3,h4⟩:=hu op hop b hb;rw[h1]at e;simp only[Loc.cell.injEq,Addr.mk.injEq,and_true]at e;obtain⟨rfl,rfl⟩:=e;rw[hg op hop];exact Classical.byContradiction fun hne=>S.apart k' k _ hk' hk (Ne.symm hne) hc h3
 ·obtain⟨c1,j,h1,h2,h3,h4⟩:=hu op hop b hb;rw[h1]at e;simp only[Loc.cell.injEq,Addr.mk.injEq,and_true]at e;obtain⟨rfl,rfl⟩:=e;rw[hg op hop];exact Classical.byContradiction fun hne=>S.apart k k' _ hk hk' hne (h4 hw) hc
 ·obtain⟨c1,j,h1,h2,h3,h4⟩:=hu op hop a ha;rw[hg op hop];exact .inr (.inr ⟨c1,j,hk,h1,h2,h3,h4⟩)
 ·obtain⟨c1,j,h1,h2,h3,h4⟩:=hu op hop a ha;obtain⟨x,hx,hxb⟩:=hw;rw[h1]at hx;simp only[Loc.cell.injEq]at hx;subst hx;exact absurd hxb (S.grp k c1 hk h3)
theorem TI.lead(h:TI Shun Wk Ow Vs Wg B t)(hg:∀op∈u,op.g=0)(hl:∀op∈u,op.act.low B)
  (hu:∀op∈u,∀a,op.act.touch? =some a->∃c j,a.loc= .cell ⟨c,j,none⟩/\a.kind= .plain/\c≠Wg/\¬Shun a.loc/\(∀k,Wk k->¬Ow k c)/\(a.write=true->∀k,Wk k->¬Vs k c)):TI Shun Wk Ow Vs Wg B (t++u):=by
 refine⟨fun said=>noRace_append (h.nr said) hg fun i a ha op hop b hb hc=>?_,fun k' c i hk' hc=>(h.own k' c i hk' hc).app fun op hop b hb e=>?_,fun k' c i hk' hc=>(h.rd k' c i hk' hc).app fun op hop b hb e hw=>?_,
  nC h fun op hop a ha _=>.inl (hg op hop),oM h fun op hop a ha hw=>?_,seen_app h.low hl⟩
 ·obtain⟨c,j,h1,h2,h3,h4,h5,h6⟩:=hu op hop b hb;rcases h.zero i a ha hc.2.1 with hz|⟨hz|⟨x,hx,hxb⟩,_⟩|⟨k,c1,j1,z1,z2,z3,z4,z5,z6⟩
  ·exact hz
  ·exact absurd (hc.1▸hz) h4
  ·rw[hc.1,h1]at hx;simp only[Loc.cell.injEq]at hx;subst hx;exact absurd hxb h3
  ·rw[hc.1,h1]at z3;simp only[Loc.cell.injEq,Addr.mk.injEq,and_true]at z3;obtain⟨rfl,rfl⟩:=z3;rcases hc.2.2.1 with hw|hw
   ·exact absurd (z6 hw) (h5 k z1)
   ·exact absurd z5 (h6 hw k z1)
 ·obtain⟨c1,j,h1,h2,h3,h4,h5,h6⟩:=hu op hop b hb;rw[h1]at e;simp only[Loc.cell.injEq,Addr.mk.injEq,and_true]at e;obtain⟨rfl,rfl⟩:=e;exact absurd hc (h5 k' hk')
 ·obtain⟨c1,j,h1,h2,h3,h4,h5,h6⟩:=hu op hop b hb;rw[h1]at e;simp only[Loc.cell.injEq,Addr.mk.injEq,and_true]at e;obtain⟨rfl,rfl⟩:=e;exact absurd hc (h6 hw k' hk')
 ·obtain⟨c1,j,h1,h2,h3,h4,h5,h6⟩:=hu op hop a ha;obtain⟨x,hx,hxb⟩:=hw;rw[h1]at hx;simp only[Loc.cell.injEq]at hx;subst hx;exact absurd hxb h3
theorem TI.group(S:Sep Shun Wk Ow Vs Wg B)(h:TI Shun Wk Ow Vs Wg B t){g:Nat}(hg:∀op∈u,op.g=g)(hl:∀op∈u,op.act.low B)
  (hu:∀op∈u,∀a,op.act.touch? =some a->Ua Wg a.loc/\(a.kind= .atomic\/(a.kind= .said/\g=0))):TI Shun Wk Ow Vs Wg B (t++u):=by
 have off:∀k c i,Wk k->Vs k c->∀op∈u,∀b,op.act.touch? =some b->b.loc≠.cell ⟨c,i,none⟩:=by
  intro k c i hk hc op hop b hb e;obtain⟨⟨x,hx,hxb⟩,_⟩:=hu op hop b hb;rw[e]at hx;simp only[Loc.cell.injEq]at hx;subst hx;exact S.grp k c hk hc hxb
 refine⟨fun said=>noRace_append (h.nr said) hg fun i a ha op hop b hb hc=>?_,fun k' c i hk' hc=>(h.own k' c i hk' hc).app fun op hop b hb e=>absurd e (off k' c i hk' (S.sees k' c hc) op hop b hb),
  fun k' c i hk' hc=>(h.rd k' c i hk' hc).app fun op hop b hb e _=>absurd e (off k' c i hk' hc op hop b hb),
  nC h fun op hop a ha _=>?_,oM h fun op hop a ha _=>?_,seen_app h.low hl⟩
 ·obtain⟨h1,h2⟩:=hu op hop b hb;have hcalm:=h.calm i a ha (hc.1▸h1);rcases h2 with h2|⟨h2,rfl⟩
  ·rcases hc.2.2.2 with x|x|⟨_,_,x⟩
   ·exact absurd x hcalm
   iterate 2 (·rw[h2]at x;cases x)
  ·rcases hc.2.2.2 with x|x|⟨_,x,_⟩
   ·exact absurd x hcalm
   ·rw[h2]at x;cases x
   ·rcases h.zero i a ha hc.2.1 with hz|⟨_,hz⟩|⟨k,c1,j1,z1,z2,z3,z4,z5,z6⟩
    ·exact hz
    ·rw[x]at hz;cases hz
    ·rw[x]at z4;cases z4
 ·obtain⟨h1,h2⟩:=hu op hop a ha;rcases h2 with h2|⟨_,h2⟩
  ·exact .inr (.inl ⟨.inr h1,h2⟩)
  ·exact .inl ((hg op hop).trans h2)
 ·rcases(hu op hop a ha).2 with h2|⟨h2,_⟩<;>rw[h2]<;>simp
theorem TI.mute(h:TI Shun Wk Ow Vs Wg B t)(hn:∀op∈u,op.act.touch? =none)(hl:∀op∈u,op.act.low B):TI Shun Wk Ow Vs Wg B (t++u):=by
 have off:∀op∈u,∀b,op.act.touch? =some b->False:=fun op hop b hb=>by rw[hn op hop]at hb;cases hb
 have nr:∀said,¬Race said (t++u):=by
  rintro said ⟨i,j,hij,⟨a,b,ha,hb,hc⟩,n1,n2⟩;obtain⟨x,hx,hxa⟩:=touch_of ha;obtain⟨y,hy,hyb⟩:=touch_of hb;rcases getElem?_append_cases hy with⟨hj,hy'⟩|⟨_,hyu⟩
  ·have hi:i<t.size:=Nat.lt_trans hij hj;have hx':t[i]? =some x:=by rw[<-getElem?_append_old (u:=u) hi];exact hx
   exact h.nr said ⟨i,j,hij,⟨a,b,by simp[Trace.act?,hx',hxa],by simp[Trace.act?,hy',hyb],hc⟩,fun e=>n1 (hb_app u e),fun e=>n2 (hb_app u e)⟩
  ·exact off y hyu b hyb
 exact⟨nr,fun k' c i hk' hc=>(h.own k' c i hk' hc).app fun op hop b hb e=>(off op hop b hb).elim,fun k' c i hk' hc=>(h.rd k' c i hk' hc).app fun op hop b hb e _=>(off op hop b hb).elim,
  nC h fun op hop a ha _=>(off op hop a ha).elim,oM h fun op hop a ha _=>(off op hop a ha).elim,seen_app h.low hl⟩
theorem TI.objs(h:TI Shun Wk Ow Vs Wg B t)(hg:∀op∈u,op.g=0)(hl:∀op∈u,op.act.low B)(hu:∀op∈u,∀a,op.act.touch? =some a->(∃r,a.loc= .obj r)/\a.kind= .atomic):TI Shun Wk Ow Vs Wg B (t++u):=by
 have QU:∀op∈u,∀a,op.act.touch? =some a->∀x,a.loc≠.cell x:=fun op hop a ha x e=>by obtain⟨⟨r,hr⟩,_⟩:=hu op hop a ha;rw[hr]at e;cases e
 refine⟨fun said=>noRace_append (h.nr said) hg fun i a ha op hop b hb hc=>?_,fun k' c i hk' hc=>(h.own k' c i hk' hc).app fun op hop b hb e=>absurd e (QU op hop b hb _),fun k' c i hk' hc=>(h.rd k' c i hk' hc).app fun op hop b hb e _=>absurd e (QU op hop b hb _),
  nC h fun op hop a ha _=>.inl (hg op hop),oM h fun op hop a ha _=>by rw[(hu op hop a ha).2];simp,seen_app h.low hl⟩
 obtain⟨⟨r,hr⟩,hk⟩:=hu op hop b hb;rcases h.zero i a ha hc.2.1 with hz|⟨_,hz⟩|⟨k,c1,j1,z1,z2,z3,z4,z5,z6⟩
 ·exact hz
 ·rcases hc.2.2.2 with x|x|⟨_,x,_⟩
  ·rw[hz]at x;cases x
  ·rw[hk]at x;cases x
  ·rw[hz]at x;cases x
 ·rw[hc.1,hr]at z3;cases z3
theorem TI.fork(h:TI Shun Wk Ow Vs Wg B t){n:Nat}{YV:Nat->Prop}{x y:MemOp}(hx:x.g=0/\x.act= .go n)(hy:y.g=n/\y.act= .start)(h0:Deaf t 0=0)(hn:Deaf t n=0)(hnw:¬Wk n)
  (hs:∀c i,YV c->¬Shun (.cell ⟨c,i,none⟩)/\c≠Wg/\∀k,Wk k->¬Ow k c):
  TI Shun (fun k=>Wk k\/k=n) (fun k c=>k≠n/\Ow k c) (fun k c=>(k≠n/\Vs k c)\/(k=n/\YV c)) Wg B (t++ #[x,y]):=by
 have hnt:∀op∈#[x,y],op.act.touch? =none:=by
  intro op hop;simp only[List.mem_toArray,List.mem_cons,List.not_mem_nil,or_false]at hop;rcases hop with rfl|rfl
  ·rw[hx.2];rfl
  ·rw[hy.2];rfl
 have hl:∀op∈#[x,y],op.act.low B:=by
  intro op hop;simp only[List.mem_toArray,List.mem_cons,List.not_mem_nil,or_false]at hop;rcases hop with rfl|rfl
  ·rw[hx.2];trivial
  ·rw[hy.2];trivial
 have hm:=h.mute hnt hl;have old:∀{i:Nat} {a:Touch},touchAt (t++ #[x,y]) i=some a->touchAt t i=some a:=by
  intro i a ha;obtain⟨z,hz,hza⟩:=touch_of ha;rcases getElem?_append_cases hz with⟨_,hz'⟩|⟨_,hzu⟩
  ·rw[touchAt_of hz'];exact hza
  ·rw[hnt z hzu]at hza;cases hza
 refine⟨hm.nr,fun k c i hk hc=>hm.own k c i (hk.resolve_right hc.1) hc.2,fun k c i hk hc=>?_,fun i a ha hmem=>?_,hm.calm,hm.low⟩
 ·rcases hc with⟨h1,h2⟩|⟨rfl,h2⟩
  ·exact hm.rd k c i (hk.resolve_right h1) h2
  ·intro j a ha e hw;have ha':=old ha;obtain⟨s1,s2,s3⟩:=hs c i h2;refine fork_knows hx hy h0 hn ?_;rcases h.zero j a ha' (by rw[e];rfl)with hz|⟨hz|⟨z,hz,hzb⟩,_⟩|⟨k',c1,j1,z1,z2,z3,z4,z5,z6⟩
   ·exact hz
   ·exact absurd (e▸hz) s1
   ·rw[e]at hz;simp only[Loc.cell.injEq]at hz;subst hz;exact absurd hzb s2
   ·rw[e]at z3;simp only[Loc.cell.injEq,Addr.mk.injEq,and_true]at z3;obtain⟨rfl,rfl⟩:=z3;exact absurd (z6 hw) (s3 k' z1)
 ·rcases hm.zero i a ha hmem with h1|h1|⟨k,c,j,h1,h2,h3,h4,h5,h6⟩
  ·exact .inl h1
  ·exact .inr (.inl h1)
  ·have hkn:k≠n:=fun e=>hnw (e▸h1);exact .inr (.inr ⟨k,c,j,.inl h1,h2,h3,h4,.inl ⟨hkn,h5⟩,fun w=>⟨hkn,h6 w⟩⟩)
theorem TI.past(h:TI Shun Wk Ow Vs Wg B t){a:Addr}{q:Nat}(all:∀k,Wk k->∃r,RelBy a t k r/\r<q)(hn:NoRelease a t)
  (hq:t.act? q=some (.mark (.acquire a)))(hg:t.g? q=some 0)(hh:t.heard q)(h0:Deaf t 0=0)(over:∀i g,t.g? i=some g->g≠0->t.counts i->Wk g\/∃j,t.g? j=some 0/\HappensBefore t i j):Past (fun l=>Shun l\/Ua Wg l) B t:=by
 have edge:∀k i,Wk k->t.g? i=some k->t.counts i->HappensBefore t i q:=by
  intro k i hk hgi hc;obtain⟨r,hr,hrq⟩:=all k hk;have edge:HappensBefore t r q:=.single (.inr ⟨.marked hrq (.inr hr.act) hq (fun k _ _=>hn k),hr.heard,hh⟩);have hle:i<=r:=Nat.le_of_not_lt fun hlt=>hr.after i hlt hgi hc;rcases Nat.lt_or_ge i r with hlt|hge
  ·exact .trans (.single (.inl ⟨hlt,k,hgi,hr.g⟩)) edge
  ·obtain rfl:i=r:=by omega
   exact edge
 refine⟨h.nr,fun i x hx hm=>?_,fun i g hgi hne hc=>?_,h0,h.low⟩
 ·rcases h.zero i x hx hm with h1|h1|⟨k,c,j,h1,h2,h3,h4,h5,h6⟩
  ·exact .inl h1
  ·exact .inr h1
  ·have hc:t.counts i:=⟨x,hx,hm,.inl (by rw[h4];simp)⟩;obtain⟨z,hz,hzg⟩:=Option.map_eq_some_iff.1 hg;exact .inl ⟨q,z,hz,hzg,.inr (edge k i h1 h2 hc)⟩
 ·rcases over i g hgi hne hc with hk|hk
  ·exact⟨q,hg,edge g i hk hgi hc⟩
  ·exact hk
end
end Go.iw
