import Derived.Maps.RangeWalk
import Derived.Conc.CompanyDraw
import Derived.Test.YtmfpiodlecapiaaGreatDoorJ35
set_option maxHeartbeats 8000000
set_option maxRecDepth 100000
namespace Go.Proofs.YtmfpiodlecapiaaGreatDoor
open Go.RowKit Go.Deep Go.eO
attribute [local go_sem↓] Go.wp_at_zero Go.wp_at_succ
set_option linter.unusedSimpArgs false in
theorem Bc{R:Bool->World->Prop}{Kn Kr:Act->World->Prop}(lb mr pk eH gb go n cap eb:Nat)(hd:Value)(w:World){j2 j3 j6 j7 j9 b7 a6 b6 a9 a2 a5 b4 b0 a0 a7 a3 b1 b3 a1 a4 a8 b2 b5 v8:Value}
  (hpk:w.cell? ⟨pk,0,none⟩=some (.slice (some ⟨gb,go,none⟩) n cap))(hlb:w.cell? ⟨lb,0,none⟩=some (.map (some mr)))
  (hun:∀w1,w1.heap=w.heap->w1.os=w.os->w1.output=w.output->Calls Tryz.prog 35 #[.slice (some ⟨gb,go,none⟩) n cap] w1 fun r w'=>r= .returned (.tuple #[hd,.slice (some ⟨gb,go+10,none⟩) (n-10) (cap-10)])/\Below w1.heap.size w1 w')
  (hadd:∀w1,Below w.heap.size w w1->Calls Tryz.prog 41 #[.map (some mr),hd,.slice (some ⟨gb,go+10,none⟩) (n-10) (cap-10)] w1 fun e w'=>∃b,e= .returned (.bool b)/\R b w')
  (hRl:∀b w',R b w'->w'.cell? ⟨lb,0,none⟩=some (.map (some mr)))
  (hQ:∀b w' h7 h9 h10 h11 h12 Zd Zc Uy h16 ny h18 h19 h20 h21 h22 h23 Lx Lu Ls h27,R b w'->Kn ⟨#[.pointer (some ⟨lb,0,none⟩),.slice (some ⟨pk,0,none⟩) 1 eH,j2,j3,.int .i64 (if b then 1 else 0),.pointer (some ⟨eb,0,none⟩),j6,h7,v8,h9,h10,h11,h12,Zd,Zc,Uy,h16,ny,h18,h19,h20,h21,h22,h23,Lx,Lu,Ls,h27],[]⟩ w'):
  (dP [1,1,0] (Tryz.f20.body.getD .skip)).wp Tryz.prog (CX Kn Kr) ⟨#[.pointer (some ⟨lb,0,none⟩),.slice (some ⟨pk,0,none⟩) 1 eH,j2,j3,.int .i64 0,.pointer (some ⟨eb,0,none⟩),j6,j7,v8,j9,b7,a6,b6,a9,a2,a5,b4,b0,a0,a7,a3,b1,b3,a1,a4,a8,b2,b5],[]⟩ w:=by
 have HQ:=hide hQ;have HU:=hide hun;have HA:=hide hadd;have hAfA:=hide hRl
 clear hQ hun hadd hRl;simp only[Tryz.f20,Option.getD_some,dP];go_wp2;go_loopw [4,11] (fun v x wr=>(v= .int .i64 0/\x= .int .i64 0/\wr=w)\/∃b:Bool,v= .int .i64 (if b then 1 else 0)/\x= .int .i64 1/\R b wr) (fun _ x _=>leftOf 1 (intOf x).toNat)
 case atStart=>exact .inl ⟨rfl,rfl,rfl⟩
 case round=>
  rcases hrel with⟨rfl,rfl,rfl⟩|⟨b,rfl,rfl,hR⟩
  ·have Yr:lb<wr.heap.size:=bG hlb;have hS:wr.drew.cell? ⟨lb,0,none⟩=some (.map (some mr)):=hlb;have hUn:=hide (HU.out wr.drew rfl rfl rfl);have hAfU:Hid (∀w5:World,Below wr.heap.size wr.drew w5->w5.cell? ⟨lb,0,none⟩=some (.map (some mr))):=fun w5 h5=>by rw[h5.cell (show lb<wr.heap.size from Yr)];exact hlb
   have hAd:Hid (∀w5:World,Below wr.heap.size wr.drew w5->Calls Tryz.prog 41 #[.map (some mr),hd,.slice (some ⟨gb,go+10,none⟩) (n-10) (cap-10)] w5 fun e w'=>∃b,e= .returned (.bool b)/\R b w'):=fun w5 h5=>HA.out w5 ⟨h5.os,h5.tape,h5.output,h5.size,h5.block⟩;go_wp2;refine wp_region_held_drew (S:=fun w'=>w'.cell? ⟨lb,0,none⟩=some (.map (some mr))) (by kernel_rfl) hS (fun hS0=>?_);refine wpAnyH_take (i:=0) (v:=?v1) rfl (by kernel_rfl) (by kernel_rfl) (by kernel_rfl) (fun _ _ _ h=>h) (Or.inl ⟨by rfl,?hy1⟩) (by assumption) ?rest1
   case hy1=>(intro wz hSw;go_simp;try (with_reducible rfl))
   try go_frame
   refine wpAnyH_take (i:=1) (v:=?v2) rfl (by kernel_rfl) (by kernel_rfl) (by kernel_rfl) (fun _ _ _ h=>h) (Or.inl ⟨by rfl,?hy2⟩) (by assumption) ?rest2
   case hy2=>(intro wz hSw;go_simp;try (with_reducible rfl))
   try go_frame
   refine wpAnyH_take (i:=2) (v:=?v3) rfl (by kernel_rfl) (by kernel_rfl) (by kernel_rfl) (fun _ _ _ h=>h) (Or.inl ⟨by rfl,?hy3⟩) (by assumption) ?rest3
   case hy3=>(intro wz hSw;go_simp;try (with_reducible rfl))
   try go_frame
   refine wpAnyH_take (i:=3) (v:=?v4) rfl (by kernel_rfl) (by kernel_rfl) (by kernel_rfl) (fun _ _ _ h=>h) (Or.inl ⟨by rfl,?hy4⟩) (by assumption) ?rest4
   case hy4=>(intro wz hSw;have hcz:=hSw;go_simp;try (with_reducible rfl))
   try go_frame
   refine wpAnyH_take (i:=4) (v:=?v5) rfl (by kernel_rfl) (by kernel_rfl) (by kernel_rfl) (fun _ _ _ h=>h) (Or.inl ⟨by rfl,?hy5⟩) (by assumption) ?rest5
   case hy5=>(intro wz hSw;go_simp;try (with_reducible rfl))
   try go_frame
   refine wpAnyH_ready (rs:= [5]) (by kernel_rfl) (by simp) ?_;refine AllReadyH.cons rfl (fun K hK=>?_) ?_
   ·go_simp;go_at_call 35
    refine(hUn.out).mono ?_;rintro _ w5 ⟨rfl,hb5⟩;have hS5:=hAfU.out w5 hb5;replace hb5:=hide hb5
    go_wp2_with fail
    refine hK.out _ _ hS5 (fun hS1=>?_);clear hK K;try go_frame
    refine wpAnyH_take (i:=6) (v:=?v6) rfl (by kernel_rfl) (by kernel_rfl) (by kernel_rfl) (fun _ _ _ h=>h) (Or.inl ⟨by rfl,?hy6⟩) (by assumption) ?rest6
    case hy6=>(intro wz hSw;go_simp;try (with_reducible rfl))
    try go_frame
    refine wpAnyH_take (i:=7) (v:=?v7) rfl (by kernel_rfl) (by kernel_rfl) (by kernel_rfl) (fun _ _ _ h=>h) (Or.inl ⟨by rfl,?hy7⟩) (by assumption) ?rest7
    case hy7=>(intro wz hSw;go_simp;try (with_reducible rfl))
    try go_frame
    refine wpAnyH_ready (rs:= [8]) (by kernel_rfl) (by simp) ?_;refine AllReadyH.cons rfl (fun K hK=>?_) ?_
    ·go_simp;go_at_call 41
     refine(hAd.out w5 hb5.out).mono ?_;rintro _ w6 ⟨b,rfl,hR⟩;have hS6:=hAfA.out b w6 hR;replace hR:=hide hR
     go_wp2_with fail
     refine hK.out _ _ hS6 (fun hS2=>?_);clear hK K;try go_frame
     refine wpAnyH_done (by kernel_rfl) ?_ _;cases b
     ·go_wp2;go_roundw
      case rel=>exact .inr ⟨false,by rfl,by go_num,hR.out⟩
      case measure=>refine aO ?_ ?_<;>simp only[intOf]<;>omega
     ·go_wp2;go_roundw
      case rel=>exact .inr ⟨true,by rfl,by go_num,hR.out⟩
      case measure=>refine aO ?_ ?_<;>simp only[intOf]<;>omega
    exact AllReadyH.nil
   exact AllReadyH.nil
  ·replace hR:=hide hR;cases b
   ·go_wp2;exact HQ.out false wr _ _ _ _ _ _ _ _ _ _ _ _ _ _ _ _ _ _ _ _ hR.out
   ·go_wp2;exact HQ.out true wr _ _ _ _ _ _ _ _ _ _ _ _ _ _ _ _ _ _ _ _ hR.out
end Go.Proofs.YtmfpiodlecapiaaGreatDoor
namespace Go.eO
open Go.Ren Go.bB Go.Conc
variable {P:Program} {Sh:Nat->Prop} {Post:(Nat->Prop)->Goroutine->World->Prop} {b:Frame} {a:Act} {k:List Item} {cs:List Frame} {p:World} {ops:Array Oper}
def Xl(P:Program)(b:Frame)(ops:Array Oper)(k:List Item)(cs:List Frame)(Post:(Nat->Prop)->Goroutine->World->Prop)(Inv:Nat->Array Bool->Act->(Nat->Prop)->World->Prop):Prop:=
 ∀(n:Nat) (listed:Array Bool) (a:Act) (Sh:Nat->Prop) (p:World),Inv n listed a Sh p->
  ((n=0\/Region.ready .any ops listed= [])->aj P Sh (G (b.at a (.inRegion ops []::k)) cs) p Post)/\
  ∀m,n=m+1->∀i∈Region.ready .any ops listed,∀rest,(∀a' Sh' p',Inv m (listed.setIfInBounds i true) a' Sh' p'->aj P Sh' (G (b.at a' (.inRegion ops rest::k)) cs) p' Post)->aj P Sh (G (b.at a (.inRegion ops (i::rest)::k)) cs) p Post
theorem yQ{Inv:Nat->Array Bool->Act->(Nat->Prop)->World->Prop}(hN:Xl P b ops k cs Post Inv):∀(fuel t:Nat) (listed:Array Bool) (a:Act) (Sh:Nat->Prop) (p:World),Inv fuel listed a Sh p->aj P Sh (G (b.at a (.inRegion ops (Region.linearise.go .any ops fuel t listed [])::k)) cs) p Post
 |0,t,listed,a,Sh,p,h=>by
  simp only[Region.linearise.go,List.reverse_nil];exact(hN 0 listed a Sh p h).1 (.inl rfl)
 |fuel+1,t,listed,a,Sh,p,h=>by
  simp only[Region.linearise.go];change aj P Sh (G (b.at a (.inRegion ops (match(Region.ready .any ops listed)[t%(Region.ready .any ops listed).length]? with
   |some i=>Region.linearise.go .any ops fuel (t/(Region.ready .any ops listed).length) (listed.setIfInBounds i true) [i]
   |none=> [].reverse)::k)) cs) p Post
  cases hi:(Region.ready .any ops listed)[t%(Region.ready .any ops listed).length]? with
  |none=>
   have hnil:Region.ready .any ops listed= []:=by
    cases hr:Region.ready .any ops listed with
    |nil=>rfl
    |cons x xs=>
     rw[hr]at hi;have hlt:t%(x::xs).length<(x::xs).length:=Nat.mod_lt _ (by simp);simp at hi;simp at hlt;omega
   exact(hN _ listed a Sh p h).1 (.inr hnil)
  |some i=>
   simp only[];rw[linearise_go_acc,List.reverse_singleton,List.singleton_append];exact(hN _ listed a Sh p h).2 fuel rfl i (List.mem_of_getElem? hi) _ fun a' Sh' p' h'=>yQ hN fuel _ _ a' Sh' p' h'
theorem aj.draw{id:Nat}(hm:P.follows .mixedOrders=true){Inv:Nat->Array Bool->Act->(Nat->Prop)->World->Prop}(h0:Inv ops.size (Array.replicate ops.size false) a Sh p)(hN:Xl P b ops k cs Post Inv):aj P Sh (G (b.at a (.code (.region id ops true)::k)) cs) p Post:=by
 refine .step rfl fun u hps=>⟨_,p,_,#[],stepG_region_draw,⟨hps.size,hps.same,hps.rows,hps.views,rfl,rfl,hps.os,hps.output⟩,Nat.le_refl _,fun e he=>by simp at he,?_⟩;simp only[Region.schedule,hm,Bool.true_or,if_true];exact yQ hN ops.size _ _ a Sh p h0
end Go.eO
namespace Go.eO
open Go.Ren Go.bB Go.Conc
def oK(ops:Array Oper)(i:Nat):List Nat:=((ops[i]?).map fun o=>(o.after.toList.filter fun e=>Region.binds .any e).map (·.on)).getD []
theorem AB{ops:Array Oper}{l:Array Bool}{i:Nat}:i∈Region.ready .any ops l↔i<ops.size/\l.getD i true=false/\∀j∈oK ops i,l.getD j false=true:=by
 unfold Region.ready oK;rw[List.mem_filter,List.mem_range];constructor
 ·rintro⟨h1,h2⟩;simp only[Bool.and_eq_true,Bool.not_eq_eq_eq_not,Bool.not_true]at h2;refine⟨h1,h2.1,fun j hj=>?_⟩;have h3:=h2.2;rw[Array.getElem?_eq_getElem h1]at h3 hj;simp only[Option.map_some,Option.getD_some,List.mem_map,List.mem_filter]at h3 hj;obtain⟨e,⟨he1,he2⟩,rfl⟩:=hj;rw[Array.all_eq_true]at h3;obtain⟨k,hk,rfl⟩:=Array.mem_iff_getElem.1 (show e∈ops[i].after by simpa using he1);have:=h3 k hk;rw[he2]at this;simpa using this
 ·rintro⟨h1,h2,h3⟩;refine⟨h1,?_⟩;rw[Array.getElem?_eq_getElem h1]at h3⊢;simp only[Option.map_some,Option.getD_some,List.mem_map,List.mem_filter]at h3⊢;simp only[h2,Bool.not_false,Bool.true_and];rw[Array.all_eq_true];intro k hk;cases hb:Region.binds .any ops[i].after[k]with
  |false=>rfl
  |true=>
   have:=h3 _ ⟨ops[i].after[k],⟨by simp,hb⟩,rfl⟩;rw[this];rfl
def jy(dst:Nat->Nat)(val:Nat->Value)(T0:Array Value)(l:Nat->Bool):Nat->Array Value
 |0=>T0
 |m+1=>if l m then(jy dst val T0 l m).setIfInBounds (dst m) (val m)else jy dst val T0 l m
variable {dst:Nat->Nat} {val:Nat->Value} {T0:Array Value}
theorem oq(l:Nat->Bool):∀m,(jy dst val T0 l m).size=T0.size
 |0=>rfl
 |m+1=>by
  simp only[jy];split
  ·simp[oq l m]
  ·exact oq l m
theorem pQ(l:Nat->Bool){k:Nat}:∀m,(∀i,i<m->l i=true->dst i≠k)->(jy dst val T0 l m)[k]? =T0[k]?
 |0,_=>rfl
 |m+1,h=>by
  have ih:=pQ l m (fun i hi=>h i (by omega));simp only[jy];split
  ·rename_i hl;rw[Array.getElem?_setIfInBounds_ne (h m (by omega) hl)];exact ih
  ·exact ih
theorem qN(l:Nat->Bool){i:Nat}:∀m,(∀i j,i<m->j<m->dst i=dst j->i=j)->i<m->l i=true->dst i<T0.size->(jy dst val T0 l m)[dst i]? =some (val i)
 |0,_,h,_,_=>by omega
 |m+1,hinj,h,hl,hs=>by
  simp only[jy];by_cases e:i=m
  ·subst e;rw[if_pos hl,Array.getElem?_setIfInBounds_self_of_lt (by rw[oq];exact hs)]
  ·have ih:=qN l m (fun i j h1 h2=>hinj i j (by omega) (by omega)) (by omega:i<m) hl hs;split
   ·rw[Array.getElem?_setIfInBounds_ne (fun e2=>e (hinj m i (by omega) (by omega) e2).symm)];exact ih
   ·exact ih
theorem C8{l l':Nat->Bool}{i m:Nat}(hinj:∀i j,i<m->j<m->dst i=dst j->i=j)(hi:i<m)(hl':l' i=true)(hne:∀j,j≠i->l' j=l j)(hs:∀i,i<m->dst i<T0.size):(jy dst val T0 l m).setIfInBounds (dst i) (val i)=jy dst val T0 l' m:=by
 apply Array.ext_getElem?;intro k;by_cases e:dst i=k
 ·subst e;rw[Array.getElem?_setIfInBounds_self_of_lt (by rw[oq];exact hs i hi),qN l' m hinj hi hl' (hs i hi)]
 ·rw[Array.getElem?_setIfInBounds_ne e];by_cases h:∃j,j<m/\l j=true/\dst j=k
  ·obtain⟨j,h1,h2,rfl⟩:=h;have hji:j≠i:=fun e2=>e (by rw[e2]);rw[qN l m hinj h1 h2 (hs j h1),qN l' m hinj h1 (by rw[hne j hji];exact h2) (hs j h1)]
  ·rw[pQ l m (fun j h1 h2 h3=>h ⟨j,h1,h2,h3⟩),pQ l' m (fun j h1 h2 h3=>?_)];by_cases hji:j=i
   ·subst hji;exact e h3
   ·exact h ⟨j,h1,by rw[<-hne j hji];exact h2,h3⟩
theorem AU{l l':Nat->Bool}:∀m,(∀i,i<m->l i=l' i)->jy dst val T0 l m=jy dst val T0 l' m
 |0,_=>rfl
 |m+1,h=>by simp only[jy,h m (by omega),AU m (fun i hi=>h i (by omega))]
theorem Rl{p:Nat->Prop}(h:∃i,p i):∃i,p i/\∀j,j<i->¬p j:=by
 obtain⟨i,hi⟩:=h;induction i using Nat.strongRecOn with
 |ind i ih=>
  by_cases hx:∃j,j<i/\p j
  ·obtain⟨j,h1,h2⟩:=hx;exact ih j h1 h2
  ·exact⟨i,hi,fun j hj hp=>hx ⟨j,hj,hp⟩⟩
def cnt(l:Nat->Bool):Nat->Nat
 |0=>0
 |m+1=>cnt l m+if l m then 0 else 1
theorem Gw{l l':Nat->Bool}:∀m,(∀i,i<m->l i=l' i)->cnt l m=cnt l' m
 |0,_=>rfl
 |m+1,h=>by simp only[cnt,h m (by omega),Gw m (fun i hi=>h i (by omega))]
theorem LX{l l':Nat->Bool}{i:Nat}(hl:l i=false)(hl':l' i=true)(hne:∀j,j≠i->l' j=l j):∀m,i<m->cnt l m=cnt l' m+1
 |0,h=>by omega
 |m+1,h=>by
  simp only[cnt];by_cases e:i=m
  ·subst e;rw[hl,hl',Gw i (fun j hj=>(hne j (by omega)).symm)];simp
  ·rw[LX hl hl' hne m (by omega),hne m (Ne.symm e)];omega
variable {P:Program} {Sh:Nat->Prop} {Post:(Nat->Prop)->Goroutine->World->Prop} {b:Frame} {k:List Item} {cs:List Frame} {p:World} {ops:Array Oper}
theorem iO{l:Array Bool}{i:Nat}{d:Bool}(h:i<l.size):(l.setIfInBounds i true).getD i d=true:=by
 simp[Array.getD_eq_getD_getElem?,h]
theorem getD_set_ne{l:Array Bool}{i j:Nat}{d:Bool}(h:j≠i):(l.setIfInBounds i true).getD j d=l.getD j d:=by
 simp[Array.getD_eq_getD_getElem?,Array.getElem?_setIfInBounds_ne (Ne.symm h)]
end Go.eO
namespace Go.eO
open Go.Ren Go.bB Go.Conc
theorem KT{dst:Nat->Nat}{v v':Nat->Value}{T0:Array Value}{l:Nat->Bool}:∀m,(∀i,i<m->l i=true->v i=v' i)->jy dst v T0 l m=jy dst v' T0 l m
 |0,_=>rfl
 |m+1,h=>by
  have ih:=KT (dst:=dst) (T0:=T0) m (fun i hi hl=>h i (by omega) hl);simp only[jy,ih];cases hl:l m with
  |false=>rfl
  |true=>rw[h m (by omega) hl]
theorem Gv{l:Nat->Bool}:∀m,cnt l m=0->∀i,i<m->l i=true
 |0,_,i,h=>by omega
 |m+1,hc,i,h=>by
  simp only[cnt]at hc;by_cases e:i=m
  ·subst e;cases hl:l i with
   |true=>rfl
   |false=>rw[hl]at hc;simp at hc
  ·exact Gv m (by omega) i (by omega)
variable {P:Program} {Sh:Nat->Prop} {Post:(Nat->Prop)->Goroutine->World->Prop} {b:FuncId} {k:List Item} {cs:List Frame} {p:World} {ops:Array Oper}
def DrSt{X:Type}(ops:Array Oper)(M c m:Nat)(dst:Nat->Nat)(val:X->Nat->Value)(T0:Array Value)(Wd:Bool->Bool->X->World->Prop)(SX:X->Nat->Prop)(n:Nat)(l:Array Bool)(a:Act)(S:Nat->Prop)(w:World):Prop:=
 ∃x,a=⟨jy dst (val x) T0 (fun i=>l.getD i false) M,[]⟩/\S=SX x/\l.size=M/\n=cnt (fun i=>l.getD i false) M/\Wd (l.getD c false) (l.getD m false) x w/\∀i,i<M->l.getD i false=true->∀j∈oK ops i,l.getD j false=true
theorem aj.YL{X:Type}{SX:X->Nat->Prop}{id M c m:Nat}{dst:Nat->Nat}{val:X->Nat->Value}{T0:Array Value}{Wd:Bool->Bool->X->World->Prop}(hmx:P.follows .mixedOrders=true)(hM:ops.size=M)(WU:c<M)(hmM:m<M)
  (hdst:∀i j,i<M->j<M->dst i=dst j->i=j)(hin:∀i,i<M->dst i<T0.size)(hback:∀i,i<M->∀j∈oK ops i,j<i)(x0:X)(hS0:SX x0=Sh)(h0:Wd false false x0 p)
  (hstep:∀i,i<M->∀(l:Nat->Bool) (x:X) (w:World),l i=false->(∀i,i<M->l i=true->∀j∈oK ops i,l j=true)->(∀j∈oK ops i,l j=true)->Wd (l c) (l m) x w->∀T:Array Value,T.size=T0.size->(∀j∈oK ops i,T[dst j]? =some (val x j))->(∀k,(∀j,j<M->dst j≠k)->T[k]? =T0[k]?)->
   ∀rest,(∀x' w',(∀j,j<M->l j=true->val x' j=val x j)->Wd (l c||i==c) (l m||i==m) x' w'->aj P (SX x') (G ((base b).at ⟨T.setIfInBounds (dst i) (val x' i),[]⟩ (.inRegion ops rest::k)) cs) w' Post)->aj P (SX x) (G ((base b).at ⟨T,[]⟩ (.inRegion ops (i::rest)::k)) cs) w Post)
  (hend:∀x w,Wd true true x w->aj P (SX x) (G ((base b).at ⟨jy dst (val x) T0 (fun _=>true) M,[]⟩ k) cs) w Post):
  aj P Sh (G ((base b).at ⟨T0,[]⟩ (.code (.region id ops true)::k)) cs) p Post:=by
 have hst:DrSt ops M c m dst val T0 Wd SX ops.size (Array.replicate ops.size false) ⟨T0,[]⟩ Sh p:=by
  have hl:∀i,(Array.replicate ops.size false).getD i false=false:=fun i=>by
   rw[Array.getD_eq_getD_getElem?];by_cases h:i<ops.size<;>simp[h]
  have hf:(fun i=>(Array.replicate ops.size false).getD i false)=fun _=>false:=funext hl;have hc:∀n,cnt (fun _=>false) n=n:=fun n=>by
   induction n with
   |zero=>rfl
   |succ n ih=>simp[cnt,ih]
  have ht:∀n,jy dst (val x0) T0 (fun _=>false) n=T0:=fun n=>by
   induction n with
   |zero=>rfl
   |succ n ih=>simp[jy,ih]
  refine⟨x0,by rw[hf,ht],hS0.symm,by simp[hM],by rw[hf,hc,hM],?_,fun i _ h=>by rw[hl]at h;cases h⟩;rw[hl,hl];exact h0
 refine aj.draw hmx hst ?_;rintro n l a S w ⟨x,rfl,rfl,h1,h2,h3,h4⟩;have gt:∀i,i<M->l.getD i true=l.getD i false:=fun i hi=>by
  rw[Array.getD_eq_getD_getElem?,Array.getD_eq_getD_getElem?,Array.getElem?_eq_getElem (by omega)];rfl
 refine⟨fun h=>?_,fun n' hn i hi rest hr=>?_⟩
 ·have hall:∀i,i<M->l.getD i false=true:=by
   rcases h with h|h
   ·exact Gv M (by omega)
   ·intro i hi;cases hb:l.getD i false with
    |true=>rfl
    |false=>
     obtain⟨i',⟨k1,k2⟩,k3'⟩:=Rl (p:=fun i=>i<M/\l.getD i false=false) ⟨i,hi,hb⟩;have:i'∈Region.ready .any ops l:=AB.2 ⟨by omega,by rw[gt i' k1];exact k2,fun j hj=>by
      have hji:=hback i' k1 j hj;cases hbj:l.getD j false with
      |true=>rfl
      |false=>exact absurd ⟨by omega,hbj⟩ (k3' j hji)⟩
     rw[h]at this;cases this
  rw[hall c WU,hall m hmM]at h3;have e:jy dst (val x) T0 (fun i=>l.getD i false) M=jy dst (val x) T0 (fun _=>true) M:=AU M (fun i hi=>hall i hi);rw[e];exact aj.aR (hend x w h3)
 ·obtain⟨r1,r2,r3⟩:=AB.1 hi;rw[hM]at r1;rw[gt i r1]at r2;refine hstep i r1 (fun j=>l.getD j false) x w r2 h4 r3 h3 _ (oq _ M) (fun j hj=>?_) (fun k' hk'=>pQ _ M (fun j hj _=>hk' j hj)) rest (fun x' w' hv hw'=>?_)
  ·have hji:=hback i r1 j hj;exact qN _ M hdst (by omega) (r3 j hj) (hin j (by omega))
  ·rw[KT M (fun j hj hl=>(hv j hj hl).symm),C8 (l':=fun j=>(l.setIfInBounds i true).getD j false) hdst r1 (iO (by omega)) (fun j hj=>getD_set_ne hj) hin];refine hr _ _ _ ⟨x',rfl,rfl,by simpa using h1,?_,?_,fun i' hi' hl' j hj=>?_⟩
   ·have:=LX (l:=fun j=>l.getD j false) (l':=fun j=>(l.setIfInBounds i true).getD j false) r2 (iO (by omega)) (fun j hj=>getD_set_ne hj) M r1;omega
   ·have key:∀j,j<M->(l.setIfInBounds i true).getD j false=(l.getD j false||i==j):=fun j hj=>by
     by_cases e:j=i
     ·subst e;rw[iO (by omega)];simp
     ·rw[getD_set_ne e];have:(i==j)=false:=by simpa using Ne.symm e
      rw[this,Bool.or_false]
    rw[key c WU,key m hmM];exact hw'
   ·by_cases e:i'=i
    ·subst e;have:=hback i' r1 j hj;rw[getD_set_ne (by omega)];exact r3 j hj
    ·rw[getD_set_ne e]at hl';have:=h4 i' hi' hl' j hj;by_cases ej:j=i
     ·subst ej;exact iO (by omega)
     ·rw[getD_set_ne ej];exact this
end Go.eO
namespace Go.Proofs.YtmfpiodlecapiaaGreatDoor
open Go.Conc Go.ConcN Go.RowKit Go.bB Go.Ren Go.eO Go.Deep Go.iw
attribute [local go_sem↓] Go.wp_at_zero Go.wp_at_succ
theorem jh{T:Array Value}{i:Nat}{v:Value}(h:T[i]? =some v)(hi:i<T.size):T[i]'hi=v:=(Array.getElem?_eq_some_iff.1 h).2
def DF:Nat->Nat
 |0=>18
 |1=>19
 |2=>20
 |3=>21
 |4=>22
 |5=>23
 |6=>24
 |7=>25
 |8=>26
 |9=>27
 |10=>17
 |11=>28
 |12=>29
 |13=>7
 |14=>8
 |_=>0
def J9(ob bb N cap V:Nat)(x:(Nat->Prop)×Value×Bool):Nat->Value
 |0=>.pointer (some ⟨ob,0,none⟩)
 |1=>.pointer (some ⟨ob,0,none⟩)
 |2=>.pointer (some ⟨ob,4,none⟩)
 |3=>.slice (some ⟨bb,0,none⟩) N cap
 |4=>.pointer (some ⟨ob,0,none⟩)
 |5=>.pointer (some ⟨ob,0,none⟩)
 |6=>.pointer (some ⟨ob,1,none⟩)
 |7=>.pointer (some ⟨ob,3,none⟩)
 |8=>.int .i64 V
 |9=>.tuple #[x.2.1,.bool x.2.2]
 |10=>.tuple #[x.2.1,.bool x.2.2]
 |11=>x.2.1
 |12=>.bool x.2.2
 |13=>x.2.1
 |14=>.bool x.2.2
 |_=>undef
theorem XU{Sh:Nat->Prop}{Post:(Nat->Prop)->Goroutine->World->Prop}{p:World}{k:List Item}{cs:List Frame}{ob bb N cap V:Nat}{F:(Nat->Prop)->World->Value->Bool->Prop}{T0:Array Value}(hT:T0.size=38)(t6:T0[6]? =some (.pointer (some ⟨ob,0,none⟩)))(hc3:p.cell? ⟨ob,3,none⟩=some (.int .i64 V))(hc4:p.cell? ⟨ob,4,none⟩=some (.slice (some ⟨bb,0,none⟩) N cap)){ops:Array Oper}(hops:ops=(aZ (dP [1,1,1,0] (Tryz.f24.body.getD .skip))))
  (hcall:∀(T:Array Value) rest,T.size=38->T[21]? =some (.slice (some ⟨bb,0,none⟩) N cap)->T[26]? =some (.int .i64 V)->(∀S q v ok,F S q v ok->aj Tryz.prog S (G ((base 24).at ⟨T.setIfInBounds 27 (.tuple #[v,.bool ok]),[]⟩ (.inRegion ops rest::k)) cs) q Post)->aj Tryz.prog Sh (G ((base 24).at ⟨T,[]⟩ (.inRegion ops (9::rest)::k)) cs) p Post)
  (hend:∀S q v ok,F S q v ok->aj Tryz.prog S (G ((base 24).at ⟨jy DF (J9 ob bb N cap V (S,v,ok)) T0 (fun _=>true) 15,[]⟩ k) cs) q Post):
  aj Tryz.prog Sh (G ((base 24).at ⟨T0,[]⟩ (.code (.region 4 ops true)::k)) cs) p Post:=by
 subst hops;have hd:∀i:Fin 15,∀j:Fin 15,DF i=DF j->i=j:=by decide
 have hb:(List.range 15).all (fun i=>(oK (aZ (dP [1,1,1,0] (Tryz.f24.body.getD .skip))) i).all fun j=>decide (j<i))=true:=by kernel_rfl
 have hl:∀i:Fin 15,DF i<38:=by decide
 refine aj.YL (SX:=fun x=>x.1) (c:=9) (m:=9) (M:=15) (dst:=DF) (val:=J9 ob bb N cap V) (Wd:=fun cd _ x w=>(cd=false->w=p/\x.1=Sh)/\(cd=true->F x.1 w x.2.1 x.2.2)) (by kernel_rfl) (by kernel_rfl) (by decide) (by decide) (fun i j hi hj h=>by have:=hd ⟨i,hi⟩ ⟨j,hj⟩ h;exact congrArg Fin.val this) (fun i hi=>by rw[hT];exact hl ⟨i,hi⟩) (fun i hi j hj=>?_) (Sh,undef,false) rfl ⟨fun _=>⟨rfl,rfl⟩,fun h=>by cases h⟩ (fun i hi l x w RQ hcl tZ hW T hTs hT1 VU rest hr=>?_) (fun x w hW=>hend x.1 w x.2.1 x.2.2 (hW.2 rfl))
 ·have h1:=List.all_eq_true.1 hb i (List.mem_range.2 hi);have h2:=List.all_eq_true.1 h1 j hj;simpa using h2
 ·have f6:T[6]? =some (.pointer (some ⟨ob,0,none⟩)):=(VU 6 (fun j hj=>by have:=(by decide:∀j:Fin 15,DF j≠6);exact this ⟨j,hj⟩)).trans t6;have hs:T.size=38:=hTs.trans hT;have e6:=jh f6 (by omega:6<T.size);have i15:i=0\/i=1\/i=2\/i=3\/i=4\/i=5\/i=6\/i=7\/i=8\/i=9\/i=10\/i=11\/i=12\/i=13\/i=14:=by omega
  clear VU;rcases i15 with rfl|rfl|rfl|rfl|rfl|rfl|rfl|rfl|rfl|rfl|rfl|rfl|rfl|rfl|rfl
  ·refine aj.o ak (by kernel_rfl) rfl rfl (fun τ d K hK=>?_);simp only[Tryz.f24,Option.getD_some,dP,aZ]at hr⊢;clear hT1 tZ hb hcl;go_simp;refine hK _ _ (aj.re ?_ τ d);exact hr x _ (fun _ _ _=>rfl) (by simpa using hW)
  ·refine aj.o ak (by kernel_rfl) rfl rfl (fun τ d K hK=>?_);have g:=hT1 0 (of_decide_eq_true (by kernel_rfl));simp only[DF,J9]at g;have eg:=jh g (by omega:18<T.size);simp only[Tryz.f24,Option.getD_some,dP,aZ]at hr⊢;clear hT1 tZ hb hcl;go_simp;refine hK _ _ (aj.re ?_ τ d);exact hr x _ (fun _ _ _=>rfl) (by simpa using hW)
  ·refine aj.o ak (by kernel_rfl) rfl rfl (fun τ d K hK=>?_);have g:=hT1 1 (of_decide_eq_true (by kernel_rfl));simp only[DF,J9]at g;have eg:=jh g (by omega:19<T.size);simp only[Tryz.f24,Option.getD_some,dP,aZ]at hr⊢;clear hT1 tZ hb hcl;go_simp;refine hK _ _ (aj.re ?_ τ d);exact hr x _ (fun _ _ _=>rfl) (by simpa using hW)
  ·refine aj.o ak (by kernel_rfl) rfl rfl (fun τ d K hK=>?_);have g:=hT1 2 (of_decide_eq_true (by kernel_rfl));simp only[DF,J9]at g;have eg:=jh g (by omega:20<T.size);have h9:l 9=false\/l 9=true:=by cases l 9<;>simp
   have hl9:l 9=false:=by
    rcases h9 with h|h
    ·exact h
    ·have:=hcl 9 (by decide) h 3 (of_decide_eq_true (by kernel_rfl));rw[RQ]at this;cases this
   obtain⟨rfl,_⟩:=hW.1 hl9;have cc:(w.re τ d).cell? ⟨ob,4,none⟩=some (.slice (some ⟨bb,0,none⟩) N cap):=hc4;simp only[Tryz.f24,Option.getD_some,dP,aZ]at hr⊢;clear hT1 tZ hb hcl;go_simp;refine hK _ _ (aj.re ?_ τ d);exact hr x _ (fun _ _ _=>rfl) (by simpa using hW)
  ·refine aj.o ak (by kernel_rfl) rfl rfl (fun τ d K hK=>?_);simp only[Tryz.f24,Option.getD_some,dP,aZ]at hr⊢;clear hT1 tZ hb hcl;go_simp;refine hK _ _ (aj.re ?_ τ d);exact hr x _ (fun _ _ _=>rfl) (by simpa using hW)
  ·refine aj.o ak (by kernel_rfl) rfl rfl (fun τ d K hK=>?_);have g:=hT1 4 (of_decide_eq_true (by kernel_rfl));simp only[DF,J9]at g;have eg:=jh g (by omega:22<T.size);simp only[Tryz.f24,Option.getD_some,dP,aZ]at hr⊢;clear hT1 tZ hb hcl;go_simp;refine hK _ _ (aj.re ?_ τ d);exact hr x _ (fun _ _ _=>rfl) (by simpa using hW)
  ·refine aj.o ak (by kernel_rfl) rfl rfl (fun τ d K hK=>?_);have g:=hT1 5 (of_decide_eq_true (by kernel_rfl));simp only[DF,J9]at g;have eg:=jh g (by omega:23<T.size);simp only[Tryz.f24,Option.getD_some,dP,aZ]at hr⊢;clear hT1 tZ hb hcl;go_simp;refine hK _ _ (aj.re ?_ τ d);exact hr x _ (fun _ _ _=>rfl) (by simpa using hW)
  ·refine aj.o ak (by kernel_rfl) rfl rfl (fun τ d K hK=>?_);have g:=hT1 6 (of_decide_eq_true (by kernel_rfl));simp only[DF,J9]at g;have eg:=jh g (by omega:24<T.size);simp only[Tryz.f24,Option.getD_some,dP,aZ]at hr⊢;clear hT1 tZ hb hcl;go_simp;refine hK _ _ (aj.re ?_ τ d);exact hr x _ (fun _ _ _=>rfl) (by simpa using hW)
  ·refine aj.o ak (by kernel_rfl) rfl rfl (fun τ d K hK=>?_);have g:=hT1 7 (of_decide_eq_true (by kernel_rfl));simp only[DF,J9]at g;have eg:=jh g (by omega:25<T.size);have h9:l 9=false\/l 9=true:=by cases l 9<;>simp
   have hl9:l 9=false:=by
    rcases h9 with h|h
    ·exact h
    ·have:=hcl 9 (by decide) h 8 (of_decide_eq_true (by kernel_rfl));rw[RQ]at this;cases this
   obtain⟨rfl,_⟩:=hW.1 hl9;have cc:(w.re τ d).cell? ⟨ob,3,none⟩=some (.int .i64 V):=hc3;simp only[Tryz.f24,Option.getD_some,dP,aZ]at hr⊢;clear hT1 tZ hb hcl;go_simp;refine hK _ _ (aj.re ?_ τ d);exact hr x _ (fun _ _ _=>rfl) (by simpa using hW)
  ·have g3:=hT1 3 (of_decide_eq_true (by kernel_rfl));have g8:=hT1 8 (of_decide_eq_true (by kernel_rfl));obtain⟨rfl,hx⟩:=hW.1 RQ;show aj Tryz.prog x.1 _ _ _;rw[hx];refine hcall T rest hs g3 g8 (fun S q v ok hF=>?_);refine hr (S,v,ok) q (fun j hj hlj=>?_) ⟨fun h=>by simp at h,fun _=>hF⟩;have hn:∀j,10<=j->j<15->l j=true->l 9=true:=fun j h1 h2 h3=>by
    have:j=10\/j=11\/j=12\/j=13\/j=14:=by omega
    rcases this with rfl|rfl|rfl|rfl|rfl
    ·exact hcl 10 (by decide) h3 9 (of_decide_eq_true (by kernel_rfl))
    ·exact hcl 10 (by decide) (hcl 11 (by decide) h3 10 (of_decide_eq_true (by kernel_rfl))) 9 (of_decide_eq_true (by kernel_rfl))
    ·exact hcl 10 (by decide) (hcl 12 (by decide) h3 10 (of_decide_eq_true (by kernel_rfl))) 9 (of_decide_eq_true (by kernel_rfl))
    ·exact hcl 10 (by decide) (hcl 11 (by decide) (hcl 13 (by decide) h3 11 (of_decide_eq_true (by kernel_rfl))) 10 (of_decide_eq_true (by kernel_rfl))) 9 (of_decide_eq_true (by kernel_rfl))
    ·exact hcl 10 (by decide) (hcl 12 (by decide) (hcl 14 (by decide) h3 12 (of_decide_eq_true (by kernel_rfl))) 10 (of_decide_eq_true (by kernel_rfl))) 9 (of_decide_eq_true (by kernel_rfl))
   have hj9:j<9:=by
    by_cases h:j<9
    ·exact h
    ·by_cases h':j=9
     ·subst h';rw[RQ]at hlj;cases hlj
     ·have:=hn j (by omega) hj hlj;rw[RQ]at this;cases this
   have:j=0\/j=1\/j=2\/j=3\/j=4\/j=5\/j=6\/j=7\/j=8:=by omega
   rcases this with rfl|rfl|rfl|rfl|rfl|rfl|rfl|rfl|rfl<;>rfl
  ·refine aj.o ak (by kernel_rfl) rfl rfl (fun τ d K hK=>?_);have g:=hT1 9 (of_decide_eq_true (by kernel_rfl));simp only[DF,J9]at g;have eg:=jh g (by omega:27<T.size);simp only[Tryz.f24,Option.getD_some,dP,aZ]at hr⊢;clear hT1 tZ hb hcl;go_simp;refine hK _ _ (aj.re ?_ τ d);exact hr x _ (fun _ _ _=>rfl) (by simpa using hW)
  iterate 2 (·refine aj.o ak (by kernel_rfl) rfl rfl (fun τ d K hK=>?_);have g:=hT1 10 (of_decide_eq_true (by kernel_rfl));simp only[DF,J9]at g;have eg:=jh g (by omega:17<T.size);simp only[Tryz.f24,Option.getD_some,dP,aZ]at hr⊢;clear hT1 tZ hb hcl;go_simp;refine hK _ _ (aj.re ?_ τ d);exact hr x _ (fun _ _ _=>rfl) (by simpa using hW))
  ·refine aj.o ak (by kernel_rfl) rfl rfl (fun τ d K hK=>?_);have g:=hT1 11 (of_decide_eq_true (by kernel_rfl));simp only[DF,J9]at g;have eg:=jh g (by omega:28<T.size);simp only[Tryz.f24,Option.getD_some,dP,aZ]at hr⊢;clear hT1 tZ hb hcl;go_simp;refine hK _ _ (aj.re ?_ τ d);exact hr x _ (fun _ _ _=>rfl) (by simpa using hW)
  ·refine aj.o ak (by kernel_rfl) rfl rfl (fun τ d K hK=>?_);have g:=hT1 12 (of_decide_eq_true (by kernel_rfl));simp only[DF,J9]at g;have eg:=jh g (by omega:29<T.size);simp only[Tryz.f24,Option.getD_some,dP,aZ]at hr⊢;clear hT1 tZ hb hcl;go_simp;refine hK _ _ (aj.re ?_ τ d);exact hr x _ (fun _ _ _=>rfl) (by simpa using hW)
end Go.Proofs.YtmfpiodlecapiaaGreatDoor
