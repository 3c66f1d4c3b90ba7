import Derived.Test.YtmfpiodlecapiaaGreatDoorJ30
namespace Go.eO
open Go.Ren Go.bB Go.Conc
theorem ND{Sh:Nat->Prop}{u:World}(hr:∀b,Sh b->∃c e fz,u.heap[b]? =some (.cells c e fz))(hv:NV u):∃p,PS Sh p u:=by
 classical
 let emp:Obj->Obj:=fun o=>match o with| .cells _ e fz=>.cells #[] e fz|o=>o
 refine⟨{u with heap:=u.heap.mapIdx fun b o=>if Sh b then emp o else o},by simp,fun b hb=>?_,fun b hb=>?_,fun b o hb=>?_,rfl,rfl,rfl,rfl⟩
 ·simp[hb]
 ·obtain⟨c,e,fz,h⟩:=hr b hb;exact⟨e,fz,fz,c,by simp[h,hb,emp],h⟩
 ·simp only[Array.getElem?_mapIdx]at hb;cases ho:u.heap[b]? with
  |none=>rw[ho]at hb;cases hb
  |some o'=>
   rw[ho]at hb;have hp:=hv b o' ho;simp only[Option.map_some,Option.some.injEq]at hb;subst hb;split
   ·cases o'<;>first|exact hp|exact trivial
   ·exact hp
def Live(o:Obj):Prop:=∀e fz,o≠.cells #[] e fz
theorem PS.live{Sh:Nat->Prop}{p u:World}(h:PS Sh p u){b:Nat}{o:Obj}(hb:p.heap[b]? =some o)(hl:Live o):¬Sh b:=fun hs=>by
 obtain⟨e,fz,_,_,h1,_⟩:=h.rows b hs;rw[h1]at hb;exact hl e fz (Option.some.inj hb).symm
theorem PS.nv{Sh:Nat->Prop}{p u:World}(h:PS Sh p u):NV u:=fun b o hb=>by
 by_cases hs:Sh b
 ·obtain⟨e,fz,vg,c,_,h2⟩:=h.rows b hs;rw[h2]at hb;obtain rfl:=Option.some.inj hb;exact trivial
 ·rw[h.same b hs]at hb;exact h.views b o hb
theorem uo{p:World}{b i:Nat}{v:Value}(h:p.cell? ⟨b,i,none⟩=some v):∃c e fz,p.heap[b]? =some (.cells c e fz)/\c[i]? =some v/\Live (.cells c e fz):=by
 simp only[World.cell?]at h;cases ho:p.heap[b]? with
 |none=>rw[ho]at h;cases h
 |some o=>
  rw[ho]at h;cases o with
  |cells c e fz=>
   have hv:c[i]? =some v:=by simpa using h
   refine⟨c,e,fz,rfl,hv,fun e' vg he=>?_⟩;simp only[Obj.cells.injEq]at he;rw[he.1]at hv;simp at hv
  |_=>simp at h
end Go.eO
namespace Go.Proofs.YtmfpiodlecapiaaGreatDoor
open Go.Conc Go.ConcN Go.RowKit Go.Conc.Lib Go.ConcR.Gen Go.ConcN.Gen Go.iw Go.bB Go.Ren Go.eO
open Go.ConcR (KK wgBlock WgAt stA smA rd wr mk Payload Aside2 DC0)
def ResQ(B0:Nat)(Dz:Nat->List Nat)(z:Nat)(v:Value)(p:World):Prop:=
 ∃da dl dc,v= .slice da dl dc/\dl=(Dz z).length/\(dl≠0->∃b o,da=some ⟨b,o,none⟩/\B0<=b/\∀j,j<dl->p.cell? ⟨b,o+j,none⟩=some (.int .u8 ((Dz z)[j]?.getD 0:Nat)))
structure Un(Sh:Nat->Prop)(p:World)(R Dn N:Nat)(wz:Nat->Bool)(Dz:Nat->List Nat)(ok:Bool)(T:Array Value)(p':World):Prop where
 size:T.size=37
 flag:T[12]? =some (.bool ok)
 grown:p.heap.size<p'.heap.size
 views:∀(b:Nat) o,p'.heap[b]? =some o->Go.Ren.xR b o
 keep:∀b o,p.heap[b]? =some o->Live o->b≠R->b≠Dn->p'.heap[b]? =some o
 old:∀b,b<p.heap.size->¬Sh b->b≠R->b≠Dn->p'.heap[b]? =p.heap[b]?
 os:p'.os=p.os
 output:p'.output=p.output
 no:ok=false->T[11]? =some (.slice none 0 0)/\∃z,z<N/\wz z=false
 yes:ok=true->(∀z,z<N->wz z=true)/\∃cP,T[11]? =some (.slice (some ⟨cP,0,none⟩) N N)/\∃parts:Array Value,p'.heap[cP]? =some (.cells parts 28)/\parts.size=N/\∀z,z<N->∃v,parts[z]? =some v/\ResQ (p.heap.size+1) Dz z v p'
set_option maxRecDepth 100000 in
set_option maxHeartbeats 4000000 in
theorem NJ{Sh:Nat->Prop}{Post:(Nat->Prop)->Goroutine->World->Prop}{p:World}{cs:List Frame}{N bb bo cap cR cD R Dn sR rR sD rD:Nat}{tR tD:Bool}{cS:Addr}{pa:Nat->Option Addr}{pl pc:Nat->Nat}{j1 j2 j4 j5 j8 j9 c8 a5 b1 d7 d0 a4 a9 a6 c9 b9 b8 a3 d9 b7 a1 a2 a7 e4 a8 b2 c7 e3 c0 d1 d8 a0 c2:Value}{wz:Nat->Bool}{Dz:Nat->List Nat}
  (hN:0<N/\N<2147483648)(Ut:∀b,Sh b->b<p.heap.size)(hR:p.heap[R]? =some (.chan 0 #[] false sR rR tR))(hD:p.heap[Dn]? =some (.chan 0 #[] false sD rD tD))(hne:R≠Dn)
  (hcR:p.cell? ⟨cR,0,none⟩=some (.chan (some R)))(YC:p.cell? ⟨cD,0,none⟩=some (.chan (some Dn)))(hbb:∀z,z<N->p.cell? ⟨bb,bo+z,none⟩=some (.slice (pa z) (pl z) (pc z)))(hcS:cS.block<p.heap.size)
  (FU:∀(z cz cp:Nat) (w:World),z<N->(∀b i v,p.cell? ⟨b,i,none⟩=some v->w.heap[b]? =p.heap[b]?)->p.heap.size+1<=w.heap.size->w.heap[cz]? =some (.cells #[.int .i64 z] 3)->w.heap[cp]? =some (.cells #[.slice (pa z) (pl z) (pc z)] 25)->p.heap.size+1<=cz->p.heap.size+1<=cp->cz≠cp->
   ∃Keep:Nat->Bool,Keep cz=true/\(∀b i v,Keep b=true->w.cell? ⟨b,i,none⟩=some v->SV (Array.range w.heap.size) v v)/\(∀b,Keep b=true->b<w.heap.size->∃c e fz,w.heap[b]? =some (.cells c e fz))/\(∀b,Keep b=true->(∃i v,p.cell? ⟨b,i,none⟩=some v)\/b=cz\/b=cp)/\
    WT Tryz.prog (bQ Dn (aZ (aN 2 (Tryz.f187.body.getD .skip)))) (kM R Dn (aZ (kE Tryz.f89)) (je Tryz.f89) (uF (p.heap.size+1) wz Dz) z) ⟨0,⟨J8,nI ⟨p.heap.size,0,none⟩ ⟨cp,0,none⟩ cS ⟨cD,0,none⟩ ⟨cR,0,none⟩ ⟨cz,0,none⟩,[.code (kR Tryz.f89)],false⟩,[],priv Keep w⟩)
  (hpost:∀(ok:Bool) (T:Array Value) (p':World),Un Sh p R Dn N wz Dz ok T p'->aj Tryz.prog (fun b=>Sh b\/b=p.heap.size) (G ((base 46).at ⟨T,[]⟩ [.inRegion (aZ (aN 6 (Tryz.f46.body.getD .skip))) [],.code (bI 7 (Tryz.f46.body.getD .skip))]) cs) p' Post):
  aj Tryz.prog Sh (G ((base 46).at ⟨#[.slice (some ⟨bb,bo,none⟩) N cap,j1,j2,.pointer (some cS),j4,j5,.pointer (some ⟨cR,0,none⟩),.pointer (some ⟨cD,0,none⟩),j8,j9,c8,a5,b1,d7,d0,a4,a9,a6,c9,b9,b8,a3,d9,b7,a1,a2,a7,e4,a8,b2,c7,e3,c0,d1,d8,a0,c2],[]⟩ [.inRegion (aZ (aN 3 (Tryz.f46.body.getD .skip))) [0],.code (bI 4 (Tryz.f46.body.getD .skip))]) cs) p Post:=by
 refine .WB rfl fun u hps=>?_;have hz:u.heap.size=p.heap.size:=hps.size;have hal:stepG Tryz.prog true (G ((base 46).at ⟨#[.slice (some ⟨bb,bo,none⟩) N cap,j1,j2,.pointer (some cS),j4,j5,.pointer (some ⟨cR,0,none⟩),.pointer (some ⟨cD,0,none⟩),j8,j9,c8,a5,b1,d7,d0,a4,a9,a6,c9,b9,b8,a3,d9,b7,a1,a2,a7,e4,a8,b2,c7,e3,c0,d1,d8,a0,c2],[]⟩ [.inRegion (aZ (aN 3 (Tryz.f46.body.getD .skip))) [0],.code (bI 4 (Tryz.f46.body.getD .skip))]) cs) u= .go (G ((base 46).at ⟨#[.slice (some ⟨bb,bo,none⟩) N cap,j1,j2,.pointer (some cS),j4,j5,.pointer (some ⟨cR,0,none⟩),.pointer (some ⟨cD,0,none⟩),.pointer (some ⟨p.heap.size,0,none⟩),j9,c8,a5,b1,d7,d0,a4,a9,a6,c9,b9,b8,a3,d9,b7,a1,a2,a7,e4,a8,b2,c7,e3,c0,d1,d8,a0,c2],[]⟩ [.inRegion (aZ (aN 3 (Tryz.f46.body.getD .skip))) [],.code (bI 4 (Tryz.f46.body.getD .skip))]) cs) (u.alloc (wgBlock link.tWg 0 0)) #[]:=by
  simp only[Tryz.f46,Option.getD_some,aN,bI,aZ];have:=goes_oper_k (P:=Tryz.prog) (main:=true) (w:=u) (cs:=cs) (k:= [.code (bI 4 (Tryz.f46.body.getD .skip))]) (b:=base 46) (a:=⟨#[.slice (some ⟨bb,bo,none⟩) N cap,j1,j2,.pointer (some cS),j4,j5,.pointer (some ⟨cR,0,none⟩),.pointer (some ⟨cD,0,none⟩),j8,j9,c8,a5,b1,d7,d0,a4,a9,a6,c9,b9,b8,a3,d9,b7,a1,a2,a7,e4,a8,b2,c7,e3,c0,d1,d8,a0,c2],[]⟩) (ops:=aZ (aN 3 (Tryz.f46.body.getD .skip))) (i:=0) (rest:= []) (o:=(aZ (aN 3 (Tryz.f46.body.getD .skip)))[0]) (K:=fun g' w' es=>g'=G ((base 46).at ⟨#[.slice (some ⟨bb,bo,none⟩) N cap,j1,j2,.pointer (some cS),j4,j5,.pointer (some ⟨cR,0,none⟩),.pointer (some ⟨cD,0,none⟩),.pointer (some ⟨p.heap.size,0,none⟩),j9,c8,a5,b1,d7,d0,a4,a9,a6,c9,b9,b8,a3,d9,b7,a1,a2,a7,e4,a8,b2,c7,e3,c0,d1,d8,a0,c2],[]⟩ [.inRegion (aZ (aN 3 (Tryz.f46.body.getD .skip))) [],.code (bI 4 (Tryz.f46.body.getD .skip))]) cs/\w'=u.alloc (wgBlock link.tWg 0 0)/\es=#[]) rfl rfl (by decide) (fun K hK=>by
    simp only[Tryz.f46,Option.getD_some,aN,aZ];go_simp;refine hK _ _ ⟨?_,?_,?_⟩
    ·first|rfl|(rw[hz];rfl)
    ·rfl
    ·exact listed_nil (by simp[go_sem,aZ,aN,Tryz.f46]))
  simp only[Tryz.f46,Option.getD_some,aN,bI,aZ]at this;revert this;cases stepG Tryz.prog true _ u with
  |go g' w' es=>rintro⟨rfl,rfl,rfl⟩;rfl
  |_=>exact fun h=>h.elim
 let blk:=wgBlock link.tWg 0 0
 have hps1:PS Sh ((p.alloc blk).re (u.alloc blk).tape (u.alloc blk).drawn) (u.alloc blk):=hps.new (fun b hb=>Ut b hb) (o:=blk) trivial;refine⟨_,p.alloc blk,u.alloc blk,#[],hal,hps1,by rw[Go.Ren.size_alloc];omega,fun e he=>by simp at he,fun gs1 sl1 t1 q1 hb hpast=>?_⟩;have hpast:=hpast rfl;rw[hz]at hpast;have WA:(u.alloc blk).heap.size=p.heap.size+1:=by rw[Go.Ren.size_alloc,hz]
 have U1:∀b o,p.heap[b]? =some o->Live o->(u.alloc blk).heap[b]? =some o/\¬Sh b/\b<p.heap.size:=fun b o h1 h2=>by
  have hn:¬Sh b:=PS.live (p:=p.re u.tape u.drawn) hps h1 h2;have hlt:b<p.heap.size:=(Array.getElem?_eq_some_iff.1 h1).1;have e:=hps.same b hn;refine⟨?_,hn,hlt⟩;rw[Go.Ren.heap_alloc_old (by rw[hz];exact hlt),e];exact h1
 have oldU:∀b,b<p.heap.size->¬Sh b->(u.alloc blk).heap[b]? =p.heap[b]? :=fun b hlt hn=>by
  rw[Go.Ren.heap_alloc_old (by rw[hz];exact hlt)];exact hps.same b hn
 obtain⟨hRu,hRn,hRl⟩:=U1 R _ hR (fun _ _ h=>by cases h);obtain⟨hDu,hDn,hDl⟩:=U1 Dn _ hD (fun _ _ h=>by cases h);have Bq:∀b i v,p.cell? ⟨b,i,none⟩=some v->(u.alloc blk).heap[b]? =p.heap[b]?/\(u.alloc blk).cell? ⟨b,i,none⟩=some v/\¬Sh b/\b<p.heap.size/\b≠R/\b≠Dn:=fun b i v h=>by
  obtain⟨c,e,fz,h1,h2,h3⟩:=uo h;obtain⟨k1,k2,k3⟩:=U1 b _ h1 h3;refine⟨k1.trans h1.symm,?_,k2,k3,fun hh=>?_,fun hh=>?_⟩
  ·simp[World.cell?,k1,h2]
  ·subst hh;rw[hR]at h1;cases h1
  ·subst hh;rw[hD]at h1;cases h1
 let H:Ph:= {P:=Tryz.prog,X:=aW,A:=bn,K:=jf,ty:=link.tWg,Wg:=p.heap.size,R:=R,Dn:=Dn,o:=gs1.size,N:=N,B0:=p.heap.size+1,Shun:=O_ Sh,old:=(fun b=>b<p.heap.size/\¬Sh b/\b≠R/\b≠Dn),aux:=Sh,row0:=(fun b=>(u.alloc blk).heap[b]?),w0:=u,Cx:=DT Tryz.prog.funcs.size [] ⟨p.heap.size,0,none⟩,Node:=(fun _=>bQ Dn (aZ (aN 2 (Tryz.f187.body.getD .skip)))),Stop:=kM R Dn (aZ (kE Tryz.f89)) (je Tryz.f89) (uF (p.heap.size+1) wz Dz),Wn:=YW (p.heap.size+1) wz Dz,Pv:=Ue,Anch:=vD p.heap.size,Fin:=Wu N [.inRegion (aZ (aN 6 (Tryz.f46.body.getD .skip))) [],.code (bI 7 (Tryz.f46.body.getD .skip))] cs}
 have I:IsB H wz Dz cs:=⟨rfl,rfl,rfl,rfl,rfl,rfl,rfl,rfl,rfl,rfl,rfl,rfl,hN,⟨show Dn<p.heap.size+1 by omega,show R<p.heap.size+1 by omega⟩⟩;letI:Payload:=⟨3⟩
 have ZM:WgAt link.tWg p.heap.size (u.alloc blk) 0 0:=by
  have:=Go.Ren.heap_alloc_new (w:=u) (o:=blk);rw[hz]at this;exact this
 have hbas:Zn H (u.alloc blk):=by
  refine⟨⟨fun b _=>rfl,rfl,rfl⟩,Jf (PS.nv hps) trivial,fun b hs=>?_⟩;obtain⟨e,fz,vg,c,_,h2⟩:=hps.rows b hs;have hlt:=Ut b hs;have hrow:(u.alloc blk).heap[b]? =some (.cells c e vg):=by rw[Go.Ren.heap_alloc_old (by rw[hz];exact hlt)];exact h2
  exact⟨⟨by show b≠p.heap.size;omega,fun e=>hRn (by rw[<-show b=R from e];exact hs),fun e=>hDn (by rw[<-show b=Dn from e];exact hs),hs⟩,_,hrow,hrow⟩
 have hFS:FS H bb bo N pa pl pc cR cD (u.alloc blk):=by
  obtain⟨_,r2,r3,r4,r5,r6⟩:=Bq cR 0 _ hcR;obtain⟨_,d2,d3,d4,d5,d6⟩:=Bq cD 0 _ YC;obtain⟨_,_,b3,b4,b5,b6⟩:=Bq bb (bo+0) _ (hbb 0 hN.1);refine⟨⟨0,0,ZM⟩,fun z hz=>(Bq bb _ _ (hbb z hz)).2.1,r2,d2,⟨b4,b3,b5,b6⟩,⟨r4,r3,r5,r6⟩,⟨d4,d3,d5,d6⟩,?_,?_,fun b hb=>⟨?_,rfl⟩⟩
  ·rw[WA];show bb<p.heap.size+1/\cR<p.heap.size+1/\cD<p.heap.size+1/\p.heap.size<p.heap.size+1;omega
  ·rw[WA];exact Nat.le_refl _
  ·have:b<p.heap.size:=hb.1;rw[WA];omega
 obtain⟨k,m',t',hrun,VA⟩:=Dq (H:=H) (sl:=sl1) (cS:=cS) (cap:=cap) I rfl hb.zero hb.leave hpast
  (fun b hb=>by
   obtain⟨o1,o2,o3,o4⟩:=hb;exact⟨by rw[WA];omega,by show b≠p.heap.size;omega,o3,o4,fun _ h=>o2 h⟩)
  ⟨by rw[WA];show p.heap.size<_;omega,by rw[WA];show R<_;omega,by rw[WA];show Dn<_;omega,by show p.heap.size≠R;omega,by show p.heap.size≠Dn;omega,hne⟩
  (fun b k hb h=>by
   have:=Ut b h;rw[WA]at hb;omega)
  ⟨⟨_,_,_,hRu⟩,⟨_,_,_,hDu⟩,hbas⟩ ZM hFS
  (fun z cz cp w Ur hF hZ=>by
   obtain⟨Keep,k1,k2,k3,k4,k5⟩:=FU z cz cp w Ur (fun b i v h=>by
     obtain⟨c1,_,c3,c4,c5,c6⟩:=Bq b i v h;exact((hF.Uz b ⟨c4,c3,c5,c6⟩).2).trans c1) hF.b0 hZ.z hZ.p hZ.zo.2 hZ.po.2 hZ.zp
   refine V6 (H:=H) rfl rfl rfl rfl rfl rfl Keep hF.b0 hZ.z k1 ⟨hF.lo.2.2.2,(Array.getElem?_eq_some_iff.1 hZ.p).1,?_,hF.lo.2.2.1,hF.lo.2.1⟩ k2 k3 (fun b hb=>?_) k5
   ·have:=hF.b0;have:p.heap.size+1<=w.heap.size:=this;omega
   ·rcases k4 b hb with⟨i,v,h⟩|h|h
    ·obtain⟨_,_,c3,c4,c5,c6⟩:=Bq b i v h;exact .inl ⟨c4,c3,c5,c6⟩
    ·exact .inr (.inl h)
    ·exact .inr (.inr h))
 obtain⟨gs2,w2,sl2,got,κ,mine,ok,q2,rfl,hsz2,hz2,hquit,hdeaf,yx,hfin,⟨Bd,⟨st2,sm2,Yq⟩,hms⟩,hfull,hres⟩:=VA;obtain⟨T,hT37,rfl,hT12,hno,hyes⟩:=(show Wu N [.inRegion (aZ (aN 6 (Tryz.f46.body.getD .skip))) [],.code (bI 7 (Tryz.f46.body.getD .skip))] cs ok got mine κ w2 from hfin);have hW2:w2.heap[p.heap.size]? =some (wgBlock link.tWg st2 sm2):=Yq;have hW2l:p.heap.size<w2.heap.size:=(Array.getElem?_eq_some_iff.1 hW2).1;obtain⟨p2,oG⟩:=ND (Sh:=fun b=>Sh b\/b=p.heap.size) (u:=w2) (fun b hb=>by
   rcases hb with hb|rfl
   ·obtain⟨_,o,h1,h2⟩:=Bd.2.2 b hb;obtain⟨e,fz,vg,c,_,h3⟩:=hps.rows b hb;have hlt:=Ut b hb;have hrow:(u.alloc blk).heap[b]? =some (.cells c e vg):=by rw[Go.Ren.heap_alloc_old (by rw[hz];exact hlt)];exact h3
    have:(some o:Option Obj)=some (.cells c e vg):=h1.symm.trans hrow;exact⟨c,e,vg,h2.trans this⟩
   ·exact⟨_,_,_,hW2⟩) Bd.2.1
 have hsz:w2.heap.size=p2.heap.size:=oG.size;have VQ:Xm Tryz.prog (fun b=>Sh b\/b=p.heap.size) (G ((base 46).at ⟨T,[]⟩ [.inRegion (aZ (aN 6 (Tryz.f46.body.getD .skip))) [],.code (bI 7 (Tryz.f46.body.getD .skip))]) cs) p2 gs2 w2 t' q2:=by
  refine⟨hz2,by rw[oG.vZ];exact oG,⟨hquit,hdeaf⟩,⟨yx.clean,fun i a h1 h2=>(yx.known i a h1 h2).imp id fun x=>⟨?_,x.2⟩,yx.over,yx.hears,yx.seen⟩⟩;rcases x.1 with h|⟨c,h,hc⟩
  ·revert h;show O_ Sh a.loc->O_ _ a.loc;cases a.loc with
   |cell c=>exact fun h=>.inl h
   |_=>exact id
  ·rw[h];exact .inr hc
 have hkeep:∀b o,p.heap[b]? =some o->Live o->b≠R->b≠Dn->p2.heap[b]? =some o:=fun b o h1 h2 h3 h4=>by
  obtain⟨k1,k2,k3⟩:=U1 b o h1 h2;have e:=oG.same b (by rintro(h|h);exact k2 h;omega);rw[<-e];exact(Bd.1.1 b ⟨k3,k2,h3,h4⟩).trans k1
 have Z5:∀b,b<p.heap.size->¬Sh b->b≠R->b≠Dn->p2.heap[b]? =p.heap[b]? :=fun b h1 h2 h3 h4=>by
  have e:=oG.same b (by rintro(h|h);exact h2 h;omega);rw[<-e];exact(Bd.1.1 b ⟨h1,h2,h3,h4⟩).trans (oldU b h1 h2)
 have hA:Un Sh p R Dn N wz Dz ok T p2:=by
  refine⟨hT37,hT12,by omega,oG.views,hkeep,Z5,?_,?_,fun h=>?_,fun h=>?_⟩
  ·rw[<-oG.os,Bd.1.2.1];exact hps.os
  ·rw[<-oG.output,Bd.1.2.2];exact hps.output
  ·obtain⟨h1,i,da,dl,dc,hi,hg⟩:=hno h;refine⟨h1,i,hi,?_⟩;obtain⟨G8,dl',dc',e,_⟩:=hres i _ hg;simp only[Value.agg.injEq,Array.mk.injEq,List.cons.injEq,Value.bool.injEq]at e;exact e.2.2.1.symm
  ·obtain⟨cP,h1,h2,parts,h3,h4,h5⟩:=hyes h;have hall:=hfull h;have hz1:∀z,z<N->∃da dl dc,got z=some (.agg #[.int .i64 z,.slice da dl dc,.bool true])/\parts[z]? =some (.slice da dl dc)/\wz z=true/\dl=(Dz z).length/\(dl≠0->∃b o,da=some ⟨b,o,none⟩/\p.heap.size+1<=b/\∀j,j<dl->w2.cell? ⟨b,o+j,none⟩=some (.int .u8 ((Dz z)[j]?.getD 0:Nat))):=by
    intro z Ur;cases hg:got z with
    |none=>exact absurd hg (hall z Ur)
    |some v=>
     obtain⟨da,dl,dc,rfl,h6⟩:=h5 z v hg;obtain⟨G8,dl',dc',e,h7⟩:=hres z _ hg;simp only[Value.agg.injEq,Array.mk.injEq,List.cons.injEq,Value.bool.injEq,Value.slice.injEq]at e;obtain⟨_,⟨rfl,rfl,rfl⟩,e,_⟩:=e;obtain⟨k1,k2⟩:=h7 e.symm;exact⟨da,dl,dc,rfl,h6,e.symm,k1,k2⟩
   refine⟨fun z Ur=>(hz1 z Ur).choose_spec.choose_spec.choose_spec.2.2.1,cP,h1,parts,?_,h4,fun z Ur=>?_⟩
   ·have hm:=hms cP h2;rw[<-oG.same cP (by rintro(h|h);exact hm.2.2.2.2 0 h;exact hm.2.1 h)];exact h3
   ·obtain⟨da,dl,dc,_,h6,_,h7,h8⟩:=hz1 z Ur;refine⟨_,h6,da,dl,dc,rfl,h7,fun hd=>?_⟩;obtain⟨b,o,rfl,hB,hc⟩:=h8 hd;refine⟨b,o,rfl,hB,fun j hj=>?_⟩;have hn:¬(Sh b\/b=p.heap.size):=by
     rintro(h|h)
     ·have:=Ut b h;omega
     ·omega
    have e:=oG.same b hn;have:=hc j hj;simp only[World.cell?,e]at this;exact this
 obtain⟨M,Sh3,g3,p3,gs3,u3,sl3,t3,q3,hr3,hb3,hp3⟩:=hpost ok T p2 hA gs2 w2 sl2 t' q2 VQ;exact⟨k+M,Sh3,g3,p3,gs3,u3,sl3,t3,q3,by rw[runNT_add,hrun];exact hr3,hb3,hp3⟩
end Go.Proofs.YtmfpiodlecapiaaGreatDoor
namespace Go.bB
variable {P:Program}
def bE(k:List Item)(f:Fr):List Fr->Fr
 | []=> {f with todo:=f.todo++k}
 |_::_=>f
def kH(k:List Item)(gs:List Fr):List Fr->List Fr
 | []=>gs
 |c::r=>bE k c r::kH k gs r
theorem FK(k:List Item)(f:Fr)(fs:List Fr):(bE k f fs).fn=f.fn:=by cases fs<;>rfl
theorem Oi(k:List Item)(f:Fr)(fs:List Fr):(bE k f fs).ret=f.ret:=by cases fs<;>rfl
theorem qO(k:List Item)(f:Fr)(fs:List Fr):(bE k f fs).tmps=f.tmps:=by cases fs<;>rfl
theorem AY(k:List Item)(f:Fr)(fs:List Fr):(bE k f fs).act=f.act:=by simp[Fr.act,qO]
theorem Jp(k:List Item)(f:Fr)(fs:List Fr):∃r,(bE k f fs).todo=f.todo++r/\∀g:Fr,(bE k g fs).todo=g.todo++r:=by
 cases fs with
 |nil=>exact⟨k,rfl,fun _=>rfl⟩
 |cons c r=>exact⟨[],by simp[bE],fun g=>by simp[bE]⟩
theorem Jo(k:List Item)(f:Fr)(fs:List Fr)(r:List Item)(hr:(bE k f fs).todo=f.todo++r)(hr':∀g:Fr,(bE k g fs).todo=g.todo++r)(td:List Item)(b:Bool):({bE k f fs with todo:=td++r,ret:=b}:Fr)=bE k {f with todo:=td,ret:=b} fs:=by
 have h:=hr' {f with todo:=td,ret:=b};cases fs with
 |nil=>
  simp only[bE]at h⊢;simp only[Fr.mk.injEq,true_and,and_true];exact h.symm
 |cons c rs=>
  simp only[bE]at h⊢;simp only[Fr.mk.injEq,true_and,and_true];exact h.symm
theorem gZ(k:List Item)(f:Fr)(fs:List Fr)(v:Value)(h:Pm f):(bE k f fs).finish v=bE k (f.finish v) fs:=by
 obtain⟨ops,i,rest,t,ht⟩:=h;cases fs with
 |nil=>simp[bE,Fr.finish,ht]
 |cons c r=>rfl
theorem JA(k:List Item)(gs:List Fr){f f':Fr}{fs fs':List Fr}{w w':World}{es:Array Event}(hwf:Wf fs)(h:aG P f fs w= .go f' fs' w' es):
  aG P (bE k f fs) (kH k gs fs) w= .go (bE k f' fs') (kH k gs fs') w' es:=by
 unfold aG at h;cases hr:f.ret with
 |true=>
  simp only[hr,if_true]at h;unfold jY at h;cases fs with
  |nil=>cases h
  |cons c rest=>
   simp only at h;cases hf:P.funcs[f.fn]? with
   |none=>rw[hf]at h;cases h
   |some fn=>
    rw[hf]at h;simp only at h;cases hres:(results fn f.tmps).run P w with
    |halt x w1=>rw[hres]at h;cases h
    |ok v w1=>
     rw[hres]at h;simp only[FO.go.injEq]at h;obtain⟨rfl,rfl,rfl,rfl⟩:=h;rw[<-gZ k c rest v (hwf c (by simp)).1];simp[aG,bE,hr,jY,kH,hf,hres]
 |false=>
  simp only[hr,Bool.false_eq_true,if_false]at h;obtain⟨r,hr1,hr2⟩:=Jp k f fs;have hret:(bE k f fs).ret=false:=(Oi k f fs).trans hr;have e0:aG P (bE k f fs) (kH k gs fs) w=aJ P (bE k f fs) (kH k gs fs) w:=by simp[aG,hret]
  rw[e0];have wt:∀(td:List Item) (b:Bool),({bE k f fs with todo:=td++r,ret:=b}:Fr)=bE k {f with todo:=td,ret:=b} fs:=Jo k f fs r hr1 hr2;have Po:∀(td:List Item),({bE k f fs with todo:=td++r}:Fr)=bE k {f with todo:=td} fs:=by
   intro td;have:=wt td f.ret;rw[hr]at this;have e1:({bE k f fs with todo:=td++r}:Fr)= {bE k f fs with todo:=td++r,ret:=false}:=by simp[hret]
   have e2:({f with todo:=td}:Fr)= {f with todo:=td,ret:=false}:=by simp[hr]
   rw[e1,e2];exact this
  unfold aJ at h;split at h
  ·rename_i htd;cases fs with
   |nil=>cases h
   |cons c rest=>
    simp only[FO.go.injEq]at h;obtain⟨rfl,rfl,rfl,rfl⟩:=h;simp[aJ,bE,htd,kH]
  ·rename_i tl htd;simp only[FO.go.injEq]at h;obtain⟨rfl,rfl,rfl,rfl⟩:=h;have e1:(bE k f fs).todo= .code .ret::(tl++r):=by rw[hr1,htd];rfl
   have:=wt f.todo true;rw[<-hr1]at this;simp only[aJ,e1];rw[<-this];simp[e1]
  ·rename_i tl htd;simp only[FO.go.injEq]at h;obtain⟨rfl,rfl,rfl,rfl⟩:=h;have e1:(bE k f fs).todo= .code .skip::(tl++r):=by rw[hr1,htd];rfl
   simp only[aJ,e1,Po tl]
  ·rename_i l tl htd;simp only[FO.go.injEq]at h;obtain⟨rfl,rfl,rfl,rfl⟩:=h;have e1:(bE k f fs).todo= .code (.label l)::(tl++r):=by rw[hr1,htd];rfl
   simp only[aJ,e1,Po tl]
  ·rename_i id tl htd;simp only[FO.go.injEq]at h;obtain⟨rfl,rfl,rfl,rfl⟩:=h;have e1:(bE k f fs).todo= .inBlock id::(tl++r):=by rw[hr1,htd];rfl
   simp only[aJ,e1,Po tl]
  ·rename_i a b tl htd;simp only[FO.go.injEq]at h;obtain⟨rfl,rfl,rfl,rfl⟩:=h;have e1:(bE k f fs).todo= .code (.seq a b)::(tl++r):=by rw[hr1,htd];rfl
   have:=Po (.code a:: .code b::tl);simp only[List.cons_append]at this;simp only[aJ,e1,this]
  ·rename_i c thn els tl htd;split at h
   ·rename_i b hb;simp only[FO.go.injEq]at h;obtain⟨rfl,rfl,rfl,rfl⟩:=h;have e1:(bE k f fs).todo= .code (.cond c thn els)::(tl++r):=by rw[hr1,htd];rfl
    have:=Po (.code (if b then thn else els)::tl);simp only[List.cons_append]at this;simp only[aJ,e1,AY,hb,this]
   ·cases h
  ·rename_i id body tl htd;simp only[FO.go.injEq]at h;obtain⟨rfl,rfl,rfl,rfl⟩:=h;have e1:(bE k f fs).todo= .code (.block id body)::(tl++r):=by rw[hr1,htd];rfl
   have:=Po (.code body:: .inBlock id::tl);simp only[List.cons_append]at this;simp only[aJ,e1,this]
  ·rename_i body tl htd;simp only[FO.go.injEq]at h;obtain⟨rfl,rfl,rfl,rfl⟩:=h;have e1:(bE k f fs).todo= .code (.loop body)::(tl++r):=by rw[hr1,htd];rfl
   have:=Po (.code body:: .inLoop body::tl);simp only[List.cons_append]at this;simp only[aJ,e1,this]
  ·rename_i body tl htd;simp only[FO.go.injEq]at h;obtain⟨rfl,rfl,rfl,rfl⟩:=h;have e1:(bE k f fs).todo= .inLoop body::(tl++r):=by rw[hr1,htd];rfl
   have:=Po (.code body:: .inLoop body::tl);simp only[List.cons_append]at this;simp only[aJ,e1,this]
  ·rename_i id tl htd;split at h
   ·rename_i k' hk';simp only[FO.go.injEq]at h;obtain⟨rfl,rfl,rfl,rfl⟩:=h;have e1:(bE k f fs).todo= .code (.exit id)::(tl++r):=by rw[hr1,htd];rfl
    simp only[aJ,e1,mH r hk',Po k']
   ·cases h
  ·rename_i id ops draw tl htd;have e1:(bE k f fs).todo= .code (.region id ops draw)::(tl++r):=by rw[hr1,htd];rfl
   cases draw with
   |true=>
    simp only[if_true,FO.go.injEq]at h;obtain⟨rfl,rfl,rfl,rfl⟩:=h;have:=Po (.inRegion ops (Region.schedule (P.follows .mixedOrders) ops (w.tape w.drawn (.order f.fn id)))::tl);simp only[List.cons_append]at this;simp only[aJ,e1,if_true];rw[FK]at this⊢;rw[this]
   |false=>
    simp only[Bool.false_eq_true,if_false,FO.go.injEq]at h;obtain⟨rfl,rfl,rfl,rfl⟩:=h;have:=Po (.inRegion ops (List.range ops.size)::tl);simp only[List.cons_append]at this;simp only[aJ,e1,Bool.false_eq_true,if_false,this]
  ·rename_i ops tl htd;simp only[FO.go.injEq]at h;obtain⟨rfl,rfl,rfl,rfl⟩:=h;have e1:(bE k f fs).todo= .inRegion ops []::(tl++r):=by rw[hr1,htd];rfl
   simp only[aJ,e1,Po tl]
  ·rename_i ops i rest tl htd;have e1:(bE k f fs).todo= .inRegion ops (i::rest)::(tl++r):=by rw[hr1,htd];rfl
   have hat:Pm f:=⟨ops,i,rest,tl,htd⟩;split at h
   ·rename_i ho;simp only[FO.go.injEq]at h;obtain⟨rfl,rfl,rfl,rfl⟩:=h;simp only[aJ,e1,ho,gZ k f fs undef hat]
   ·rename_i o ho;by_cases hwt:Region.wanted o (yielded ops f.tmps)=true
    ·simp only[hwt,if_true]at h;simp only[aJ,e1,ho,qO,hwt,if_true];unfold bU at h⊢;rw[AY,FK];cases hrun:(execOp f.act.eval o).run P w with
     |halt x w1=>rw[hrun]at h;cases x<;>cases h
     |ok n w1=>
      rw[hrun]at h;cases n with
      |value v=>
       simp only[FO.go.injEq]at h;obtain⟨rfl,rfl,rfl,rfl⟩:=h;simp only[gZ k f fs v hat]
      |skip=>
       simp only[FO.go.injEq]at h;obtain⟨rfl,rfl,rfl,rfl⟩:=h;simp only[gZ k f fs undef hat]
      |enter g args=>
       simp only[FO.go.injEq]at h;obtain⟨rfl,rfl,rfl,rfl⟩:=h;simp only[kH];rfl
      |_=>cases h
    ·simp only[hwt]at h;simp only[Bool.false_eq_true,if_false,FO.go.injEq]at h;obtain⟨rfl,rfl,rfl,rfl⟩:=h;simp only[aJ,e1,ho,qO,hwt,gZ k f fs undef hat];rfl
  ·cases h
theorem Tr.lift(k:List Item)(gs:List Fr){Stop:Fr->List Fr->World->Prop}{f:Fr}{fs:List Fr}{w:World}(h:Tr P Stop f fs w)(hwf:Wf fs):
  Tr P (fun f' fs' w'=>∃g,∃gs',Stop g gs' w'/\f'=bE k g gs'/\fs'=kH k gs gs') (bE k f fs) (kH k gs fs) w:=by
 induction h with
 |stop h=>exact .stop ⟨_,_,h,rfl,rfl⟩
 |@step f fs w h1 h2 ih=>
  have key:∀τ d,∃f' fs' w' es,aG P f fs (w.re τ d)= .go f' fs' w' es/\aG P (bE k f fs) (kH k gs fs) (w.re τ d)= .go (bE k f' fs') (kH k gs fs') w' es:=by
   intro τ d;obtain⟨f',fs',w',es,e⟩:=h1 τ d;exact⟨f',fs',w',es,e,JA k gs hwf e⟩
  refine .step (fun τ d=>?_) (fun τ d f2 Ze w2 es2 e2=>?_)
  ·obtain⟨f',fs',w',es,_,e⟩:=key τ d;exact⟨_,_,_,_,e⟩
  ·obtain⟨f',fs',w',es,e,e'⟩:=key τ d;rw[e']at e2;simp only[FO.go.injEq]at e2;obtain⟨rfl,rfl,rfl,rfl⟩:=e2;exact ih τ d f' fs' w' es e (S_ hwf e)
end Go.bB
namespace Go.bB
open Go.Ren Go.Conc
section
variable {P:Program} {X A X1 A1:FuncId->Bool} {K:FuncId->Nat->Nat} {Node:lJ Nat->(lJ Nat->Prop)->Prop} {Stop:lJ Nat->Prop} {m:Nat} {f:Fr} {fs:List Fr} {w:World}
def lJ.re(s:lJ Nat)(τ:Nat->Question->Nat)(d:Nat):lJ Nat:=⟨s.m,s.f,s.fs,s.w.re τ d⟩
structure jd(Node:lJ Nat->(lJ Nat->Prop)->Prop)(Stop:lJ Nat->Prop):Prop where
 stop:∀s τ d,Stop s->Stop (s.re τ d)
 node:∀s Next τ d,Node s Next->Node (s.re τ d) (fun s'=>∃s0,Next s0/\s'=s0.re τ d)
theorem WT.re(hR:jd Node Stop){s:lJ Nat}(h:WT P Node Stop s):∀(τ:Nat->Question->Nat) (d:Nat),WT P Node Stop (s.re τ d):=by
 induction h with
 |stop h=>exact fun τ d=>.stop (hR.stop _ _ _ h)
 |step h1 h2 _=>exact fun τ d=>.step (fun sP d'=>h1 sP d') (fun sP d' f' fs' w' es e=>h2 sP d' f' fs' w' es e)
 |node h _ ih=>exact fun τ d=>.node (hR.node _ _ τ d h) (fun s' ⟨s0,h0,e⟩=>e▸ih s0 h0 τ d)
def aQ(P:Program)(X A:FuncId->Bool)(K:FuncId->Nat->Nat)(Node:lJ Nat->(lJ Nat->Prop)->Prop)(Stop:lJ Nat->Prop)(m:Nat)(f:Fr)(fs:List Fr)(w:World):Prop:=GZ P X A K f fs w->WT P Node Stop ⟨m,f,fs,w⟩
theorem aQ.step(hC:Closed P X A K)(h:∀τ d,∃f' fs' w' es,aG P f fs (w.re τ d)= .go f' fs' w' es/\aQ P X A K Node Stop m f' fs' w'):aQ P X A K Node Stop m f fs w:=fun hI=>
 .step (fun τ d=>by
   obtain⟨f',fs',w',es,e,_⟩:=h τ d;exact⟨f',fs',w',es,e⟩)
  (fun τ d f' fs' w' es e=>by
   obtain⟨f2,Ze,w2,es2,e2,hn⟩:=h τ d;have e:aG P f fs (w.re τ d)= .go f' fs' w' es:=e;rw[e2]at e;simp only[FO.go.injEq]at e;obtain⟨rfl,rfl,rfl,rfl⟩:=e;exact hn ((hI.re τ d).step hC e2))
theorem aQ.re(hR:jd Node Stop)(h:aQ P X A K Node Stop m f fs w)(τ:Nat->Question->Nat)(d:Nat):aQ P X A K Node Stop m f fs (w.re τ d):=fun hI=>by
 have:=hI.re w.tape w.drawn;rw[KG,kF]at this;exact(h this).re hR τ d
theorem aQ.ctl(hC:Closed P X A K)(hR:jd Node Stop){f':Fr}{fs':List Fr}(h:∀w,aG P f fs w= .go f' fs' w #[])(hn:aQ P X A K Node Stop m f' fs' w):aQ P X A K Node Stop m f fs w:=
 .step hC fun τ d=>⟨f',fs',w.re τ d,#[],h _,hn.re hR τ d⟩
theorem aQ.stop(h:Stop ⟨m,f,fs,w⟩):aQ P X A K Node Stop m f fs w:=fun _=>.stop h
variable {fn:FuncId} {T:Array Value} {k:List Item}
theorem aQ.seq(hC:Closed P X A K)(hR:jd Node Stop){a b:Code}(hn:aQ P X A K Node Stop m ⟨fn,T,.code a:: .code b::k,false⟩ fs w):aQ P X A K Node Stop m ⟨fn,T,.code (.seq a b)::k,false⟩ fs w:=.ctl hC hR (fun _=>rfl) hn
theorem aQ.aR(hC:Closed P X A K)(hR:jd Node Stop){ops:Array Oper}(hn:aQ P X A K Node Stop m ⟨fn,T,k,false⟩ fs w):aQ P X A K Node Stop m ⟨fn,T,.inRegion ops []::k,false⟩ fs w:=.ctl hC hR (fun _=>rfl) hn
theorem aQ.reg(hC:Closed P X A K)(hR:jd Node Stop){id:Nat}{ops:Array Oper}{l:List Nat}(hl:List.range ops.size=l)(hn:aQ P X A K Node Stop m ⟨fn,T,.inRegion ops l::k,false⟩ fs w):aQ P X A K Node Stop m ⟨fn,T,.code (.region id ops false)::k,false⟩ fs w:=
 .ctl hC hR (fun _=>by rw[<-hl];rfl) hn
theorem aQ.yes(hC:Closed P X A K)(hR:jd Node Stop){c:Operand}{x y:Code}(hc:(⟨T,[]⟩:Act).eval c= .bool true)(hn:aQ P X A K Node Stop m ⟨fn,T,.code x::k,false⟩ fs w):aQ P X A K Node Stop m ⟨fn,T,.code (.cond c x y)::k,false⟩ fs w:=
 .ctl hC hR (fun _=>by simp[aG,aJ,Fr.act,hc]) hn
theorem aQ.no(hC:Closed P X A K)(hR:jd Node Stop){c:Operand}{x y:Code}(hc:(⟨T,[]⟩:Act).eval c= .bool false)(hn:aQ P X A K Node Stop m ⟨fn,T,.code y::k,false⟩ fs w):aQ P X A K Node Stop m ⟨fn,T,.code (.cond c x y)::k,false⟩ fs w:=
 .ctl hC hR (fun _=>by simp[aG,aJ,Fr.act,hc]) hn
theorem aQ.block(hC:Closed P X A K)(hR:jd Node Stop){id:Nat}{c:Code}(hn:aQ P X A K Node Stop m ⟨fn,T,.code c:: .inBlock id::k,false⟩ fs w):aQ P X A K Node Stop m ⟨fn,T,.code (.block id c)::k,false⟩ fs w:=.ctl hC hR (fun _=>rfl) hn
theorem aQ.inBlock(hC:Closed P X A K)(hR:jd Node Stop){id:Nat}(hn:aQ P X A K Node Stop m ⟨fn,T,k,false⟩ fs w):aQ P X A K Node Stop m ⟨fn,T,.inBlock id::k,false⟩ fs w:=.ctl hC hR (fun _=>rfl) hn
theorem aQ.loop(hC:Closed P X A K)(hR:jd Node Stop){c:Code}(hn:aQ P X A K Node Stop m ⟨fn,T,.code c:: .inLoop c::k,false⟩ fs w):aQ P X A K Node Stop m ⟨fn,T,.code (.loop c)::k,false⟩ fs w:=.ctl hC hR (fun _=>rfl) hn
theorem aQ.inLoop(hC:Closed P X A K)(hR:jd Node Stop){c:Code}(hn:aQ P X A K Node Stop m ⟨fn,T,.code c:: .inLoop c::k,false⟩ fs w):aQ P X A K Node Stop m ⟨fn,T,.inLoop c::k,false⟩ fs w:=.ctl hC hR (fun _=>rfl) hn
theorem aQ.skip(hC:Closed P X A K)(hR:jd Node Stop)(hn:aQ P X A K Node Stop m ⟨fn,T,k,false⟩ fs w):aQ P X A K Node Stop m ⟨fn,T,.code .skip::k,false⟩ fs w:=.ctl hC hR (fun _=>rfl) hn
theorem aQ.exit(hC:Closed P X A K)(hR:jd Node Stop){id:Nat}{k':List Item}(he:exitTo id k=some k')(hn:aQ P X A K Node Stop m ⟨fn,T,k',false⟩ fs w):aQ P X A K Node Stop m ⟨fn,T,.code (.exit id)::k,false⟩ fs w:=.ctl hC hR (fun _=>by simp[aG,aJ,he]) hn
theorem qR{ops:Array Oper}{i:Nat}{rest:List Nat}{o:Oper}(ho:ops[i]? =some o)(v:Value):(⟨fn,T,.inRegion ops (i::rest)::k,false⟩:Fr).finish v=⟨fn,((⟨T,[]⟩:Act).put o.dst v).tmps,.inRegion ops rest::k,false⟩:=by
 cases hd:o.dst<;>simp[Fr.finish,ho,Act.put,hd]
theorem aQ.op(hC:Closed P X A K){ops:Array Oper}{i:Nat}{rest:List Nat}{o:Oper}(ho:ops[i]? =some o)(hw:Region.wanted o (yielded ops T)=true)
  (h:∀τ d,∀K':Act->World->Prop,(∀a' w',aQ P X A K Node Stop m ⟨fn,a'.tmps,.inRegion ops rest::k,false⟩ fs w'->K' a' w')->uponK o ⟨T,[]⟩ K' ((execOp (⟨T,[]⟩:Act).eval o).run P (w.re τ d))):
  aQ P X A K Node Stop m ⟨fn,T,.inRegion ops (i::rest)::k,false⟩ fs w:=by
 refine .step hC fun τ d=>?_;have h1:=h τ d (fun a' w'=>aQ P X A K Node Stop m ⟨fn,a'.tmps,.inRegion ops rest::k,false⟩ fs w') (fun _ _ x=>x);have e:aG P ⟨fn,T,.inRegion ops (i::rest)::k,false⟩ fs (w.re τ d)=bU P ⟨fn,T,.inRegion ops (i::rest)::k,false⟩ fs o (w.re τ d):=by
  simp[aG,aJ,ho,hw]
 rw[e];unfold bU;revert h1;show uponK o ⟨T,[]⟩ _ ((execOp (⟨T,[]⟩:Act).eval o).run P (w.re τ d))->_;have ea:(⟨fn,T,.inRegion ops (i::rest)::k,false⟩:Fr).act=⟨T,[]⟩:=rfl;rw[ea];cases hr:(execOp (⟨T,[]⟩:Act).eval o).run P (w.re τ d)with
 |halt x w'=>exact fun h=>h.elim
 |ok n w'=>
  cases n with
  |value v=>exact fun h=>⟨_,_,_,_,rfl,by rw[qR ho];exact h⟩
  |skip=>exact fun h=>⟨_,_,_,_,rfl,by rw[qR ho];exact h⟩
  |_=>exact fun h=>h.elim
theorem aQ.call(hC:Closed P X A K)(hR:jd Node Stop){ops:Array Oper}{i:Nat}{rest:List Nat}{o:Oper}{g:FuncId}{gn:Func}{c:Code}{args:Array Operand}{ats:Array TypeId}(ho:ops[i]? =some o)(hw:Region.wanted o (yielded ops T)=true)(hop:o.op= .call {callee:=.value (.func g),args,argTypes:=ats})
  (hf:P.funcs[g]? =some gn)(hname:(gn.name== "runtime.NumGoroutine")=false)(hb:gn.body=some c)
  (hn:aQ P X A K Node Stop m ⟨g,args.map (⟨T,[]⟩:Act).eval++Array.replicate (gn.ntmps-(args.map (⟨T,[]⟩:Act).eval).size) undef,[.code c],false⟩ (⟨fn,T,.inRegion ops (i::rest)::k,false⟩::fs) w):
  aQ P X A K Node Stop m ⟨fn,T,.inRegion ops (i::rest)::k,false⟩ fs w:=by
 refine .ctl hC hR (fun w=>?_) hn;have hb':gn.body.isNone=false:=by rw[hb];rfl
 have e:aG P ⟨fn,T,.inRegion ops (i::rest)::k,false⟩ fs w=bU P ⟨fn,T,.inRegion ops (i::rest)::k,false⟩ fs o w:=by
  simp[aG,aJ,ho,hw]
 rw[e];unfold bU;have ea:(⟨fn,T,.inRegion ops (i::rest)::k,false⟩:Fr).act=⟨T,[]⟩:=rfl;rw[ea,run_call_body hop hf hname hb',events_call_body hop hf hname hb'];simp[kU,hf,hb,seen_none]
theorem aQ.dM(hC:Closed P X A K)(hR:jd Node Stop){ops:Array Oper}{i:Nat}{rest:List Nat}{o:Oper}{g:FuncId}{gn:Func}{args:Array Operand}{ats:Array TypeId}{T':Array Value}(ho:ops[i]? =some o)(hw:Region.wanted o (yielded ops T)=true)(hop:o.op= .call {callee:=.value (.func g),args,argTypes:=ats})
  (hf:P.funcs[g]? =some gn)(hname:(gn.name== "runtime.NumGoroutine")=false)(hb:gn.body.isSome=true)(hT:args.map (⟨T,[]⟩:Act).eval++Array.replicate (gn.ntmps-(args.map (⟨T,[]⟩:Act).eval).size) undef=T')
  (hn:aQ P X A K Node Stop m ⟨g,T',[.code (gn.body.getD .skip)],false⟩ (⟨fn,T,.inRegion ops (i::rest)::k,false⟩::fs) w):
  aQ P X A K Node Stop m ⟨fn,T,.inRegion ops (i::rest)::k,false⟩ fs w:=by
 obtain⟨c,hc⟩:=Option.isSome_iff_exists.1 hb;rw[hc,Option.getD_some]at hn;exact aQ.call hC hR ho hw hop hf hname hc (by rw[hT];exact hn)
theorem aQ.back(hC:Closed P X A K)(hR:jd Node Stop){g:FuncId}{gn:Func}{T':Array Value}{todo:List Item}{ops:Array Oper}{i:Nat}{rest:List Nat}{o:Oper}{v:Value}(ho:ops[i]? =some o)(hf:P.funcs[g]? =some gn)
  (hv:∀w,(results gn T').run P w= .ok v w)(he:∀w,(results gn T').events P w #[]=#[])(hn:aQ P X A K Node Stop m ⟨fn,((⟨T,[]⟩:Act).put o.dst v).tmps,.inRegion ops rest::k,false⟩ fs w):
  aQ P X A K Node Stop m ⟨g,T',todo,true⟩ (⟨fn,T,.inRegion ops (i::rest)::k,false⟩::fs) w:=by
 refine .ctl hC hR (fun w=>?_) hn;simp only[aG,if_true,jY,hf,hv,he,qR ho];simp[seen_none]
theorem aQ.code(hC:Closed P X A K)(hX1:X1 far=false)(hC1:Closed P X1 A1 K){c:Code}(hc:lH P X1 A1 (K fn) c=true){Q:Exit->Act->World->Prop}
  (hQ:∀e a w,Q e a w->e= .normal\/e= .ret)(hre:∀e a w τ d,Q e a w->Q e a (w.re τ d))(hwp:∀τ d,c.wp P Q ⟨T,[]⟩ (w.re τ d))
  (hn:∀T' w',Q .normal ⟨T',[]⟩ w'->aQ P X A K Node Stop m ⟨fn,T',k,false⟩ fs w')(hr:∀T' todo w',Q .ret ⟨T',[]⟩ w'->aQ P X A K Node Stop m ⟨fn,T',todo,true⟩ fs w'):
  aQ P X A K Node Stop m ⟨fn,T,.code c::k,false⟩ fs w:=by
 intro hI;have hI0:=hI;obtain⟨ρ,h1,h2⟩:=hI;have hh:=h1.head;have hI1:GZ P X1 A1 K ⟨fn,T,[.code c],false⟩ [] w:=⟨ρ,.one ⟨rfl,rfl,rfl,hh.tmps,fun x hx=>by rw[List.mem_singleton.1 hx];exact hc⟩,h2⟩;have ht:=(Hw hX1 hC1 hI1 hQ hre hwp).lift k fs (fun c hc=>by cases hc);have key:∀(f:Fr) (fs:List Fr) (w:World),Tr P (fun f' fs' w'=>∃g,∃gs',Left fn Q g gs' w'/\f'=bE k g gs'/\fs'=kH k fs gs') f fs w->True:=fun _ _ _ _=>trivial;clear key;have hgo:∀{f:Fr} {Zf:List Fr} {w:World},Tr P (fun f' fs' w'=>∃g,∃gs',Left fn Q g gs' w'/\f'=bE k g gs'/\fs'=kH k fs gs') f Zf w->GZ P X A K f Zf w->WT P Node Stop ⟨m,f,Zf,w⟩:=by
  intro f Zf w h;induction h with
  |@stop f Zf w h=>
   intro hI;obtain⟨g,gs',⟨rfl,h3,h4⟩,rfl,rfl⟩:=h;obtain⟨gf,gT,gtodo,gret⟩:=g;obtain rfl:gf=fn:=h3;rcases h4 with⟨h5,h6,h7⟩|⟨h5,h6⟩
   ·obtain rfl:gtodo= []:=h5;obtain rfl:gret=false:=h6;exact hn gT w h7 hI
   ·obtain rfl:gret=true:=h5;exact hr gT _ w h6 hI
  |@step f Zf w h1 _ ih=>
   intro hI;exact .step h1 fun τ d f' fs' w' es e=>ih τ d f' fs' w' es e ((hI.re τ d).step hC e)
 exact hgo ht hI0
theorem aQ.run(hC:Closed P X A K)(hR:jd Node Stop)(hX1:X1 far=false)(hC1:Closed P X1 A1 K){c:Code}(hc:lH P X1 A1 (K fn) c=true)
  (hwp:∀τ d,c.wp P (fun e a w'=>(e= .normal/\aQ P X A K Node Stop m ⟨fn,a.tmps,k,false⟩ fs w')\/(e= .ret/\∀todo,aQ P X A K Node Stop m ⟨fn,a.tmps,todo,true⟩ fs w')) ⟨T,[]⟩ (w.re τ d)):
  aQ P X A K Node Stop m ⟨fn,T,.code c::k,false⟩ fs w:=by
 refine aQ.code hC hX1 hC1 hc (Q:=fun e a w'=>(e= .normal/\aQ P X A K Node Stop m ⟨fn,a.tmps,k,false⟩ fs w')\/(e= .ret/\∀todo,aQ P X A K Node Stop m ⟨fn,a.tmps,todo,true⟩ fs w')) (fun e a w h=>h.imp (·.1) (·.1)) (fun e a w τ d h=>?_) hwp (fun T' w' h=>?_) (fun T' todo w' h=>?_)
 ·exact h.imp (fun x=>⟨x.1,x.2.re hR τ d⟩) (fun x=>⟨x.1,fun todo=>(x.2 todo).re hR τ d⟩)
 ·rcases h with h|h
  ·exact h.2
  ·cases h.1
 ·rcases h with h|h
  ·cases h.1
  ·exact h.2 todo
def xX(Kn Kr:Act->World->Prop):Exit->Act->World->Prop
 | .normal,a,w=>Kn a w
 | .ret,a,w=>Kr a w
 |_,_,_=>False
theorem aQ.Qu(hC:Closed P X A K)(hR:jd Node Stop)(hX1:X1 far=false)(hC1:Closed P X1 A1 K){c:Code}(hc:lH P X1 A1 (K fn) c=true)
  (hwp:∀τ d,c.wp P (xX (fun a w'=>aQ P X A K Node Stop m ⟨fn,a.tmps,k,false⟩ fs w') (fun a w'=>∀todo,aQ P X A K Node Stop m ⟨fn,a.tmps,todo,true⟩ fs w')) ⟨T,[]⟩ (w.re τ d)):
  aQ P X A K Node Stop m ⟨fn,T,.code c::k,false⟩ fs w:=by
 refine aQ.code hC hX1 hC1 hc (Q:=xX (fun a w'=>aQ P X A K Node Stop m ⟨fn,a.tmps,k,false⟩ fs w') (fun a w'=>∀todo,aQ P X A K Node Stop m ⟨fn,a.tmps,todo,true⟩ fs w')) (fun e a w h=>?_) (fun e a w τ d h=>?_) hwp (fun T' w' h=>h) (fun T' todo w' h=>h todo)
 ·cases e<;>first|exact .inl rfl|exact .inr rfl|exact h.elim
 ·cases e<;>first|exact h.re hR τ d|exact fun todo=>(h todo).re hR τ d|exact h.elim
end
end Go.bB
