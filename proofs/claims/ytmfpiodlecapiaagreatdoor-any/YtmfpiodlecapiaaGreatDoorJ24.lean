import Derived.Test.YtmfpiodlecapiaaGreatDoorJ23
namespace Go.iw
open Go.Conc Go.ConcN Go.bB Go.Ren
open Go.ConcR (KK wgBlock WgAt stA smA rd wr mk Payload Aside2 DC0 Bk g_of_ofEvents again_blocked bk_of_mute ofEvent_loc_mark)
structure nk[Payload](H:Ph):Prop where
 cl:Closed H.P H.X H.A H.K
 ck:H.Cx.kind≠.early
 ar:∀κ g w,H.Anch κ g w->g.status= .running
 hN:H.N<2147483648
 node:∀i m ρ p f fs f' fs' w Next,mQ H.P H.X H.A H.K ρ p f fs f' fs' w->Ext (Array.range H.B0) ρ->H.Node i ⟨m,f,fs,p⟩ Next->∃z sh g₂ f1 Gn f2 f2',(∀w,stepG H.P false (bP H.Cx f' fs') w= .comm g₂ #[rcase H.Dn z] false sh w #[])/\
  g₂.finishComm H.P #[rcase H.Dn z] sh (-1) undef false=bP H.Cx Gn fs'/\mQ H.P H.X H.A H.K ρ p f1 fs Gn fs' w/\Next ⟨m,f1,fs,p⟩/\
  g₂.finishComm H.P #[rcase H.Dn z] sh 0 z false=bP H.Cx f2' fs'/\mQ H.P H.X H.A H.K ρ p f2 fs f2' fs' w/\Next ⟨1,f2,fs,p⟩
 stop:∀i (d:WX) ρ p f fs f' fs' w,mQ H.P H.X H.A H.K ρ p f fs f' fs' w->Ext (Array.range H.B0) ρ->H.Stop i ⟨if d.gu then 1 else 0,f,fs,p⟩->d.ow=Own ρ p->d.vs=Ac ρ p->uG d w->¬d.ow d.C->
  ∃v z0 z1 g₂ off,bP H.Cx f' fs'= {g₂ with status:=.running,offers:=off}/\zf H d v z0 z1 g₂/\UD H i d v w
 round:∀κ g w,H.Anch κ g w->Walks H.P H.ty H.Wg (Round H.P H.ty H.Wg (H.Anch κ) (isK κ)) g w
section
variable [Payload] {H:Ph} {j:Nat} {D:Nat->WX} {mine:Nat->Prop} {got:Nat->Option Value} {κ:Goroutine} {closed:Bool} {tag:bT} {f0 d0:Nat} {gs:Array Goroutine} {w:World} {sl:Option (Nat×Nat)} {t:Trace} {a:Goroutine} {x:Nat->Goroutine} {q:Nat->Nat} {st sm:Int}
theorem SS.offT(O:nk H)(h:SS H j mine got κ tag f0 d0 a w)(c:Nat):offersAt a c true= []:=by
 rcases h.status O.ar with⟨hs,_⟩|⟨_,ht⟩
 ·exact offersAt_of_not_blocked (by rw[hs];simp) c true
 ·cases h with
  |rcv e s h=>exact offersAt_parked_recv' _ _ _ _ _
  |blk e h=>have:=(h w (RS.refl w)).2.1;simp[offersAt,this]
  |_=>cases ht
theorem SS.offF(O:nk H)(h:SS H j mine got κ tag f0 d0 a w)(hn:∀k,tag≠.col k true)(c:Nat):offersAt a c false= []:=by
 rcases h.status O.ar with⟨hs,_⟩|⟨_,ht⟩
 ·exact offersAt_of_not_blocked (by rw[hs];simp) c false
 ·cases h with
  |rcv e s h=>exact absurd rfl (hn _)
  |blk e h=>have:=(h w (RS.refl w)).2.1;simp[offersAt,this]
  |_=>cases ht
theorem WS.XT{i:Nat}{d:WX}{g:Goroutine}(h:WS H i d g w)(Uu:H.R≠H.Dn):offersAt g H.Dn true= []/\offersAt g H.R false= []:=by
 rcases h.status with hs|⟨ny,_⟩
 ·have:g.status≠.blocked:=by rcases hs with hs|hs<;>rw[hs]<;>simp
  exact⟨offersAt_of_not_blocked this _ _,offersAt_of_not_blocked this _ _⟩
 ·cases h with
  |rX v z0 z1 g₂ h1 h2 h3 h4 h5 h6=>rw[h3];exact⟨CU (Ne.symm Uu),vK (Ne.symm Uu)⟩
  |born n gB rk h1=>omega
  |tree h1=>omega
  |sel v z0 z1 g₂ off h1=>omega
  |done h1=>omega
  |lib h1 h2 h3 h4=>omega
omit [Payload]in
theorem pK{P:Program}{k d:Nat}{g:Goroutine}(h:QuitsD P k d g)(c:Nat)(b:Bool):offersAt g c b= []:=offersAt_of_not_blocked (by rcases h.status with hs|hs<;>rw[hs]<;>simp) c b
theorem QI(O:nk H)(hA:nu H.P H.o j gs a x q t)(hS:SS H j mine got κ tag f0 d0 a w)(hW:∀i,i<j->WS H i (D i) (x i) w)(Uu:H.R≠H.Dn)(k:Nat):partners (gs.setIfInBounds k ph) H.Dn true= []:=by
 refine partners_nil fun i g hg=>?_;by_cases e:k=i
 ·subst e;by_cases hk:k<gs.size
  ·rw[Array.getElem?_setIfInBounds_self_of_lt hk]at hg;obtain rfl:=Option.some.inj hg;rfl
  ·rw[Array.getElem?_eq_none (by simpa using hk)]at hg;cases hg
 ·rw[Array.getElem?_setIfInBounds_ne e]at hg;rcases hA.cases hg with⟨rfl,rfl⟩|⟨h0,hi⟩|⟨i',hi',rfl,rfl⟩
  ·exact hS.offT O _
  ·exact pK (hA.old i g h0 hi hg) _ _
  ·exact((hW i' hi').XT Uu).1
theorem QH(O:nk H)(hA:nu H.P H.o j gs a x q t)(hS:SS H j mine got κ tag f0 d0 a w)(hW:∀i,i<j->WS H i (D i) (x i) w)(Uu:H.R≠H.Dn)(hn:∀k,tag≠.col k true)(k:Nat):partners (gs.setIfInBounds k ph) H.R false= []:=by
 refine partners_nil fun i g hg=>?_;by_cases e:k=i
 ·subst e;by_cases hk:k<gs.size
  ·rw[Array.getElem?_setIfInBounds_self_of_lt hk]at hg;obtain rfl:=Option.some.inj hg;rfl
  ·rw[Array.getElem?_eq_none (by simpa using hk)]at hg;cases hg
 ·rw[Array.getElem?_setIfInBounds_ne e]at hg;rcases hA.cases hg with⟨rfl,rfl⟩|⟨h0,hi⟩|⟨i',hi',rfl,rfl⟩
  ·exact hS.offF O hn _
  ·exact pK (hA.old i g h0 hi hg) _ _
  ·exact((hW i' hi').XT Uu).2
omit [Payload]in
theorem CZ{i:Nat}{c:CTag}(d:WD)(hd:d.stage=(D i).st)(hm:ConcN.Mode j (bJ D) c st sm):ConcN.Mode j (upd (bJ D) i d) c st sm:=
 hm.congr fun a _=>by
  by_cases e:a=i
  ·subst e;rw[upd_same];exact hd
  ·rw[upd_ne (bJ D) _ e]
omit [Payload]in
theorem vY{i:Nat}{d':WX}(h:Sets H j D mine w.heap.size)(h1:d'.ow=(D i).ow)(h2:d'.vs=(D i).vs)(h3:d'.C=(D i).C){w':World}(hz:w.heap.size<=w'.heap.size):Sets H j (upd D i d') mine w'.heap.size:=
 h.congr (fun a _=>by
  by_cases e:a=i
  ·subst e;rw[upd_same];exact⟨h1,h2,h3⟩
  ·rw[upd_ne D _ e];exact⟨rfl,rfl,rfl⟩) hz
theorem setW(hA:nu H.P H.o j gs a x q t)(hS:SS H j mine got κ tag f0 d0 a w)(hW:∀i,i<j->WS H i (D i) (x i) w)(aC:Sets H j D mine w.heap.size)(hT:qb H j D d0 w.heap.size t)(hF:Fl H j D tag got κ closed mine w)
  (hCH:CH H closed w)(hwg:WgAt H.ty H.Wg w st sm)(hmode:ConcN.Mode j (bJ D) tag.c st sm){i:Nat}(hi:i<j){g':Goroutine}{d':WX}{u:Trace}
  (hrun:runT H.P (crowd gs w sl) (H.o+i)=(.next (crowd (gs.setIfInBounds (H.o+i) g') w sl),u))(hu:∀op∈u,op.act.touch? =none/\op.act.low w.heap.size/\(∀m,op.act≠.mark m))
  (hs':WS H i d' g' w)(h1:d'.ow=(D i).ow)(h2:d'.vs=(D i).vs)(h3:d'.C=(D i).C)(h4:d'.df=(D i).df)(h5:17<=(D i).ws)(h6:7<=d'.ws)(h7:d'.st=7)(hgu:d'.gu=true->closed=true)
  (hnone:closed=false->17<=d'.ws)(ny:d'.ws=17->¬(closed=true\/tag.late=true))(hlt:d'.ws<(D i).ws\/(d'.ws=(D i).ws/\Rk.Lt d'.rk (D i).rk)):
  ∃m₁ ops μ',runT H.P (crowd gs w sl) (H.o+i)=(.next m₁,ops)/\LL H.N μ' (meas H j D tag f0 q)/\Inv H μ' m₁ (t++ops):=by
 have hst:(D i).st=7:=by rcases(hW i hi).Fe with h|h;exact h.2;omega
 have hst':∀op∈u,op.act≠.mark .disable/\op.act≠.mark .enable:=fun op hop=>⟨(hu op hop).2.2 _,(hu op hop).2.2 _⟩;have hnr:tag≠.wt .ret:=fun e=>by
  subst e;exact hmode.not_ret hi (show(bJ D i).stage≠1 by simp only[bJ,WX.wd];omega) rfl
 have cn:ConcN.cnt d'.wd=ConcN.cnt (D i).wd:=by simp[ConcN.cnt,WX.wd,h7,hst]
 refine⟨_,_,_,hrun,Q7 (D:=D) (d':=d') hi hF.jN (.inl rfl) (hlt.imp (fun h=>⟨h,Nat.le_of_eq cn⟩) fun h=>⟨h.1,cn,h.2⟩),_,w,sl,j,upd D i d',mine,got,κ,closed,tag,f0,d0,a,upd x i g',q,st,sm,rfl,
  hA.setW hi fun _ _ _=>Deaf_still _ _ _ hst',hS,fun i' hi'=>?_,vY aC h1 h2 h3 (Nat.le_refl _),(hT.appC hu).upd h1 h2 h4 (fun h=>by omega),?_,hCH,hwg,by rw[vW];exact CZ _ (by simp only[WX.wd];omega) hmode,fun e=>absurd e hnr,rfl⟩
 ·by_cases e:i'=i
  ·subst e;rw[upd_same,upd_same];exact hs'
  ·rw[upd_ne D _ e,upd_ne x _ e];exact hW i' hi'
 ·refine⟨hF.jN,fun i' hi'=>?_,fun hc i' hi'=>?_,fun i' v hv=>?_,fun hc i' hi' hn=>?_,hF.cnt,hF.sp,hF.wt,hF.cl⟩
  ·by_cases e:i'=i
   ·subst e;rw[upd_same];exact hgu
   ·rw[upd_ne D _ e];exact hF.gu i' hi'
  ·by_cases e:i'=i
   ·subst e;rw[upd_same];exact fun h=>ny h hc
   ·rw[upd_ne D _ e];exact hF.np hc i' hi'
  ·obtain⟨k1,k2,k3⟩:=hF.some i' v hv;by_cases e:i'=i
   ·subst e;omega
   ·rw[upd_ne D _ e];exact⟨k1,k2,k3⟩
  ·by_cases e:i'=i
   ·subst e;rw[upd_same];exact hnone hc
   ·rw[upd_ne D _ e];exact hF.none hc i' hi' hn
omit [Payload]in
theorem jc{w:World}{c cap s r:Nat}{b:Array Value}{cl tm:Bool}{k:Nat}(h:k≠c):(w.setChan c cap b cl s r tm).heap[k]? =w.heap[k]? :=by
 simp[World.setChan,Array.getElem?_setIfInBounds_ne (Ne.symm h)]
omit [Payload]in
theorem Dm{w:World}{c cap s r:Nat}{b:Array Value}{cl tm:Bool}(h:c<w.heap.size):(w.setChan c cap b cl s r tm).heap[c]? =some (.chan cap b cl s r tm):=by
 simp[World.setChan,h]
omit [Payload]in
theorem lI{w:World}{c cap s r:Nat}{b:Array Value}{cl tm:Bool}:(w.setChan c cap b cl s r tm).heap.size=w.heap.size:=by simp[World.setChan]
omit [Payload]in
theorem Vf{w:World}{c cap s r d:Nat}{b:Array Value}{cl tm:Bool}(h:NV w):NV ((w.at d).setChan c cap b cl s r tm):=by
 intro k o hk;by_cases e:k=c
 ·subst e;rcases Nat.lt_or_ge k w.heap.size with hlt|hge
  ·have:=Dm (w:=w.at d) (c:=k) (cap:=cap) (b:=b) (cl:=cl) (s:=s) (r:=r) (tm:=tm) hlt;rw[this]at hk;obtain rfl:=Option.some.inj hk;exact trivial
  ·rw[Array.getElem?_eq_none (by rw[lI];exact hge)]at hk;cases hk
 ·rw[jc e]at hk;exact h k o hk
omit [Payload]in
theorem EW{ty:TypeId}{Wg:Nat}{See:Nat->Prop}{w:World}{c cap s r d:Nat}{b:Array Value}{cl tm:Bool}(hs:¬See c)(hw:Wg≠c):kW ty Wg See w ((w.at d).setChan c cap b cl s r tm):=
 ⟨Nat.le_of_eq lI.symm,fun _ hk=>jc (fun e=>hs (e▸hk)),fun⟨st,sm,h⟩=>⟨st,sm,(jc hw).trans h⟩,rfl,rfl,rfl,fun h=>Vf h⟩
theorem meet(hW:∀i,i<j->WS H i (D i) (x i) w)(aC:Sets H j D mine w.heap.size)(hT:qb H j D 0 w.heap.size t){k:Nat}{b:Bool}(hF:Fl H j D (.col (k+1) b) got κ closed mine w)(Y7:j=H.N)
  (hCH:CH H closed w)(hwg:WgAt H.ty H.Wg w st sm)(hmode:ConcN.Mode j (bJ D) .kd st sm){i:Nat}(hi:i<j){v z0 z1 z:Value}{g₂ gj:Goroutine}(ny:17<=(D i).ws)(hsel:zf H (D i) v z0 z1 g₂)(FX:UD H i (D i) v w)(hpay:uG (D i) w)(hgu:(D i).gu=false)
  (hcont:∀i v,i<H.N->got i=none->H.Pv i v->Cont H mine (fun w₁=>∃n,aS H (fun m g w=>oW H k (upd got i (some v)) m g w\/AtClose H (upd got i (some v)) m g w) n mine (gj.finishComm H.P #[rcase H.R z] (.recv false) 0 v true) w₁) w)
  {s r d c:Nat}{tm:Bool}{gs':Array Goroutine}{u:Trace}
  (hrun:runT H.P (crowd gs w sl) c=(.next (crowd gs' ((w.at d).setChan H.R 0 #[] false s r tm) sl),u))(hu:∀op∈u,op.act.touch? =none/\op.act.low w.heap.size/\(∀m,op.act≠.mark m))
  (hgs:∀t',(∀k,Deaf t' k=Deaf t k)->nu H.P H.o j gs' (gj.finishComm H.P #[rcase H.R z] (.recv false) 0 v true) (upd x i (g₂.finishComm H.P (two H.R H.Dn v z0 z1) .select 0 undef false)) q t'):
  ∃m₁ ops μ',runT H.P (crowd gs w sl) c=(.next m₁,ops)/\LL H.N μ' (meas H j D (.col (k+1) b) f0 q)/\Inv H μ' m₁ (t++ops):=by
 obtain⟨hcl,hcnt⟩:=hF.cnt (k+1) b rfl;have hnone:got i=none:=by
  cases e:got i with
  |none=>rfl
  |some v'=>have:=(hF.some i v' e).2.1;omega
 have hst:(D i).st=7:=by rcases(hW i hi).Fe with h|h;exact h.2;omega
 obtain⟨hgW,hgR,Ov,n1,n2,n3⟩:=aC.yE;have hr:∀See:Nat->Prop,¬See H.R->kW H.ty H.Wg See w ((w.at d).setChan H.R 0 #[] false s r tm):=fun See hs=>EW hs n1;have hr0:=hr (mO H mine) (fun h=>h.elim (fun h=>(aC.gX _ h).2.2.1 rfl) fun h=>(aC.mspec _ h).2.2.1 rfl);have Ba:∀i,i<j->kW H.ty H.Wg (D i).vs w ((w.at d).setChan H.R 0 #[] false s r tm):=fun i hi=>hr _ fun h=>(aC.fH i _ hi h).2.2.1 rfl;obtain⟨hshp,hkpt⟩:=FX hgu;obtain⟨n,hgo⟩:=hcont i v (Y7▸hi) hnone hshp _ hr0;have hlive:WgLive H.ty H.Wg ((w.at d).setChan H.R 0 #[] false s r tm):=⟨st,sm,(jc n1).trans hwg⟩;have Z4:=hpay.rely ((Ba i hi).row _ (aC.cv i hi));obtain⟨n',hw7⟩:=hsel.fin 0 undef false _ (.inl rfl) hlive Z4.2;have hst':∀op∈u,op.act≠.mark .disable/\op.act≠.mark .enable:=fun op hop=>⟨(hu op hop).2.2 _,(hu op hop).2.2 _⟩;have hdf:(D i).df=0:=by
  have:=hW i hi;cases this with
  |done a1=>omega
  |lib a1 a2 a3 a4=>omega
  |born n gB rk a1 a2 a3=>exact(by cases hD:D i;rw[hD]at a3;simp only[WX.wd,WD.mk.injEq]at a3;exact a3.2.2)
  |tree a1 a3=>exact(by cases hD:D i;rw[hD]at a3;simp only[WX.wd,WD.mk.injEq]at a3;exact a3.2.2)
  |sel v z0 z1 g₂ off a1 a3=>exact(by cases hD:D i;rw[hD]at a3;simp only[WX.wd,WD.mk.injEq]at a3;exact a3.2.2)
  |rX v z0 z1 g₂ a1 a3=>exact(by cases hD:D i;rw[hD]at a3;simp only[WX.wd,WD.mk.injEq]at a3;exact a3.2.2)
 let d':WX:= {D i with ws:=7,rk:=.ofNat n',st:=7,fu:=n',df:=0}
 have hT':qb H j (upd D i d') 0 ((w.at d).setChan H.R 0 #[] false s r tm).heap.size (t++u):=by rw[lI];exact(hT.appC hu).upd rfl rfl hdf.symm (fun h=>by simp[d']at h)
 have cn:ConcN.cnt d'.wd=ConcN.cnt (D i).wd:=by simp[ConcN.cnt,WX.wd,d',hst]
 have hsum:=sumTo_upd got (some v) (fun y=>if y=none then 1 else 0) (Nat.lt_of_lt_of_le hi hF.jN);simp only[hnone,if_true]at hsum;refine⟨_,_,meas H j (upd D i d') (.col k false) n q,hrun,gY ?_,gs',_,sl,j,upd D i d',mine,upd got i (some v),κ,closed,.col k false,n,0,_,_,q,st,sm,rfl,hgs _ fun _=>Deaf_still _ _ _ hst',.col Y7 hgo,fun i' hi'=>?_,(by rw[lI];exact vY (d':=d') (i:=i) (w':=w) aC rfl rfl rfl (Nat.le_refl _)),hT',?_,?_,(jc n1).trans hwg,by rw[vW];exact CZ _ (by simp only[WX.wd,d'];omega) hmode,(fun e=>by cases e),rfl⟩
 ·have e1:=DK (D:=D) hi d' hF.jN;have e2:=Ub (D:=D) hi d';have e3:d'.ws=7:=rfl;simp only[meas,cK];cases b<;>simp<;>omega
 ·by_cases e:i'=i
  ·subst e;rw[upd_same,upd_same];exact .done rfl rfl rfl rfl hw7
  ·rw[upd_ne D _ e,upd_ne x _ e];exact(hW i' hi').rely (Ba i' hi') (fun c hc=>aC.ov i' c hi' hc) (aC.cv i' hi')
 ·refine⟨hF.jN,fun i' hi'=>?_,fun hc=>?_,fun i' v' hv=>?_,fun hc i' hi' hn=>?_,fun k' b' e=>?_,fun r s e=>by(cases e),fun c e=>by(rcases e with e|e<;>cases e),fun e=>by(cases e)⟩
  ·by_cases e:i'=i
   ·subst e;rw[upd_same];exact fun h=>hF.gu i' hi' h
   ·rw[upd_ne D _ e];exact hF.gu i' hi'
  ·rcases hc with hc|hc
   ·rw[hcl]at hc;cases hc
   ·cases hc
  ·by_cases e:i'=i
   ·subst e;rw[upd_same]at hv;obtain rfl:=Option.some.inj hv;rw[upd_same];exact⟨hi,Nat.le_refl _,Ws.rely (d:=d') hkpt fun c hc _=>(Ba i' hi).row c (aC.ov i' c hi hc)⟩
   ·rw[upd_ne got _ e]at hv;obtain⟨k1,k2,k3⟩:=hF.some i' v' hv;rw[upd_ne D _ e];exact⟨k1,k2,k3.rely fun c hc _=>(Ba i' k1).row c (aC.ov i' c k1 hc)⟩
  ·by_cases e:i'=i
   ·subst e;rw[upd_same]at hn;cases hn
   ·rw[upd_ne got _ e]at hn;rw[upd_ne D _ e];exact hF.none hc i' hi' hn
  ·simp only[bT.col.injEq]at e;obtain⟨rfl,rfl⟩:=e;refine⟨hcl,?_⟩;simp at hsum;omega
 ·obtain⟨⟨sR,rR,xk,hR⟩,⟨sD,rD,tK,hD⟩,pU⟩:=hCH;exact⟨⟨s,r,tm,Dm (w:=w.at d) hgR⟩,⟨sD,rD,tK,(jc (Ne.symm n3)).trans hD⟩,pU.rely hr0 fun b hb _=>(hr (· =b) fun e=>(pU.2.2 b hb).1.2.1 e.symm).row b rfl⟩
end
end Go.iw
namespace Go.iw
open Go.Conc Go.ConcN Go.bB Go.Ren
open Go.ConcR (KK wgBlock WgAt stA smA rd wr mk Payload Aside2 DC0 Bk g_of_ofEvents again_blocked bk_of_mute ofEvent_loc_mark ofEvent_cell)
section
variable [Payload] {H:Ph} {j:Nat} {D:Nat->WX} {mine:Nat->Prop} {got:Nat->Option Value} {κ:Goroutine} {closed:Bool} {tag:bT} {f0 d0:Nat} {gs:Array Goroutine} {w:World} {sl:Option (Nat×Nat)} {t:Trace} {a:Goroutine} {x:Nat->Goroutine} {q:Nat->Nat} {st sm:Int}
omit [Payload]in
theorem kS{g:Nat}{fn:FuncId}{pos:String}:MemOp.ofEvents g fn pos #[]=#[]:=by rw[ofEvents_eq];simp
omit [Payload]in
theorem Xq{d:WX}(h:d.wd=⟨7,0,0⟩):d.st=7/\d.fu=0/\d.df=0:=by
 cases d;simp only[WX.wd,WD.mk.injEq]at h;exact h
theorem Kw(O:nk H)(hA:nu H.P H.o j gs a x q t)(hS:SS H j mine got κ tag f0 d0 a w)(hW:∀i,i<j->WS H i (D i) (x i) w)(aC:Sets H j D mine w.heap.size)(hT:qb H j D d0 w.heap.size t)(hF:Fl H j D tag got κ closed mine w)
  (hCH:CH H closed w)(hwg:WgAt H.ty H.Wg w st sm)(hmode:ConcN.Mode j (bJ D) tag.c st sm){i:Nat}(hi:i<j){v z0 z1:Value}{g₂:Goroutine}{off:Option (Array CommCase×CommShape)}
  (h18:18<=(D i).ws)(hwd:(D i).wd=⟨7,0,0⟩)(hx:x i= {g₂ with status:=.running,offers:=off})(hsel:zf H (D i) v z0 z1 g₂)(FX:UD H i (D i) v w)(hpay:uG (D i) w):
  ∃m₁ ops μ',runT H.P (crowd gs w sl) (H.o+i)=(.next m₁,ops)/\LL H.N μ' (meas H j D tag f0 q)/\Inv H μ' m₁ (t++ops):=by
 obtain⟨⟨sR,rR,xk,hR⟩,⟨sD,rD,tK,hD⟩,pU⟩:=hCH;obtain⟨hgW,hgR,Ov,n1,n2,n3⟩:=aC.yE;have hpos:=hA.pos;have hi0:(H.o+i==0)=false:=by simp;omega
 have hcm:stepG H.P (H.o+i==0) (x i) w= .comm g₂ (two H.R H.Dn v z0 z1) true .select w #[]:=by rw[hi0,hx];exact hsel.cm w off
 have hxi:=hA.w i hi;have pD:=QI O hA hS hW n3 (H.o+i);obtain⟨hst,hfu,hdf⟩:=Xq hwd;have hlive:WgLive H.ty H.Wg w:=⟨st,sm,hwg⟩;cases hc:closed with
 |true=>
  subst hc;have hn:∀k,tag≠.col k true:=fun k e=>by have:=(hF.cnt k true e).1;cases this
  have hrun:=IV (sl:=sl) hxi hcm hR hD (QH O hA hS hW n3 hn (H.o+i)) pD;obtain⟨n,hg⟩:=hsel.fin 1 z1 false w (.inr rfl) hlive hpay.2;refine setW (d':= {D i with ws:=7,rk:=.ofNat n,st:=7,fu:=n,df:=0}) hA hS hW aC hT hF ⟨⟨sR,rR,xk,hR⟩,⟨sD,rD,tK,hD⟩,pU⟩ hwg hmode hi hrun ?_ (.done rfl rfl rfl rfl hg) rfl rfl rfl hdf.symm (by omega) (Nat.le_refl _) rfl (fun _=>rfl) (fun e=>by cases e) (fun e=>by simp at e) (.inl (by simp only;omega));intro op hop;rw[kS]at hop;simp only[Array.empty_append,List.mem_toArray,List.mem_cons,List.not_mem_nil,or_false]at hop;subst hop;exact⟨rfl,Ov,fun m e=>by cases e⟩
 |false=>
  subst hc;have hgu:(D i).gu=false:=by
   cases e:(D i).gu with
   |false=>rfl
   |true=>have:=hF.gu i hi e;cases this
  by_cases hp:∃k,tag= .col k true
  ·obtain⟨k0,rfl⟩:=hp;cases hS with
   |@rcv k _ z gj _ Y7 hgj hcont=>
    have hp0:partners (gs.setIfInBounds (H.o+i) ph) H.R false= [(0,0)]:=by
     have h0:(gs.setIfInBounds (H.o+i) ph)[0]? =some (parked gj #[rcase H.R z] (.recv false)):=by rw[Array.getElem?_setIfInBounds_ne (by omega)];exact hA.z
     have hof:offersAt (parked gj #[rcase H.R z] (.recv false)) H.R false= [0]:=by rw[offersAt_parked_recv];simp
     have:=partners_one (r:=H.R) (send:=false) h0 (fun k g hk hg=>by
      by_cases e:H.o+i=k
      ·subst e;rw[Array.getElem?_setIfInBounds_self_of_lt (by rw[hA.size];omega)]at hg;obtain rfl:=Option.some.inj hg;rfl
      ·rw[Array.getElem?_setIfInBounds_ne e]at hg;rcases hA.cases hg with⟨rfl,rfl⟩|⟨h0,hi⟩|⟨i',hi',rfl,rfl⟩
       ·exact absurd rfl hk
       ·exact pK (hA.old k g h0 hi hg) _ _
       ·exact((hW i' hi').XT n3).2)
     rw[this,hof];rfl
    have hrun:=Nr (sl:=sl) hxi hcm hR hD (j:=0) (by omega) hA.z hp0 pD;refine meet (d:=w.drawn) hW aC hT hF Y7 ⟨⟨sR,rR,xk,hR⟩,⟨sD,rD,tK,hD⟩,pU⟩ hwg hmode hi (by omega) hsel FX hpay hgu hcont hrun ?_ fun t' hd=>?_
    ·intro op hop;rw[kS]at hop;simp only[Array.empty_append,List.mem_toArray,List.mem_cons,List.not_mem_nil,or_false]at hop;rcases hop with rfl|rfl|rfl|rfl
     iterate 4 (·exact⟨rfl,hgR,fun m e=>by cases e⟩)
    ·exact(hA.set0 (u:=t) fun _ _ _=>rfl).setW hi fun k _ _=>hd k
  ·have hn:∀k,tag≠.col k true:=fun k e=>hp ⟨k,e⟩;have hrun:=Nq (sl:=sl) hxi hcm hR hD (QH O hA hS hW n3 hn (H.o+i)) pD;have hlate:tag.late=false:=by
    cases hl:tag.late with
    |false=>rfl
    |true=>
     exfalso;have wtc:(∃c,tag= .wt c\/tag= .wm)->False:=by
      rintro⟨c,e⟩;obtain⟨ok,h1,h2,_⟩:=hF.wt c e;have hok:ok=true:=by cases ok with
       |true=>rfl
       |false=>cases h1
      have:=h2 hok i (Nat.lt_of_lt_of_le hi hF.jN);cases e2:got i with
      |none=>exact this e2
      |some v'=>have:=(hF.some i v' e2).2.1;omega
     cases tag with
     |sp r s=>cases hl
     |col k b=>exact hn k (by simp only[bT.late]at hl;rw[hl])
     |cl=>have:=hF.cl rfl;cases this
     |wm=>exact wtc ⟨.kd,.inr rfl⟩
     |wt c=>exact wtc ⟨c,.inl rfl⟩
   refine setW (d':= {D i with ws:=17}) hA hS hW aC hT hF ⟨⟨sR,rR,xk,hR⟩,⟨sD,rD,tK,hD⟩,pU⟩ hwg hmode hi hrun ?_ (.rX v z0 z1 g₂ rfl hwd rfl ⟨hsel.cm,hsel.fin⟩ FX hpay) rfl rfl rfl rfl (by omega) (by simp) hst (fun e=>by simp only at e;rw[hgu]at e;cases e) (fun _=>Nat.le_refl _) ?_ (.inl (by simp only;omega))
   ·intro op hop;rw[kS]at hop;simp at hop
   ·rintro _ (e|e)
    ·cases e
    ·rw[hlate]at e;cases e
omit [Payload]in
theorem YK{ρ:Array Nat}{p:World}{e:Event}(h:EvF ρ p e){B:Nat}(hB:∀c,Ac ρ p c->c<B):(MemAct.ofEvent e).low B/\e.loc≠.mark .disable/\e.loc≠.mark .enable/\(∀a,e.loc≠.mark (.release a))/\∀y,(MemAct.ofEvent e).touch? =some y->∃c i,y.loc= .cell ⟨c,i,none⟩/\y.kind= .plain/\Ac ρ p c/\(y.write=true->Own ρ p c):=by
 rcases h with⟨c,i,wr,rfl,h1,h2⟩|rfl|⟨f,rfl⟩
 ·refine⟨hB c h1,by simp,by simp,by simp,fun y hy=>?_⟩;simp only[MemAct.ofEvent,MemAct.touch?,Option.some.injEq]at hy;subst hy;exact⟨c,i,rfl,rfl,h1,h2⟩
 iterate 2 (·exact⟨trivial,by simp,by simp,by simp,fun y hy=>by simp[MemAct.ofEvent,MemAct.touch?]at hy⟩)
theorem EC(O:nk H)(hA:nu H.P H.o j gs a x q t)(hS:SS H j mine got κ tag f0 d0 a w)(hW:∀i,i<j->WS H i (D i) (x i) w)(aC:Sets H j D mine w.heap.size)(hT:qb H j D d0 w.heap.size t)(hF:Fl H j D tag got κ closed mine w)
  (hCH:CH H closed w)(hwg:WgAt H.ty H.Wg w st sm)(hmode:ConcN.Mode j (bJ D) tag.c st sm){i:Nat}(hi:i<j){rk:Rk}(Vy:((D i).ws=20/\(D i).rk=rk)\/(D i).ws=22)(hwd:(D i).wd=⟨7,0,0⟩)
  (FU:qX H i (D i) rk (x i) w)(hpay:uG (D i) w):
  ∃m₁ ops μ',runT H.P (crowd gs w sl) (H.o+i)=(.next m₁,ops)/\LL H.N μ' (meas H j D tag f0 q)/\Inv H μ' m₁ (t++ops):=by
 obtain⟨ρ,p,f,fs,f',fs',hx,Yx,ZL,how,hvs,hext⟩:=FU;obtain⟨hst,hfu,hdf⟩:=Xq hwd;have h18:18<=(D i).ws:=by rcases Vy with⟨h,_⟩|h<;>omega
 have hstop:H.Stop i ⟨if(D i).gu then 1 else 0,f,fs,p⟩->∃m₁ ops μ',runT H.P (crowd gs w sl) (H.o+i)=(.next m₁,ops)/\LL H.N μ' (meas H j D tag f0 q)/\Inv H μ' m₁ (t++ops):=by
  intro hs;obtain⟨v,z0,z1,g₂,off,e,hsel,FX⟩:=O.stop i (D i) ρ p f fs f' fs' w Yx hext hs how hvs hpay (aC.co i hi);exact Kw O hA hS hW aC hT hF hCH hwg hmode hi h18 hwd (hx.trans e) hsel FX hpay
 cases rk with
 |zero=>exact hstop ZL
 |mk F=>
  rcases ZL with hs|hs|⟨Next,Z8,hs⟩
  ·exact hstop hs
  ·obtain⟨f1,fs1,p1,es,e,hw1⟩:=hs w.tape w.drawn;obtain⟨iy,Gn,Dc,u1,es',hgo,hfol1,hz,hkeep,hos,hout,htp,hv1,ho1,hv2,ho2,hext1,hlow,hnv,hev⟩:=Yx.step (main:=false) O.cl O.ck e;obtain⟨hgW,hgR,Ov,n1,n2,n3⟩:=aC.yE;obtain⟨⟨sR,rR,xk,hR⟩,⟨sD,rD,tK,hD⟩,pU⟩:=hCH;have hnot:∀c,¬(D i).ow c->c<w.heap.size->u1.heap[c]? =w.heap[c]? :=fun c hc hlt=>hkeep c hlt (by rw[how]at hc;exact hc);have hspec:∀c,c=H.Wg\/c=H.R\/c=H.Dn->c<w.heap.size/\u1.heap[c]? =w.heap[c]? :=by
    intro c hc;have hlt:c<w.heap.size:=by rcases hc with rfl|rfl|rfl<;>assumption
    refine⟨hlt,hnot c ?_ hlt⟩;intro ho;have:=aC.fH i c hi (aC.ov i c hi ho);rcases hc with rfl|rfl|rfl
    ·exact this.2.1 rfl
    ·exact this.2.2.1 rfl
    ·exact this.2.2.2.1 rfl
   have hwg':WgAt H.ty H.Wg u1 st sm:=(hspec _ (.inl rfl)).2.trans hwg;have hr:∀See:Nat->Prop,(∀b,See b->b<w.heap.size/\¬(D i).ow b)->kW H.ty H.Wg See w u1:=fun See ZR=>
    ⟨hz,fun b hb=>hnot b (ZR b hb).2 (ZR b hb).1,fun _=>⟨st,sm,hwg'⟩,htp,hos,hout,hnv⟩
   have hr0:kW H.ty H.Wg (mO H mine) w u1:=hr _ fun b hb=>hb.elim (fun h=>⟨(aC.gX b h).1,fun ho=>aC.om i b hi ho h⟩) fun h=>⟨(aC.mspec b h).1,fun ho=>aC.vm i b hi (aC.ov i b hi ho) h⟩;have hrw:∀i',i'<j->i'≠i->kW H.ty H.Wg (D i').vs w u1:=fun i' hi' hne=>hr _ fun b hb=>⟨(aC.fH i' b hi' hb).1,fun ho=>aC.apart i i' b hi hi' (Ne.symm hne) ho hb⟩;let d':WX:= {D i with ws:=20,rk:=F ⟨if(D i).gu then 1 else 0,f1,fs1,p1⟩,ow:=Own iy p1,vs:=Ac iy p1}
   have hC0:(D i).C<w.heap.size:=(aC.fH i _ hi (aC.cv i hi)).1;have hvs':∀c,(upd D i d' i).vs c->(D i).vs c\/w.heap.size<=c:=fun c hc=>by rw[upd_same]at hc;rw[hvs];exact hv1 c hc
   have how':∀c,(upd D i d' i).ow c->(D i).ow c\/w.heap.size<=c:=fun c hc=>by rw[upd_same]at hc;rw[how];exact ho1 c hc
   have hvv:∀i' c,i'<j->(upd D i d' i').vs c->(D i').vs c\/(i'=i/\w.heap.size<=c):=fun i' c hi' hc=>by
    by_cases e:i'=i
    ·subst e;exact(hvs' c hc).imp id fun h=>⟨rfl,h⟩
    ·rw[upd_ne D _ e]at hc;exact .inl hc
   have hoo:∀i' c,i'<j->(upd D i d' i').ow c->(D i').ow c\/(i'=i/\w.heap.size<=c):=fun i' c hi' hc=>by
    by_cases e:i'=i
    ·subst e;exact(how' c hc).imp id fun h=>⟨rfl,h⟩
    ·rw[upd_ne D _ e]at hc;exact .inl hc
   have hcc:∀i',(upd D i d' i').C=(D i').C:=fun i'=>by
    by_cases e:i'=i
    ·subst e;rw[upd_same]
    ·rw[upd_ne D _ e]
   have hset':Sets H j (upd D i d') mine u1.heap.size:=by
    refine⟨fun b hb=>⟨Nat.lt_of_lt_of_le (aC.gX b hb).1 hz,(aC.gX b hb).2⟩,fun b hb=>⟨Nat.lt_of_lt_of_le (aC.mspec b hb).1 hz,(aC.mspec b hb).2⟩,aC.Ob,fun i' b hi' hb=>?_,fun i' b hi' hb=>?_,fun i' b hi' hb hm=>?_,fun i' b hi' hb ho=>?_,fun i1 i2 b h1 h2 hne hb hb'=>?_,fun i' hi'=>?_,fun i' hi'=>by rw[hcc];exact aC.cold i' hi',fun i' hi' hb=>?_,fun i1 i2 h1 h2 hne hb=>?_,⟨by omega,by omega,by omega,n1,n2,n3⟩,fun b k hb=>aC.fresh b k (Nat.le_trans hz hb)⟩
    ·rcases hvv i' b hi' hb with h|⟨rfl,h⟩
     ·exact⟨Nat.lt_of_lt_of_le (aC.fH i' b hi' h).1 hz,(aC.fH i' b hi' h).2⟩
     ·rw[upd_same]at hb;exact⟨hlow b hb,by omega,by omega,by omega,fun k=>aC.fresh b k h⟩
    ·by_cases e:i'=i
     ·subst e;rw[upd_same]at hb⊢;exact Own.vis hb
     ·rw[upd_ne D _ e]at hb⊢;exact aC.ov i' b hi' hb
    ·rcases hvv i' b hi' hb with h|⟨rfl,h⟩
     ·exact aC.vm i' b hi' h hm
     ·have:=(aC.mspec b hm).1;omega
    ·rcases hoo i' b hi' hb with h|⟨rfl,h⟩
     ·exact aC.om i' b hi' h ho
     ·have:=(aC.gX b ho).1;omega
    ·rcases hoo i1 b h1 hb with h|⟨rfl,h⟩
     ·rcases hvv i2 b h2 hb' with h'|⟨rfl,h'⟩
      ·exact aC.apart i1 i2 b h1 h2 hne h h'
      ·have:=(aC.fH i1 b h1 (aC.ov i1 b h1 h)).1;omega
     ·rcases hvv i2 b h2 hb' with h'|⟨rfl,h'⟩
      ·have:=(aC.fH i2 b h2 h').1;omega
      ·exact hne rfl
    ·rw[hcc];by_cases e:i'=i
     ·subst e;rw[upd_same];exact hv2 _ (by rw[<-hvs];exact aC.cv i' hi')
     ·rw[upd_ne D _ e];exact aC.cv i' hi'
    ·rw[hcc]at hb;rcases hoo i' _ hi' hb with h|⟨rfl,h⟩
     ·exact aC.co i' hi' h
     ·omega
    ·rw[hcc]at hb;rcases hvv i2 _ h2 hb with h|⟨rfl,h⟩
     ·exact aC.cap i1 i2 h1 h2 hne h
     ·have:=(aC.fH i1 _ h1 (aC.cv i1 h1)).1;omega
   have RZ:=fun e (he:e∈es')=>YK (hev e he) (B:=u1.heap.size) hlow;have hgrow:TI H.Shun (JZ H.o j) (Bw H.o j (upd D i d')) (Bv H.o j (upd D i d')) H.Wg u1.heap.size t:=by
    refine hT.ti.grow (fun k c _ ⟨i',hi',e,h⟩=>?_) (fun k c _ ⟨i',hi',e,h⟩=>?_) (fun k c ⟨i',hi',e,h⟩=>⟨i',hi',e,?_⟩) (fun k c ⟨i',hi',e,h⟩=>⟨i',hi',e,?_⟩) hz
    ·exact(hoo i' c hi' h).imp (fun h=>⟨i',hi',e,h⟩) fun h=>h.2
    ·exact(hvv i' c hi' h).imp (fun h=>⟨i',hi',e,h⟩) fun h=>h.2
    ·by_cases e:i'=i
     ·subst e;rw[upd_same];exact ho2 c (by rw[<-how];exact h)
     ·rw[upd_ne D _ e];exact h
    ·by_cases e:i'=i
     ·subst e;rw[upd_same];exact hv2 c (by rw[<-hvs];exact h)
     ·rw[upd_ne D _ e];exact h
   have hti:TI H.Shun (JZ H.o j) (Bw H.o j (upd D i d')) (Bv H.o j (upd D i d')) H.Wg u1.heap.size (t++MemOp.ofEvents (H.o+i) (x i).frame.fn (x i).frame.place es'):=by
    refine hgrow.work (hset'.sep hA.pos) (k:=H.o+i) ⟨i,hi,rfl⟩ g_of_ofEvents (fun op hop=>?_) (fun op hop y hy=>?_)
    ·obtain⟨e,he,rfl⟩:=Go.Conc.mem_ofEvents hop;exact(RZ e he).1
    ·obtain⟨e,he,rfl⟩:=Go.Conc.mem_ofEvents hop;obtain⟨c,k,h1,h2,h3,h4⟩:=(RZ e he).2.2.2.2 y hy;exact⟨c,k,h1,h2,⟨i,hi,rfl,by rw[upd_same];exact h3⟩,fun hw=>⟨i,hi,rfl,by rw[upd_same];exact h4 hw⟩⟩
   have hnr:tag≠.wt .ret:=fun e=>by
    subst e;exact hmode.not_ret hi (show(bJ D i).stage≠1 by simp only[bJ,WX.wd];omega) rfl
   refine goW O.ar hA hS hW aC hF hi (d':=d') (by rw[hx];exact hgo) hr0 hrw ?_ hset' (hT.appW hA.pos hi hti (fun e he=>(RZ e he).2.2.2.1 _) (by rw[deafBehind_still (fun e he=>⟨(RZ e he).2.1,(RZ e he).2.2.1⟩)]) (fun h=>by simp[d']at h)) (fun h=>hF.gu i hi h) (fun v hv=>by have:=(hF.some i v hv).2.1;omega) (fun _ _=>by simp[d']) (by simp[d'])
    ⟨⟨sR,rR,xk,(hspec _ (.inr (.inl rfl))).2.trans hR⟩,⟨sD,rD,tK,(hspec _ (.inr (.inr rfl))).2.trans hD⟩,pU.rely hr0 fun b hb hlt=>hnot b (fun ho=>(aC.fH i b hi (aC.ov i b hi ho)).2.2.2.2 0 (pU.2.2 b hb).1.2.2.2) hlt⟩ hwg' (fun tag' ht _=>?_) (fun e=>absurd e hnr) ?_
   ·exact .tree rfl hwd ⟨iy,p1,f1,fs1,Gn,Dc,rfl,hfol1,hw1,rfl,rfl,hext.trans hext1⟩ (hpay.rely (hnot _ (aC.co i hi) hC0))
   ·have:ConcN.Mode j (upd (bJ D) i d'.wd) tag.c st sm:=CZ _ (by simp only[WX.wd,d']) hmode;rcases ht with rfl|⟨rfl,rfl⟩
    ·exact this
    ·exact this.retag (.inr ⟨rfl,rfl⟩)
   ·rcases Vy with⟨h,h'⟩|h
    ·exact .inr ⟨h.symm,rfl,by rw[h'];exact⟨F,_,rfl,rfl⟩⟩
    ·exact .inl ⟨by rw[h];show 20<22;omega,Nat.le_refl _⟩
  ·obtain⟨z,sh,g₂,f1,Gn,f2,f2',hcm,e1,hf1,hn1,e2,hf2,hn2⟩:=O.node i _ ρ p f fs f' fs' w Next Yx hext Z8;obtain⟨hgW,hgR,Ov,n1,n2,n3⟩:=aC.yE;have hCH':=hCH;obtain⟨⟨sR,rR,xk,hR⟩,⟨sD,rD,tK,hD⟩,pU⟩:=hCH;have hpos:=hA.pos;have hi0:(H.o+i==0)=false:=by simp;omega
   have hxi:=hA.w i hi;have hcm':stepG H.P (H.o+i==0) (x i) w= .comm g₂ #[rcase H.Dn z] false sh w #[]:=by rw[hi0,hx];exact hcm w
   have pD:=QI O hA hS hW n3 (H.o+i);cases hc:closed with
   |false=>
    subst hc;have hrun:=crowd_default (sl:=sl) hxi hcm' (fun cc hcc=>by
     simp only[List.mem_toArray,List.mem_cons,List.not_mem_nil,or_false]at hcc;subst hcc;exact pJ hD pD)
    rw[e1]at hrun;refine setW (d':= {D i with ws:=20,rk:=F ⟨if(D i).gu then 1 else 0,f1,fs,p⟩}) hA hS hW aC hT hF hCH' hwg hmode hi hrun (fun op hop=>by rw[kS]at hop;simp at hop) (.tree rfl hwd ⟨ρ,p,f1,fs,Gn,fs',rfl,hf1,hs _ hn1,how,hvs,hext⟩ hpay) rfl rfl rfl rfl (by omega) (by simp) hst (fun h=>hF.gu i hi h) (fun _=>by simp) (fun h=>by simp at h) ?_;rcases Vy with⟨h,h'⟩|h
    ·exact .inr ⟨by simp[h],by rw[h'];exact⟨F,_,rfl,rfl⟩⟩
    ·exact .inl (by simp[h])
   |true=>
    subst hc;have hrun:=crowd_recv_closed (sl:=sl) hxi hcm' hD pD;rw[e2]at hrun;refine setW (d':= {D i with ws:=20,rk:=F ⟨1,f2,fs,p⟩,gu:=true}) hA hS hW aC hT hF hCH' hwg hmode hi hrun (fun op hop=>?_) (.tree rfl hwd ⟨ρ,p,f2,fs,f2',fs',rfl,hf2,hs _ hn2,how,hvs,hext⟩ hpay) rfl rfl rfl rfl (by omega) (by simp) hst (fun _=>rfl) (fun h=>by cases h) (fun h=>by simp at h) ?_
    ·rw[kS]at hop;simp only[Array.empty_append,List.mem_toArray,List.mem_cons,List.not_mem_nil,or_false]at hop;subst hop;exact⟨rfl,Ov,fun m e=>by cases e⟩
    ·rcases Vy with⟨h,h'⟩|h
     ·exact .inr ⟨by simp[h],by rw[h'];exact⟨F,_,rfl,rfl⟩⟩
     ·exact .inl (by simp[h])
end
end Go.iw
