import Derived.Test.YtmfpiodlecapiaaGreatDoorJ26
import Derived.Conc.CompanyWords
import Derived.Conc.DeferLaws
namespace Go.iw
open Go.Conc Go.ConcN Go.bB Go.Ren
open Go.ConcR (KK wgBlock WgAt stA smA rd wr mk Payload Aside2 DC0 Bk g_of_ofEvents again_blocked bk_of_mute ofEvent_loc_mark ofEvent_cell ofEvent_mk)
theorem I5{P:Program}{g g':Goroutine}{cs cs':Array CommCase}{sh sh':CommShape}(h:parked g cs sh=parked g' cs' sh')(k:Int)(v:Value)(ok:Bool)(c2:Array CommCase)(s2:CommShape):g.finishComm P c2 s2 k v ok=g'.finishComm P c2 s2 k v ok/\cs=cs'/\sh=sh':=by
 obtain⟨f,c,s,d,o⟩:=g;obtain⟨f',c',s',d',o'⟩:=g';simp only[parked,Goroutine.mk.injEq,Option.some.injEq,Prod.mk.injEq,true_and]at h;obtain⟨rfl,rfl,rfl,rfl,rfl⟩:=h;exact⟨rfl,rfl,rfl⟩
section
variable [Payload] {H:Ph} {j:Nat} {D:Nat->WX} {mine bH:Nat->Prop} {got:Nat->Option Value} {κ:Goroutine} {closed:Bool} {tag tag':bT} {f0 f' d0:Nat} {gs:Array Goroutine} {w w':World} {sl:Option (Nat×Nat)} {t:Trace} {a a':Goroutine} {x:Nat->Goroutine} {q:Nat->Nat} {st sm st' sm':Int} {es:Array Event}
omit [Payload]in
theorem qb.cong{D D':Nat->WX}{sz:Nat}(h:qb H j D d0 sz t)(hd:∀i,i<j->(D' i).ow=(D i).ow/\(D' i).vs=(D i).vs/\(D' i).df=(D i).df/\((D' i).ws<=6->(D i).ws<=6)):qb H j D' d0 sz t:=by
 have eo:Bw H.o j D'=Bw H.o j D:=by
  funext k c;exact propext ⟨fun⟨i,hi,e,h⟩=>⟨i,hi,e,(hd i hi).1▸h⟩,fun⟨i,hi,e,h⟩=>⟨i,hi,e,(hd i hi).1.symm▸h⟩⟩
 have ev:Bv H.o j D'=Bv H.o j D:=by
  funext k c;exact propext ⟨fun⟨i,hi,e,h⟩=>⟨i,hi,e,(hd i hi).2.1▸h⟩,fun⟨i,hi,e,h⟩=>⟨i,hi,e,(hd i hi).2.1.symm▸h⟩⟩
 exact⟨by rw[eo,ev];exact h.ti,h.FC,h.over,h.deaf0,fun i hi=>by rw[(hd i hi).2.2.1];exact h.deafW i hi,h.qy,fun i hi hw=>h.rel i hi ((hd i hi).2.2.2 hw)⟩
def wake(d:WX):WX:=if d.ws=17 then {d with ws:=18}else d
omit [Payload]in
theorem dI(d:WX):(wake d).ow=d.ow/\(wake d).vs=d.vs/\(wake d).C=d.C/\(wake d).df=d.df/\(wake d).wd=d.wd/\(wake d).gu=d.gu/\(wake d).zv=d.zv/\(wake d).ws≠17/\d.ws<=(wake d).ws/\(wake d).ws<=d.ws+1:=by
 unfold wake;split
 ·rename_i h;exact⟨rfl,rfl,rfl,rfl,rfl,rfl,rfl,by simp,by simp[h],by simp[h]⟩
 ·rename_i h;exact⟨rfl,rfl,rfl,rfl,rfl,rfl,rfl,h,Nat.le_refl _,Nat.le_succ _⟩
theorem WS.wake{i:Nat}{d:WX}{g:Goroutine}(h:WS H i d g w){s r:Nat}{tm:Bool}(hD:w.heap[H.Dn]? =some (.chan 0 #[] true s r tm)):WS H i (iw.wake d) (g.again w) w:=by
 by_cases ny:d.ws=17
 ·cases h with
  |rX v z0 z1 g₂ h1 h2 h3 h4 h5 h6=>
   have e:iw.wake d= {d with ws:=18}:=by simp[iw.wake,ny]
   rw[e,h3,uE hD];exact .sel v z0 z1 g₂ (some (two H.R H.Dn v z0 z1,.select)) rfl h2 rfl ⟨h4.cm,h4.fin⟩ h5 h6
  |born n gB rk h1=>omega
  |tree h1=>omega
  |sel v z0 z1 g₂ off h1=>omega
  |done h1=>omega
  |lib h1 h2 h3 h4=>omega
 ·have e:iw.wake d=d:=by simp[iw.wake,ny]
  rw[e];rcases h.status with hs|⟨h',_⟩
  ·rw[again_running w hs];exact h
  ·exact absurd h' ny
omit [Payload]in
theorem Qh(N j:Nat)(D:Nat->WX):sumTo N (gG j fun i=>wake (D i))<=sumTo N (gG j D)+N:=by
 induction N with
 |zero=>simp[sumTo]
 |succ N ih=>
  simp only[sumTo];have:gG j (fun i=>wake (D i)) N<=gG j D N+1:=by
   simp only[gG];split
   ·exact(dI (D N)).2.2.2.2.2.2.2.2.2
   ·omega
  omega
section
variable (n:Now H j D mine got κ closed tag d0 gs w t a x q st sm)
include n
theorem Oa{k:Nat}(ht:tag= .col k false)(hd:d0=0)(e:j=H.N)(h:AtClose H got mine a w):Moves H gs w sl t 0 (meas H j D tag f0 q):=by
 subst ht;subst hd;obtain⟨hcl,_⟩:=n.hF.cnt k false rfl;subst hcl;obtain⟨⟨sR,rR,xk,hR⟩,⟨sD,rD,tK,hD⟩,pU⟩:=n.hCH;obtain⟨hrun,hall⟩:=h;obtain⟨g',es,hgo,hmw,hg's,hev,hcont⟩:=hall sD rD tK hD;obtain⟨hgW,hgR,Ov,n1,n2,n3⟩:=n.aC.yE;let w':=w.setChan H.Dn 0 #[] true sD rD tK
 have hw':w'=(w.at w.drawn).setChan H.Dn 0 #[] true sD rD tK:=rfl;have Ym:∀See:Nat->Prop,¬See H.Dn->kW H.ty H.Wg See w w':=fun See hs=>by rw[hw'];exact EW hs n2
 have hr0:=Ym (mO H mine) (fun h=>h.elim (fun h=>(n.aC.gX _ h).2.2.2.1 rfl) fun h=>(n.aC.mspec _ h).2.2.2.1 rfl);have Ba:∀i,i<j->kW H.ty H.Wg (D i).vs w w':=fun i hi=>Ym _ fun h=>(n.aC.fH i _ hi h).2.2.2.1 rfl;obtain⟨m,hg'⟩:=hcont w' hr0;have hD':w'.heap[H.Dn]? =some (.chan 0 #[] true sD rD tK):=Dm Ov;have hR':w'.heap[H.R]? =some (.chan 0 #[] false sR rR xk):=(jc n3).trans hR;have hrunT:=runT_crowd_go (P:=H.P) (sl:=sl) (i:=0) n.hA.z (show stepG H.P (0==0) a w=_ from hgo);have hW':∀i',i'<j->WS H i' (D i') (x i') w':=fun i' hi'=>(n.hW i' hi').rely (Ba i' hi') (fun c hc=>n.aC.ov i' c hi' hc) (n.aC.cv i' hi');have hd:∀k,0<k->k<H.o->Deaf (t++MemOp.ofEvents 0 a.frame.fn a.frame.place es) k=Deaf t k:=fun k hk _=>Deaf_other t (by omega) _ g_of_ofEvents;have zR:=n.hA.go0 (f:=woken H.P a g' w') (u:=t++MemOp.ofEvents 0 a.frame.fn a.frame.place es) (a':=g') (x':=fun i=>(x i).again w') (fun i' _=>by simp[Go.Conc.woken,hmw,hg's]) (fun k d g hQ=>woken_quitsD hQ) hd;have hsz:w'.heap.size=w.heap.size:=lI;have hdz:deafBehind 0 es=0:=deafBehind_still (fun e he=>⟨(hev e he).2.2.1,(hev e he).2.2.2.1⟩) 0;have hTR:qb H j (fun i=>wake (D i)) 0 w'.heap.size (t++MemOp.ofEvents 0 a.frame.fn a.frame.place es):=by
  rw[hsz];refine qb.cong (D:=D) ?_ fun i _=>⟨(dI (D i)).1,(dI (D i)).2.1,(dI (D i)).2.2.2.1,fun h=>Nat.le_trans (dI (D i)).2.2.2.2.2.2.2.2.1 h⟩;have:=n.hT.app0 (sz':=w.heap.size) (es:=es) (fn:=a.frame.fn) (pos:=a.frame.place) n.hA.pos (n.hT.ti.objs g_of_ofEvents (fun op hop=>by obtain⟨e,he,rfl⟩:=Go.Conc.mem_ofEvents hop;exact(hev e he).2.1) (fun op hop=>by obtain⟨e,he,rfl⟩:=Go.Conc.mem_ofEvents hop;exact(hev e he).1)) (fun e he=>(hev e he).2.2.2.2);rw[hdz]at this;exact this
 have hVc:Vc j (bJ fun i=>wake (D i))=Vc j (bJ D):=sumTo_congr fun i _=>by simp only[bJ,(dI (D i)).2.2.2.2.1]
 have hsum:=Qh H.N j D;have hmode:ConcN.Mode j (bJ fun i=>wake (D i)) .kd st sm:=ConcN.Mode.congr (fun i _=>by simp only[bJ,(dI (D i)).2.2.2.2.1]) n.hmode;refine⟨_,_,meas H j (fun i=>wake (D i)) .cl m q,hrunT,gY ?_,_,w',sl,j,fun i=>wake (D i),mine,got,κ,true,.cl,m,0,g',fun i=>(x i).again w',q,st,sm,rfl,zR,.cl e hg',fun i hi=>(hW' i hi).wake hD',?_,hTR,?_,⟨⟨sR,rR,xk,hR'⟩,⟨sD,rD,tK,hD'⟩,pU.rely hr0 fun b hb _=>(Ym (· =b) fun e=>(pU.2.2 b hb).1.2.2.1 e.symm).row b rfl⟩,(jc n2).trans n.hwg,hmode,(fun e=>by cases e),rfl⟩
 ·simp only[meas,cK,Bool.false_eq_true,if_false];omega
 ·rw[hsz];exact n.aC.congr (fun i _=>⟨(dI (D i)).1,(dI (D i)).2.1,(dI (D i)).2.2.1⟩) (Nat.le_refl _)
 ·refine⟨n.hF.jN,fun i hi _=>rfl,fun _ i _=>(dI (D i)).2.2.2.2.2.2.2.1,fun i v hv=>?_,fun hc=>by(cases hc),fun k b e=>by(cases e),fun r s e=>by(cases e),fun c e=>by(rcases e with e|e<;>cases e),fun _=>rfl⟩;obtain⟨h1,h2,F,k1,k2,k3⟩:=n.hF.some i v hv;have e:wake (D i)=D i:=by simp[wake,show(D i).ws≠17 by omega]
  rw[e];exact⟨h1,h2,F,k1,k1 w w' (fun c hc _=>(Ba i h1).row c (n.aC.ov i c h1 hc)) k2,k3⟩
theorem QX{k:Nat}(ht:tag= .col (k+1) false)(hd:d0=0)(e:j=H.N)(h:oW H (k+1) got mine a w):Moves H gs w sl t 0 (meas H j D tag f0 q):=by
 subst ht;subst hd;obtain⟨hcl,hcnt⟩:=n.hF.cnt (k+1) false rfl;subst hcl;have hCH:=n.hCH;obtain⟨⟨sR,rR,xk,hR⟩,⟨sD,rD,tK,hD⟩,pU⟩:=hCH;obtain⟨hrun,z,hcm,hcont⟩:=h;obtain⟨hgW,hgR,Ov,n1,n2,n3⟩:=n.aC.yE;have hpos:=n.hA.pos;have I6:∀i,i<j->(D i).ws=17->∃v z0 z1 gj,x i=parked gj (two H.R H.Dn v z0 z1) .select/\zf H (D i) v z0 z1 gj/\UD H i (D i) v w/\uG (D i) w:=by
  intro i hi ny;cases n.hW i hi with
  |rX v z0 z1 g₂ h1 h2 h3 h4 h5 h6=>exact⟨v,z0,z1,g₂,h3,h4,h5,h6⟩
  |born n gB rk h1=>omega
  |tree h1=>omega
  |sel v z0 z1 g₂ off h1=>omega
  |done h1=>omega
  |lib h1 h2 h3 h4=>omega
 by_cases hp:partners (gs.setIfInBounds 0 ph) H.R true= []
 ·have hno:∀i,i<j->(D i).ws≠17:=by
   intro i hi ny;obtain⟨v,z0,z1,gj,hx,_⟩:=I6 i hi ny;have:(H.o+i,0)∈partners (gs.setIfInBounds 0 ph) H.R true:=mem_partners.2 ⟨x i,by rw[Array.getElem?_setIfInBounds_ne (by omega)];exact n.hA.w i hi,by rw[hx,mW];simp⟩;rw[hp]at this;cases this
  have hrunT:=crowd_waits (sl:=sl) n.hA.z (show stepG H.P (0==0) a w=_ from hcm w) (fun cc hcc=>by
   simp only[List.mem_toArray,List.mem_cons,List.not_mem_nil,or_false]at hcc;subst hcc;exact pJ hR hp)
  rw[kS]at hrunT;refine⟨_,_,meas H j D (.col (k+1) true) 0 q,hrunT,gY (by simp[meas,cK]),_,w,sl,j,D,mine,got,κ,false,.col (k+1) true,0,0,_,x,q,st,sm,rfl,(n.hA.set0 fun _ _ _=>by rw[Array.append_empty]),.rcv e hrun hcont,n.hW,n.aC,by rw[Array.append_empty];exact n.hT,?_,n.hCH,n.hwg,n.hmode,(fun e=>by cases e),rfl⟩;exact⟨n.hF.jN,n.hF.gu,fun _=>hno,n.hF.some,n.hF.none,fun k' b e=>by(simp only[bT.col.injEq]at e;exact⟨rfl,e.1▸hcnt⟩),fun r s e=>by(cases e),fun c e=>by(rcases e with e|e<;>cases e),fun e=>by(cases e)⟩
 ·have hall:∀b c,(b,c)∈partners (gs.setIfInBounds 0 ph) H.R true->c=0/\b≠0/\∃gj vj z0 z1,gs[b]? =some (parked gj (two H.R H.Dn vj z0 z1) .select):=by
   intro b c hm;obtain⟨g,hg,hc⟩:=mem_partners.1 hm;by_cases e:0=b
   ·subst e;rw[Array.getElem?_setIfInBounds_self_of_lt (by rw[n.hA.size];omega)]at hg;obtain rfl:=Option.some.inj hg;simp[offersAt_ph]at hc
   ·rw[Array.getElem?_setIfInBounds_ne e]at hg;rcases n.hA.cases hg with⟨rfl,_⟩|⟨h0,hi⟩|⟨i,hi,rfl,rfl⟩
    ·exact absurd rfl e
    ·rw[pK (n.hA.old b g h0 hi hg)]at hc;cases hc
    ·by_cases ny:(D i).ws=17
     ·obtain⟨v,z0,z1,gj,hx,_⟩:=I6 i hi ny;rw[hx,mW]at hc;simp at hc;exact⟨hc,by omega,gj,v,z0,z1,hx▸hg⟩
     ·rcases(n.hW i hi).status with hs|⟨h',_⟩
      ·rw[offersAt_of_not_blocked (by rcases hs with hs|hs<;>rw[hs]<;>simp)]at hc;cases hc
      ·exact absurd h' ny
  obtain⟨b,gj,vj,z0,z1,d,hb0,hgb,hrunT⟩:=IY (sl:=sl) n.hA.z (show stepG H.P (0==0) a w=_ from hcm w) hR hp hall;rcases n.hA.cases hgb with⟨rfl,_⟩|⟨h0,hi⟩|⟨i,hi,rfl,hxi⟩
  ·exact absurd rfl hb0
  ·have:=(n.hA.old b _ h0 hi hgb).status;rcases this with h|h<;>simp[parked]at h
  ·have ny:(D i).ws=17:=by
    rcases(n.hW i hi).status with hs|⟨h',_⟩
    ·rw[<-hxi]at hs;rcases hs with h|h<;>simp[parked]at h
    ·exact h'
   obtain⟨v',z0',z1',gj',hx',hsel,FX,hpay⟩:=I6 i hi ny;have he:=I5 (P:=H.P) (hxi.trans hx') 0 undef false (two H.R H.Dn vj z0 z1) .select;have Vz:=he.2.1;have e1:vj=v'/\z0=z0'/\z1=z1':=by
    simp only[two,scase,rcase,Array.mk.injEq,List.cons.injEq,CommCase.mk.injEq,Option.some.injEq]at Vz;exact⟨Vz.1.2.1,Vz.1.2.2,Vz.2.1.2.2⟩
   obtain⟨rfl,rfl,rfl⟩:=e1;rw[he.1,kS]at hrunT;have hgu:(D i).gu=false:=by
    cases e:(D i).gu with
    |false=>rfl
    |true=>have:=n.hF.gu i hi e;cases this
   refine meet n.hW n.aC n.hT n.hF e n.hCH n.hwg n.hmode hi (by omega) hsel FX hpay hgu hcont hrunT ?_ fun t' hd=>?_
   ·intro op hop;simp only[Array.empty_append,List.mem_toArray,List.mem_cons,List.not_mem_nil,or_false]at hop;rcases hop with rfl|rfl|rfl|rfl
    iterate 4 (·exact⟨rfl,hgR,fun m e=>by cases e⟩)
   ·exact(n.hA.setW (u:=t) hi fun _ _ _=>rfl).set0 fun k _ _=>hd k
theorem Vl{k:Nat}(ht:tag= .col k false)(hd:d0=0)(e:j=H.N)(h:aS H (fun m g w=>oW H k got m g w\/AtClose H got m g w) f0 mine a w):Moves H gs w sl t 0 (meas H j D tag f0 q):=by
 rcases h.cases with(hstop|hstop)|⟨n',rfl,hrun,g',w',es,bH,hgo,hst,hg'⟩
 ·cases k with
  |zero=>
   subst ht;obtain⟨hcl,hcnt⟩:=n.hF.cnt 0 false rfl;refine QZ n (ok:=true) rfl hd e hcl (fun _ i hi hn=>?_) hstop (by simp only[cK,Bool.false_eq_true,if_false];omega);have:=le_sumTo (f:=fun i=>if got i=none then 1 else 0) hi;simp only[hn,if_true]at this;omega
  |succ k=>exact QX n ht hd e hstop
 ·exact Oa n ht hd e hstop
 ·subst ht;subst hd;exact plain0 n.hA n.hW n.aC n.hT n.hF n.hCH n.hwg n.hmode hgo hst (.col e hg') (by simp[bT.kin]) (Nat.lt_succ_self _)
def Xn(κ:Goroutine)(tag:bT)(a:Goroutine):Prop:=tag= .wt .ret/\a=κ
theorem EF(O:nk H)(h:SS H j mine got κ tag f0 d0 a w)(hrun:a.status= .running):Xn κ tag a\/Moves H gs w sl t 0 (meas H j D tag f0 q):=by
 cases h with
 |XF e h=>exact .inr (Vk n rfl rfl e h)
 |kd e h c=>exact .inr (QY n rfl rfl e h c)
 |a1 e h c=>exact .inr (X9 n O rfl rfl e h c)
 |rd e h c=>exact .inr (X5 n rfl rfl e h c)
 |ke e h c=>exact .inr (X7 n rfl rfl e h c)
 |kk e s h c=>exact .inr (X6 n rfl rfl e s h c)
 |sgo e h=>exact .inr (KS n rfl rfl e h)
 |col e h=>exact .inr (Vl n rfl rfl e h)
 |rcv e s h=>cases hrun
 |cl e h=>exact .inr (X8 n rfl rfl e h)
 |Zr e h=>exact .inr (KR n rfl rfl e h)
 |anch e h=>exact .inr (Q0 n O rfl rfl e h)
 |w1 e h=>exact .inr (QW n O rfl rfl e h)
 |w2 e h=>exact .inr (X4 n O rfl rfl e h)
 |wm e h=>exact .inr (XZ n rfl rfl e h)
 |w3 e h=>exact .inr (X3 n rfl rfl e rfl h)
 |blk e h=>cases hrun
 |w4 e h=>exact .inr (X0 n rfl rfl e h)
 |Xp e h=>exact .inr (Vj n rfl rfl e h)
 |acq e h=>exact .inr (Vm n rfl rfl e h)
 |ret e h=>
  rcases Goes.cases h with hstop|⟨m',rfl,hstep⟩
  ·exact .inl ⟨rfl,hstop w (RS.refl w)⟩
  ·obtain⟨g',w1,es1,hgo,⟨rfl,rfl⟩,hg'⟩:=hstep w (RS.refl w);exact .inr (n.idle hgo (.ret e hg') (.inr rfl) (Nat.lt_succ_self _))
theorem someone(O:nk H)(h:SS H j mine got κ tag f0 d0 a w):∃(i:Nat) (g:Goroutine),gs[i]? =some g/\g.status= .running:=by
 have run:∀i,i<j->7<=(D i).ws->(D i).ws≠17->(x i).status= .running:=by
  intro i hi h7 ny;cases n.hW i hi with
  |rX v z0 z1 g₂ h1=>exact absurd h1 ny
  |born n gB rk h1 h2 h3 h0=>exact h0
  |tree h1 h2 h3 h4=>
   obtain⟨ρ,p,f,fs,f',fs',e,_⟩:=h3;rw[e];exact iY _ _ _
  |sel v z0 z1 g₂ off h1 h2 h3=>rw[h3]
  |done h1 h2 h3 h4 h5=>exact Goes.running (fun _ _ x=>x.1) w (RW.refl w) h5
  |lib h1 h2 h3 h4=>omega
 rcases h.status O.ar with⟨hs,_⟩|⟨_,ht⟩
 ·exact⟨0,a,n.hA.z,hs⟩
 ·cases h with
  |@rcv k _ z g₂ _ e s hc=>
   obtain⟨hcl,hcnt⟩:=n.hF.cnt (k+1) true rfl;have:∃i,i<H.N/\got i=none:=by
    apply Classical.byContradiction;intro hne;have h0:sumTo H.N (fun i=>if got i=none then 1 else 0)=sumTo H.N (fun _=>0):=sumTo_congr fun i hi=>by
     have:got i≠none:=fun h=>hne ⟨i,hi,h⟩;simp[this]
    have h1:∀m,sumTo m (fun _=>0)=0:=by
     intro m;induction m with
     |zero=>rfl
     |succ m ih=>simp[sumTo,ih]
    rw[h0,h1]at hcnt;cases hcnt
   obtain⟨i,hi,hn⟩:=this;have hij:i<j:=by omega
   have ny:=n.hF.none hcl i hij hn;exact⟨H.o+i,x i,n.hA.w i hij,run i hij (by omega) (n.hF.np (.inr rfl) i hij)⟩
  |@blk m g _ e hb=>
   have np:=n.hF.np (.inr rfl);have hmode:ConcN.Mode j (bJ D) .blk st sm:=n.hmode;have stg:∀i,i<j->(D i).st≠1->(x i).status= .running:=by
    intro i hi h1;rcases(n.hW i hi).Fe with h|h
    ·exact run i hi (by omega) (np i hi)
    ·by_cases h7:(D i).ws=7
     ·exact run i hi (by omega) (np i hi)
     ·cases n.hW i hi with
      |lib k1 k2 k3 k4=>exact(by
       cases hst:(D i).st with
       |zero=>rw[hst]at k4;cases k4
       |succ s=>
        generalize (D i).st=s' at*;generalize (D i).fu=fu' at*;generalize (D i).df=df' at*;cases k4 with
        |r0 h=>omega
        |k1 h=>exact Goes.running (fun _ _ x=>x.1) w (RW.refl w) h
        |d1 h=>exact Goes.running (fun _ _ x=>x.1) w (RW.refl w) h
        |d2 h=>exact Goes.running (fun _ _ x=>x.1) w (RW.refl w) h
        |d3 h=>exact Goes.running (fun _ _ x=>x.1) w (RW.refl w) h
        |d4 h=>exact Goes.running (fun _ _ x=>x.1) w (RW.refl w) h
        |quit h=>exact absurd rfl h1)
      |rX v z0 z1 g₂ h1=>omega
      |born n gB rk h1=>omega
      |tree h1=>omega
      |sel v z0 z1 g₂ off h1=>omega
      |done h1=>omega
   have key:∃i,i<j/\(D i).st≠1:=by
    cases hmode with
    |opn h1 _ _=>exact h1.elim
    |reg _ h2 h3=>
     apply Classical.byContradiction;intro hne;have h0:Vc j (bJ D)=sumTo j (fun _=>0):=sumTo_congr fun i hi=>by
      have:(bJ D i).stage=1:=Classical.byContradiction fun h=>hne ⟨i,hi,h⟩;simp[ConcN.cnt,this]
     have h1:∀m,sumTo m (fun _=>0)=0:=by
      intro m;induction m with
      |zero=>rfl
      |succ m ih=>simp[sumTo,ih]
     rw[h0,h1]at h3;omega
    |last L _ h2 h3 _=>exact⟨L,h2,fun h1=>by have h5:(bJ D L).stage=1:=h1;omega⟩
    |fin h1 _=>exact h1.elim
   obtain⟨i,hi,h1⟩:=key;exact⟨H.o+i,x i,n.hA.w i hi,stg i hi h1⟩
  |_=>cases ht
end
def Tgt(H:Ph)(m:Machine)(t:Trace):Prop:=
 ∃(gs:Array Goroutine) (w:World) (sl:Option (Nat×Nat)) (got:Nat->Option Value) (κ:Goroutine) (mine:Nat->Prop) (ok:Bool) (q:Nat->Nat),m=crowd gs w sl/\gs.size=H.o+H.N/\gs[0]? =some κ/\(∀i g,0<i->gs[i]? =some g->QuitsD H.P (q i) (Deaf t i) g)/\(∀k,gs.size<=k->Deaf t k=0)/\
  Past (fun l=>H.Shun l\/Ua H.Wg l) w.heap.size t/\H.Fin ok got mine κ w/\(Zn H w/\WgLive H.ty H.Wg w/\∀b,mine b->b<w.heap.size/\b≠H.Wg/\b≠H.R/\b≠H.Dn/\∀k,¬H.Shun (.cell ⟨b,k,none⟩))/\(ok=true->∀i,i<H.N->got i≠none)/\∀i v,got i=some v->H.Wn i v w
theorem U4(O:nk H)(μ:Ms)(m:Machine)(t:Trace)(h:Inv H μ m t):Tgt H m t\/∃m' ops μ',stepT H.P m=(.next m',ops)/\LL H.N μ' μ/\Inv H μ' m' (t++ops):=by
 obtain⟨gs,w,sl,j,D,mine,got,κ,closed,tag,f0,d0,a,x,q,st,sm,rfl,hA,hS,hW,aC,hT,hF,hCH,hwg,hmode,hacq,rfl⟩:=h;have hn:Now H j D mine got κ closed tag d0 gs w t a x q st sm:=⟨hA,hW,aC,hT,hF,hCH,hwg,hmode,hacq⟩;by_cases VA:Xn κ tag a
 ·refine .inl ?_;obtain⟨rfl,rfl⟩:=VA;obtain⟨hq,_,_⟩:=hmode.fin_inv trivial;have Y7:j=H.N:=by cases hS with|ret e _=>exact e.1
  obtain⟨p,h1,h2,h3,h4⟩:=hacq rfl;obtain⟨ok,k1,k2,k3⟩:=hF.wt .ret (.inl rfl);refine⟨gs,w,sl,got,_,mine,ok,fun i=>if i<H.o then q i else(D (i-H.o)).fu,rfl,by rw[hA.size,Y7],hA.z,fun i g h0 hg=>?_,fun k hk=>hT.qy k (by rw[hA.size]at hk;exact hk),?_,k3 w (.refl w),⟨hCH.2.2,⟨st,sm,hwg⟩,aC.mspec⟩,k2,fun i v hv=>?_⟩
  ·rcases hA.cases hg with⟨rfl,_⟩|⟨_,hi⟩|⟨i',hi',rfl,rfl⟩
   ·omega
   ·show QuitsD H.P (if i<H.o then q i else(D (i-H.o)).fu) _ _;rw[if_pos hi];exact hA.old i g h0 hi hg
   ·show QuitsD H.P (if H.o+i'<H.o then q (H.o+i')else(D (H.o+i'-H.o)).fu) _ _;rw[if_neg (by omega),show H.o+i'-H.o=i' by omega,hT.deafW i' hi'];have hst:(D i').st=1:=hq i' hi';cases hW i' hi' with
    |lib a1 a2 a3 a4=>
     rw[hst]at a4;exact a4.quits rfl
    |rX v z0 z1 g₂ a1 a2=>have:=Xq a2;omega
    |born n gB rk a1 a2 a3=>have:=Xq a3;omega
    |tree a1 a2=>have:=Xq a2;omega
    |sel v z0 z1 g₂ off a1 a2=>have:=Xq a2;omega
    |done a1 a2=>omega
  ·refine hT.ti.past (q:=p) (fun k ⟨i,hi,e⟩=>e▸h4 i hi) hT.FC h1 h2 h3 ?_ hT.over;cases hS;exact hT.deaf0
  ·obtain⟨_,_,F,f1,f2,f3⟩:=hF.some i v hv;exact f3 w f2
 ·refine .inr ?_;have haw:∀g∈gs,awake g:=by
   intro g hg tm;obtain⟨i,hi⟩:=Array.mem_iff_getElem?.1 hg;rcases hA.cases hi with⟨rfl,rfl⟩|⟨h0,hi'⟩|⟨i',hi',rfl,rfl⟩
   ·rcases hS.status O.ar with⟨hs,_⟩|⟨hs,_⟩<;>rw[hs]<;>simp
   ·rcases(hA.old i g h0 hi' hi).status with hs|hs<;>rw[hs]<;>simp
   ·rcases(hW i' hi').status with(hs|hs)|⟨_,hs⟩<;>rw[hs]<;>simp
  obtain⟨i,g,d,sl',hg,hrun,hstep⟩:=crowd_pick (P:=H.P) (w:=w) (sl:=sl) haw (someone hn O hS);rw[hstep];have hS':=hS.rely (kW.at w d);have hW':∀i,i<j->WS H i (D i) (x i) (w.at d):=fun i hi=>(hW i hi).rely (kW.at w d) (fun c hc=>aC.ov i c hi hc) (aC.cv i hi);have hF':Fl H j D tag got κ closed mine (w.at d):=by
   refine⟨hF.jN,hF.gu,hF.np,fun i v hv=>?_,hF.none,hF.cnt,hF.sp,fun c e=>?_,hF.cl⟩
   ·obtain⟨h1,h2,h3⟩:=hF.some i v hv;exact⟨h1,h2,h3.rely fun _ _ _=>rfl⟩
   ·obtain⟨ok,h1,h2,h3⟩:=hF.wt c e;exact⟨ok,h1,h2,h3.rely (kW.at w d)⟩
  have hn':Now H j D mine got κ closed tag d0 gs (w.at d) t a x q st sm:=⟨hA,hW',aC,hT,hF',hCH,hwg,hmode,hacq⟩;rcases hA.cases hg with⟨rfl,rfl⟩|⟨h0,hi⟩|⟨i',hi',rfl,rfl⟩
  ·exact(EF (sl:=sl') hn' O hS' hrun).resolve_left VA
  ·exact goL O.ar hA hS' hW' aC hT hF' hCH hwg hmode hacq h0 hi hg hrun
  ·exact XD O hA hS' hW' aC hT hF' hCH hwg hmode hacq hi' hrun
theorem U5(O:nk H)(μ:Ms):∀(m:Machine) (t:Trace),Inv H μ m t->∃k m' t',runNT H.P k m t=(.next m',t')/\Tgt H m' t':=by
 induction μ using(ZE H.N).induction with
 |_ μ ih=>
  intro m t h;rcases U4 O μ m t h with h|⟨m',ops,μ',h1,h2,h3⟩
  ·exact⟨0,m,t,rfl,h⟩
  ·obtain⟨k,m2,t2,h4,h5⟩:=ih μ' h2 m' _ h3;exact⟨k+1,m2,t2,by simp only[runNT,h1];exact h4,h5⟩
end
end Go.iw
namespace Go.iw
open Go.Conc Go.ConcN Go.Ren
theorem GY.quiet{H:Ph}{mine:Nat->Prop}(w:World):GY H mine mine w w #[]:=⟨Nat.le_refl _,fun _ _ _=>rfl,fun _ h=>.inl h,rfl,rfl,rfl,id,fun e he=>by simp at he⟩
theorem GY.nothing{H:Ph}{mine:Nat->Prop}{w:World}{es:Array Event}(h:es=#[]):GY H mine mine w w es:=h▸ .quiet w
theorem GY.reads{H:Ph}{mine:Nat->Prop}{w:World}{es:Array Event}{c i:Nat}(h:∀e∈es,e=⟨.cell ⟨c,i,none⟩,false,false⟩)(hc:H.old c\/mine c):GY H mine mine w w es:=
 ⟨Nat.le_refl _,fun _ _ _=>rfl,fun _ h=>.inl h,rfl,rfl,rfl,id,fun e he=>.inl ⟨c,i,false,h e he,hc,fun h=>by cases h⟩⟩
theorem GY.writes{H:Ph}{mine:Nat->Prop}{w:World}{es:Array Event}{c i:Nat}{v:Value}(h:∀e∈es,e=⟨.cell ⟨c,i,none⟩,true,false⟩)(hc:mine c):GY H mine mine w (w.setCell ⟨c,i,none⟩ v) es:=by
 refine⟨by simp[World.setCell],fun b _ hb=>?_,fun _ h=>.inl h,rfl,rfl,rfl,fun h=>tY h,fun e he=>?_⟩
 ·have hne:¬c=b:=fun e=>hb (e▸hc);simp[World.setCell,Array.getElem?_modify,hne]
 ·exact .inl ⟨c,i,true,h e he,.inr hc,fun _=>hc⟩
theorem GY.turns{H:Ph}{mine:Nat->Prop}{w w':World}{es:Array Event}{c:Nat}(ha:Aside c w w')(hc:mine c)(h:∀e∈es,∃i wr,e=⟨.cell ⟨c,i,none⟩,wr,false⟩)(hnv:NV w->NV w'):GY H mine mine w w' es:=by
 refine⟨Nat.le_of_eq ha.size.symm,fun b _ hb=>ha.block b fun e=>hb (e▸hc),fun _ h=>.inl h,ha.tape,ha.os,ha.output,hnv,fun e he=>?_⟩;obtain⟨i,wr,e⟩:=h e he;exact .inl ⟨c,i,wr,e,.inr hc,fun _=>hc⟩
theorem GY.makes{H:Ph}{mine:Nat->Prop}{w:World}{es:Array Event}{o:Obj}(h:∀e∈es,e=⟨.mark .noRoom,false,true⟩)(ho:plainO o:=by exact trivial):GY H mine (fun b=>mine b\/b=w.heap.size) w (w.alloc o) es:=by
 have e0:(w.alloc o).heap=w.heap.push o:=rfl;refine⟨by rw[e0];simp,fun b hb _=>?_,fun b hb=>?_,rfl,rfl,rfl,fun h=>Jf h ho,fun e he=>.inr (.inl (h e he))⟩
 ·rw[e0,Array.getElem?_push,if_neg (by omega)]
 ·rcases hb with hb|rfl
  ·exact .inl hb
  ·exact .inr ⟨Nat.le_refl _,by rw[e0];simp⟩
section
variable {H:Ph} {Stop:(Nat->Prop)->Goroutine->World->Prop} {n:Nat} {mine:Nat->Prop} {w:World} {g g':Goroutine}
theorem aS.one:∀{n:Nat} {mine:Nat->Prop} {g:Goroutine} {w:World},aS H Stop n mine g w->aS H Stop (n+1) mine g w
 |0,_,_,_,h=>.inl h
 |_+1,_,_,_,h=>h.imp id fun x=>⟨x.1,fun w₁ h₁=>let⟨g',w',es,bH,h1,h2,h3⟩:=x.2 w₁ h₁;⟨g',w',es,bH,h1,h2,aS.one h3⟩⟩
theorem aS.more{n m:Nat}(h:aS H Stop n mine g w)(hm:n<=m):aS H Stop m mine g w:=by
 induction hm with
 |refl=>exact h
 |step _ ih=>exact ih.one
theorem aS.stop(h:∀w₁,kW H.ty H.Wg (mO H mine) w w₁->Stop mine g w₁):aS H Stop n mine g w:=by
 cases n with
 |zero=>exact h
 |succ n=>exact .inl h
theorem aS.ctl{P:Program}(hP:H.P=P)(hs:g.status= .running)(h:∀w₁,stepG P true g w₁= .go g' w₁ #[])(hn:aS H Stop n mine g' w):aS H Stop (n+1) mine g w:=
 .inr ⟨hs,fun w₁ h₁=>⟨g',w₁,#[],mine,by rw[hP];exact h w₁,.quiet w₁,hn.rely h₁⟩⟩
theorem aS.op{P:Program}(hP:H.P=P){b:Frame}{a:Act}{k:List Item}{cs:List Frame}{ops:Array Oper}{i:Nat}{rest:List Nat}{o:Oper}(ho:ops[i]? =some o)(hw:Region.wanted o (yielded ops a.tmps)=true)(hk:b.kind≠.early)
  (h:∀w₁,kW H.ty H.Wg (mO H mine) w w₁->∃bH,∀K':Act->World->Prop,(∀a' w',(GY H mine bH w₁ w' (listed P b.fn a o w₁)/\aS H Stop n bH (G (b.at a' (.inRegion ops rest::k)) cs) w')->K' a' w')->uponK o a K' ((execOp a.eval o).run P w₁)):
  aS H Stop (n+1) mine (G (b.at a (.inRegion ops (i::rest)::k)) cs) w:=by
 subst hP;refine .inr ⟨rfl,fun w₁ h₁=>?_⟩;obtain⟨bH,hm⟩:=h w₁ h₁;have:=goes_oper_k (P:=H.P) (main:=true) (b:=b) (a:=a) (k:=k) (cs:=cs) (w:=w₁) (K:=fun g' w' es=>GY H mine bH w₁ w' es/\aS H Stop n bH g' w') ho hw hk hm;revert this;cases stepG H.P true (G (b.at a (.inRegion ops (i::rest)::k)) cs) w₁ with
 |go g' w' es=>exact fun hh=>⟨g',w',es,bH,rfl,hh.1,hh.2⟩
 |_=>exact fun hh=>hh.elim
theorem aS.reg{P:Program}(hP:H.P=P){b:Frame}{a:Act}{k:List Item}{cs:List Frame}{id:Nat}{ops:Array Oper}{todo:List Nat}(ht:List.range ops.size=todo)(hn:aS H Stop n mine (G (b.at a (.inRegion ops todo::k)) cs) w):aS H Stop (n+1) mine (G (b.at a (.code (.region id ops false)::k)) cs) w:=
 aS.ctl hP rfl (fun _=>stepG_region) (ht▸hn)
theorem aS.yes{P:Program}(hP:H.P=P){b:Frame}{a:Act}{k:List Item}{cs:List Frame}{c:Operand}{x y:Code}(hc:a.eval c= .bool true)(hn:aS H Stop n mine (G (b.at a (.code x::k)) cs) w):aS H Stop (n+1) mine (G (b.at a (.code (.cond c x y)::k)) cs) w:=
 aS.ctl hP rfl (fun _=>stepG_cond hc) hn
theorem aS.no{P:Program}(hP:H.P=P){b:Frame}{a:Act}{k:List Item}{cs:List Frame}{c:Operand}{x y:Code}(hc:a.eval c= .bool false)(hn:aS H Stop n mine (G (b.at a (.code y::k)) cs) w):aS H Stop (n+1) mine (G (b.at a (.code (.cond c x y)::k)) cs) w:=
 aS.ctl hP rfl (fun _=>stepG_cond hc) hn
theorem aS.call{P:Program}(hP:H.P=P){b:Frame}{a:Act}{k:List Item}{cs:List Frame}{ops:Array Oper}{i:Nat}{rest:List Nat}{o:Oper}{f:FuncId}{fn:Func}{c:Code}{args:Array Operand}{ats:Array TypeId}(ho:ops[i]? =some o)(hw:Region.wanted o (yielded ops a.tmps)=true)(hk:b.kind≠.early)(hop:o.op= .call {callee:=.value (.func f),args,argTypes:=ats})
  (hf:P.funcs[f]? =some fn)(hname:(fn.name== "runtime.NumGoroutine")=false)(hb:fn.body=some c)
  (hn:aS H Stop n mine (G ((base f).at {tmps:=args.map a.eval++Array.replicate (fn.ntmps-(args.map a.eval).size) undef,defers:= []} [.code c]) (b.at a (.inRegion ops (i::rest)::k)::cs)) w):
  aS H Stop (n+1) mine (G (b.at a (.inRegion ops (i::rest)::k)) cs) w:=by
 refine aS.ctl hP rfl (fun w₁=>?_) hn;have:=goes_call (P:=P) (main:=true) (w:=w₁) (K:=fun g' w' es=>g'=G ((base f).at {tmps:=args.map a.eval++Array.replicate (fn.ntmps-(args.map a.eval).size) undef,defers:= []} [.code c]) (b.at a (.inRegion ops (i::rest)::k)::cs)/\w'=w₁/\es=#[]) (k:=k) (cs:=cs) (b:=b) (a:=a) ho hw hk hop hf hname hb ⟨rfl,rfl,rfl⟩;revert this;cases stepG P true (G (b.at a (.inRegion ops (i::rest)::k)) cs) w₁ with
 |go g' w' es=>rintro⟨rfl,rfl,rfl⟩;rfl
 |_=>exact fun h=>h.elim
end
end Go.iw
namespace Go.Proofs.YtmfpiodlecapiaaGreatDoor
open Go.Conc.Lib
abbrev link:WgLink:= {add:=88,done:=90,wait:=93,relMerge:=134,disable:=135,enable:=136,inBubble:=137,associate:=138,fatal:=139,uOr:=140,uAdd:=141,raceRead:=142,uLoad:=143,uStore:=144,disassociate:=145,semrelease:=146,acquire:=151,isAssociated:=152,uCas:=153,raceWrite:=154,semacquire:=155,orU64:=183,addU64:=184,loadU64:=185,storeU64:=186,casU64:=189,tWgP:=203,tUP:=205,tAssoc:=206,tWg:=157,tAU:=154,tU64:=152,tUint:=123,tU32:=155,tPU32:=210,tPAU:=247,tPU64:=249,tNoCopy:=149,tANoCopy:=150,tAlign64:=151}
theorem qh:WgLib Tryz.prog link:=
 ⟨Tryz.func88,Tryz.func90,Tryz.func93,Tryz.func134,Tryz.func135,Tryz.func136,Tryz.func137,Tryz.func138,Tryz.func139,Tryz.func140,Tryz.func141,Tryz.func142,Tryz.func143,Tryz.func144,Tryz.func145,Tryz.func146,Tryz.func151,Tryz.func152,Tryz.func153,Tryz.func154,Tryz.func155,Tryz.func183,Tryz.func184,Tryz.func185,Tryz.func186,Tryz.func189,Tryz.underlying203,Tryz.runUnderlying203,Tryz.sizeOf203,Tryz.isAgg203,Tryz.zeroValue203,Tryz.underlying205,Tryz.runUnderlying205,Tryz.sizeOf205,Tryz.isAgg205,Tryz.zeroValue205,Tryz.underlying206,Tryz.runUnderlying206,Tryz.sizeOf206,Tryz.isAgg206,Tryz.zeroValue206,Tryz.underlying157,Tryz.runUnderlying157,Tryz.sizeOf157,Tryz.isAgg157,Tryz.zeroValue157,Tryz.underlying154,Tryz.runUnderlying154,Tryz.sizeOf154,Tryz.isAgg154,Tryz.zeroValue154,Tryz.underlying152,Tryz.runUnderlying152,Tryz.sizeOf152,Tryz.isAgg152,Tryz.zeroValue152,Tryz.underlying123,Tryz.runUnderlying123,Tryz.sizeOf123,Tryz.isAgg123,Tryz.zeroValue123,Tryz.underlying155,Tryz.runUnderlying155,Tryz.sizeOf155,Tryz.isAgg155,Tryz.zeroValue155,Tryz.underlying210,Tryz.runUnderlying210,Tryz.sizeOf210,Tryz.isAgg210,Tryz.zeroValue210,Tryz.underlying247,Tryz.runUnderlying247,Tryz.sizeOf247,Tryz.isAgg247,Tryz.zeroValue247,Tryz.underlying249,Tryz.runUnderlying249,Tryz.sizeOf249,Tryz.isAgg249,Tryz.zeroValue249,Tryz.underlying0,Tryz.runUnderlying0,Tryz.sizeOf0,Tryz.isAgg0,Tryz.zeroValue0,Tryz.underlying3,Tryz.runUnderlying3,Tryz.sizeOf3,Tryz.isAgg3,Tryz.zeroValue3,Tryz.underlying4,Tryz.runUnderlying4,Tryz.sizeOf4,Tryz.isAgg4,Tryz.zeroValue4,Tryz.underlying9,Tryz.runUnderlying9,Tryz.sizeOf9,Tryz.isAgg9,Tryz.zeroValue9,Tryz.underlying20,Tryz.runUnderlying20,Tryz.sizeOf20,Tryz.isAgg20,Tryz.zeroValue20,Tryz.underlying21,Tryz.runUnderlying21,Tryz.sizeOf21,Tryz.isAgg21,Tryz.zeroValue21,by kernel_rfl,by kernel_rfl⟩
open Go.Conc Go.ConcN Go.RowKit Go.Conc.Lib Go.ConcR.Gen Go.ConcN.Gen
open Go.ConcR (KK wgBlock WgAt stA smA rd wr mk Payload Aside2 DC0)
def tO:Code->Code
 | .seq _ b=>b
 |c=>c
def VZ:Code->Code
 | .seq a _=>a
 |c=>c
def aZ:Code->Array Oper
 | .region _ ops _=>ops
 |_=>#[]
def kE(f:Func):Code:=VZ (tO (tO (tO (f.body.getD .skip))))
def je(f:Func):Code:=tO (tO (tO (tO (f.body.getD .skip))))
def bot(n:Nat):Frame:= {(default:Frame)with fn:=n,defers:= [],mode:=.panicking [goexitEntry]}
abbrev J8:FuncId:=89
abbrev DU:Frame:=baseD J8
theorem J7(T:Array Value)(todo:List Item):QuitsD Tryz.prog 2 0 (G {DU.at ⟨T,[]⟩ todo with mode:=.returning} [bot Tryz.prog.funcs.size]):=by
 refine QuitsD.ctl (g':=G (bot Tryz.prog.funcs.size) []) rfl (fun w=>?_) ?_
 ·simp[G,stepG,unwind,doReturn,results,Frame.at,baseD,bot,Tryz.func89,Tryz.f89,seen,GStep.after,goexitEntry]
 refine QuitsD.ctl (g':= {G (bot Tryz.prog.funcs.size) []with status:=.finished}) rfl (fun w=>?_) ⟨rfl,rfl⟩;simp[G,stepG,unwind,bot,goexitEntry,Frame.catches];rfl
end Go.Proofs.YtmfpiodlecapiaaGreatDoor
