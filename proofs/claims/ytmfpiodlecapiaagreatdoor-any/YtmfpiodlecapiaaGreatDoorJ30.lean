import Derived.Test.YtmfpiodlecapiaaGreatDoorJ29
import Derived.Conc.AppendWalk
set_option maxHeartbeats 4000000
set_option maxRecDepth 100000
namespace Go.Proofs.YtmfpiodlecapiaaGreatDoor
open Go.Conc Go.ConcN Go.RowKit Go.Conc.Lib Go.ConcR.Gen Go.ConcN.Gen Go.iw Go.bB Go.Ren
open Go.ConcR (KK wgBlock WgAt stA smA rd wr mk Payload Aside2 DC0)
def kM(R Dn:Nat)(ops:Array Oper)(tl:Code)(uF:Nat->World->Option Addr->Nat->Nat->Bool->Prop)(z:Nat)(s:lJ Nat):Prop:=
 s.fs= []/\∃T:Array Value,s.f=⟨J8,T,[.inRegion ops [0,1,2,3],.code tl],false⟩/\T.size=25/\T[15]? =some (.chan (some R))/\T[20]? =some (.chan (some Dn))/\
  ∃da dl dc wh,T[19]? =some (.agg #[.int .i64 z,.slice da dl dc,.bool wh])/\(s.m=0->uF z s.w da dl dc wh)
theorem Qj{P:Program}{main:Bool}(fr:Frame)(cs:List Frame)(off:Option (Array CommCase×CommShape))(w:World):stepG P main {G fr cs with status:=.running,offers:=off} w=stepG P main (G fr cs) w:=by
 unfold stepG;rfl
theorem all3{ρ:Array Nat}{z:Nat}{da:Option Addr}{dl dc:Nat}{wh:Bool}{v:Value}(h:CR ρ 1 (.agg #[.int .i64 z,.slice da dl dc,.bool wh]) v):∃G8,v= .agg #[.int .i64 z,.slice G8 dl dc,.bool wh]/\SV ρ (.slice da dl dc) (.slice G8 dl dc):=by
 obtain⟨c,c',⟨e,e'⟩|⟨e,_⟩,hc⟩:=h
 ·simp only[Value.agg.injEq]at e;subst e e';obtain⟨x0,h0,s0⟩:=hc.get (i:=0) rfl;obtain⟨x1,h1,s1⟩:=hc.get (i:=1) rfl;obtain⟨x2,h2,s2⟩:=hc.get (i:=2) rfl;have hs:c'.size=3:=hc.1.symm;have ec:c'=#[x0,x1,x2]:=by
   apply Array.ext_getElem?;intro i;match i with
   |0=>rw[h0];rfl
   |1=>rw[h1];rfl
   |2=>rw[h2];rfl
   |i+3=>rw[Array.getElem?_eq_none (by omega)];simp
  cases s0;cases s2;cases s1 with
  |Dy=>exact⟨none,by rw[ec],.Dy _ _⟩
  |sl _ _ ha=>exact⟨_,by rw[ec],.sl _ _ ha⟩
 ·cases e
theorem cres2(R Dn:Nat)(v z0 z1:Value)(k:Int)(b:Value)(ok:Bool):∃x,commResult (two R Dn v z0 z1) .select k b ok= .tuple #[.int .i64 k,.bool ok,x]:=by
 by_cases h:(1:Int)=k
 ·exact⟨b,by simp[commResult,two,scase,rcase,goInt,h]⟩
 ·exact⟨z1,by simp[commResult,two,scase,rcase,goInt,h]⟩
theorem UU[Payload]{H:Ph}(hP:H.P=Tryz.prog)(hty:H.ty=link.tWg)(hK:H.K=jf)(hCx:H.Cx=DT Tryz.prog.funcs.size [] ⟨H.Wg,0,none⟩)(hB:H.Dn<H.B0/\H.R<H.B0){uF:Nat->World->Option Addr->Nat->Nat->Bool->Prop}(Sj:∀i v,Ue i v->H.Pv i v)
  {z:Nat}{d:WX}{ρ:Array Nat}{p w:World}{f f':Fr}{fs fs':List Fr}(h:mQ H.P H.X H.A H.K ρ p f fs f' fs' w)(hx:Ext (Array.range H.B0) ρ)
  (hs:kM H.R H.Dn (aZ (kE Tryz.f89)) (je Tryz.f89) uF z ⟨if d.gu then 1 else 0,f,fs,p⟩)
  (hRes:∀da dl dc wh G8,uF z p da dl dc wh->SV ρ (.slice da dl dc) (.slice G8 dl dc)->Ws d (H.Wn z (.agg #[.int .i64 z,.slice G8 dl dc,.bool wh])) w):
  ∃v z0 z1 g₂ off,bP H.Cx f' fs'= {g₂ with status:=.running,offers:=off}/\zf H d v z0 z1 g₂/\UD H z d v w:=by
 obtain⟨rfl,T,rfl,hT25,hT15,hT20,da,dl,dc,wh,hT19,hR⟩:=hs;have hfs:fs'= []:=(h.st.Vi).1 rfl;subst hfs;have hh:=h.st.head;have dK:f'.todo= [.inRegion (aZ (kE Tryz.f89)) [0,1,2,3],.code (je Tryz.f89)]:=hh.todo;have hret:f'.ret=false:=hh.ret;have hfn:f'.fn=J8:=hh.fn;have Uy:=yH (t:=15) h hx hB.2 (by rw[hK];rfl) hT15;have h20:=yH (t:=20) h hx hB.1 (by rw[hK];rfl) hT20;have hsz:f'.tmps.size=25:=by rw[<-hh.tmps.1];exact hT25
 have e19:f'.tmps[19]? =some (f'.tmps[19]'(by omega)):=Array.getElem?_eq_getElem _;have hc19:=hh.tmps.2 19 _ _ hT19 e19;rw[hK]at hc19;obtain⟨G8,ev,hsl⟩:=all3 (ρ:=ρ) (hc19:CR ρ 1 _ _);rw[ev]at e19;clear hc19 ev;let v:Value:=.agg #[.int .i64 z,.slice G8 dl dc,.bool wh]
 have R8:bP H.Cx f' []=G (DU.at ⟨f'.tmps,[dcall link.done #[.pointer (some ⟨H.Wg,0,none⟩)]]⟩ [.inRegion (aZ (kE Tryz.f89)) [0,1,2,3],.code (je Tryz.f89)]) [bot Tryz.prog.funcs.size]:=by
  rw[hCx];simp[bP,Fr.base,DT,Fr.mode,hret,dK,hfn,Frame.at,baseD]
 refine⟨v,.agg #[.int .i64 0,.slice none 0 0,.bool false],.agg #[],bP H.Cx f' [],none,?_,⟨fun w off=>?_,fun k b ok w hk hl hc=>?_⟩,fun hg=>⟨Sj _ _ ⟨_,_,_,_,rfl⟩,hRes da dl dc wh G8 (hR (by simp[hg])) hsl⟩⟩
 ·rw[R8];rfl
 ·rw[R8,hP,Qj];refine Eq.trans (stepG_comm (cases:=two H.R H.Dn v (.agg #[.int .i64 0,.slice none 0 0,.bool false]) (.agg #[])) (blocking:=true) (shape:=.select) (w':=w) rfl rfl (by decide) ?_) ?_
  ·simp only[aZ,kE,VZ,tO,Tryz.f89,Option.getD_some];have g15:f'.tmps[15]?.getD undef= .chan (some H.R):=by rw[Uy];rfl
   have g20:f'.tmps[20]?.getD undef= .chan (some H.Dn):=by rw[h20];rfl
   have g19:f'.tmps[19]?.getD undef=v:=by rw[e19];rfl
   simp[go_sem,two,scase,rcase,g15,g19,g20]
  ·rw[listed_nil (by simp[go_sem,aZ,kE,VZ,tO,Tryz.f89])]
 ·obtain⟨x,hx2⟩:=cres2 H.R H.Dn v (.agg #[.int .i64 0,.slice none 0 0,.bool false]) (.agg #[]) k b ok;have hfin:(bP H.Cx f' []).finishComm H.P (two H.R H.Dn v (.agg #[.int .i64 0,.slice none 0 0,.bool false]) (.agg #[])) .select k b ok=G (DU.at ⟨f'.tmps.setIfInBounds 21 (.tuple #[.int .i64 k,.bool ok,x]),[dcall link.done #[.pointer (some ⟨H.Wg,0,none⟩)]]⟩ [.inRegion (aZ (kE Tryz.f89)) [1,2,3],.code (je Tryz.f89)]) [bot Tryz.prog.funcs.size]:=by
   rw[R8,Goroutine.finishComm,hx2];simp only[G,Frame.finish_at];rfl
  rw[hfin,hP,hty];rw[hty]at hl;exact Zu (k:=1) (n:=1) (Low:=0) (by simp[hsz]) hk (by rw[Array.getElem?_setIfInBounds_self_of_lt (by omega)]) w ⟨hl,hc⟩
end Go.Proofs.YtmfpiodlecapiaaGreatDoor
namespace Go.Proofs.YtmfpiodlecapiaaGreatDoor
open Go.Conc Go.ConcN Go.RowKit Go.Conc.Lib Go.ConcR.Gen Go.ConcN.Gen Go.iw
open Go.ConcR (KK wgBlock WgAt stA smA rd wr mk Payload Aside2 DC0)
def vD(Wg:Nat)(κ g:Goroutine)(w:World):Prop:=
 ∃(b₀:Frame) (a₀:Act) (ops₀:Array Oper) (i₀:Nat) (rest₀:List Nat) (k₀:List Item) (cs:List Frame),κ=G (b₀.at (a₀.put ((ops₀[i₀]?).bind (·.dst)) (.tuple #[])) (.inRegion ops₀ rest₀::k₀)) cs/\L_ link Wg (b₀.at a₀ (.inRegion ops₀ (i₀::rest₀)::k₀)) cs g w
theorem jK{P:Program}{ty:TypeId}{Wg:Nat}{S S':Goroutine->World->Prop}(hs:∀g w,S g w->S' g w){g:Goroutine}{w:World}(h:Walks P ty Wg S g w):Walks P ty Wg S' g w:=by
 have key:∀(m:Nat) (g:Goroutine) (w:World),Goes P true (RS ty Wg) DC0 S m g w->Goes P true (RS ty Wg) DC0 S' m g w:=by
  intro m;induction m with
  |zero=>exact fun g w h w₁ h₁=>hs _ _ (h w₁ h₁)
  |succ m ih=>
   intro g w h;refine h.imp (fun x w₁ h₁=>hs _ _ (x w₁ h₁)) (fun x=>⟨x.1,fun w₁ h₁=>?_⟩);have:=x.2 w₁ h₁;revert this;cases stepG P true g w₁ with
   |go g' w' es=>exact fun y=>⟨y.1,ih _ _ y.2⟩
   |_=>exact id
 obtain⟨m,h⟩:=h;exact⟨m,key m g w h⟩
theorem Aa{Wg:Nat}{κ g:Goroutine}{w:World}(h:vD Wg κ g w):g.status= .running:=by
 obtain⟨_,_,_,_,_,_,_,_,T,rfl,_⟩:=h;rfl
theorem GR{Wg:Nat}{κ g:Goroutine}{w:World}(h:vD Wg κ g w):Walks Tryz.prog link.tWg Wg (Round Tryz.prog link.tWg Wg (vD Wg κ) (isK κ)) g w:=by
 obtain⟨b₀,a₀,ops₀,i₀,rest₀,k₀,cs,rfl,h⟩:=h;refine jK (fun g w h=>?_) (waitRound qh g w h);obtain⟨h1,h2⟩:=h;refine⟨h1,fun v hv hw=>?_⟩;obtain⟨g',e,hz,hm⟩:=h2 v hv hw;refine⟨g',e,hz,fun hv0=>jK (fun g w h=>?_) (hm hv0)⟩;obtain⟨k1,k2⟩:=h;refine⟨k1,fun v hv hw=>?_⟩;obtain⟨a1,a2⟩:=k2 v hv hw;refine⟨a1,fun hne=>?_⟩;obtain⟨g',e,hg⟩:=a2 hne;exact⟨g',e,jK (fun g w h=>⟨b₀,a₀,ops₀,i₀,rest₀,k₀,cs,rfl,h⟩) hg⟩
theorem Zt{Wg:Nat}{b₀:Frame}{a₀:Act}{ops₀:Array Oper}{i₀:Nat}{rest₀:List Nat}{k₀:List Item}{cs:List Frame}(w:World)(hF:WgLive link.tWg Wg w){args:Array Operand}(ha:args.map a₀.eval=#[.pointer (some ⟨Wg,0,none⟩)]):
  Walks Tryz.prog link.tWg Wg (jm Tryz.prog link.tWg Wg .disable (vD Wg (G (b₀.at (a₀.put ((ops₀[i₀]?).bind (·.dst)) (.tuple #[])) (.inRegion ops₀ rest₀::k₀)) cs)))
   (G ((base link.wait).at {tmps:=args.map a₀.eval++Array.replicate ((waitFn link).ntmps-(args.map a₀.eval).size) undef,defers:= []} [.code (body_wait link)]) (b₀.at a₀ (.inRegion ops₀ (i₀::rest₀)::k₀)::cs)) w:=by
 have hA:=waitStart (P:=Tryz.prog) (L:=link) (b₀:=b₀) (a₀:=a₀) (ops₀:=ops₀) (i₀:=i₀) (rest₀:=rest₀) (k₀:=k₀) (cs:=cs) qh w hF;rw[enter_at _ qh.f_wait rfl]at hA;rw[ha];refine jK (fun g w h=>?_) hA;obtain⟨h1,g',e,h2⟩:=h;exact⟨h1,g',e,jK (fun g w h=>⟨b₀,a₀,ops₀,i₀,rest₀,k₀,cs,rfl,h⟩) h2⟩
def Wu(N:Nat)(items:List Item)(cs:List Frame)(ok:Bool)(got:Nat->Option Value)(mine:Nat->Prop)(κ:Goroutine)(w:World):Prop:=
 ∃T:Array Value,T.size=37/\κ=G ((base 46).at ⟨T,[]⟩ items) cs/\T[12]? =some (.bool ok)/\(ok=false->T[11]? =some (.slice none 0 0)/\∃i da dl dc,i<N/\got i=some (.agg #[.int .i64 i,.slice da dl dc,.bool false]))/\
  (ok=true->∃cP,T[11]? =some (.slice (some ⟨cP,0,none⟩) N N)/\mine cP/\∃parts:Array Value,w.heap[cP]? =some (.cells parts 28)/\parts.size=N/\∀i v,got i=some v->∃da dl dc,v= .agg #[.int .i64 i,.slice da dl dc,.bool true]/\parts[i]? =some (.slice da dl dc))
theorem UK{H:Ph}(hP:H.P=Tryz.prog)(hty:H.ty=link.tWg)(hAn:H.Anch=vD H.Wg):∃n,∀(cs:List Frame) (bb bo cap cR cD:Nat) (cS:Addr) (j1 j2 j4 j5 j9 b4 a6 a7 b7 b5 b0 a9 a5 b9 a8 a3 a4 b3 c0 b1 b6 b8 a0 b2:Value) (ok:Bool) (pv:Value) (got:Nat->Option Value) (mine:Nat->Prop) (w:World),WgLive H.ty H.Wg w->
  (∀T:Array Value,T.size=37->T[11]? =some pv->T[12]? =some (.bool ok)->Cont H mine (H.Fin ok got mine (G ((base 46).at ⟨T,[]⟩ [.inRegion (aZ (aN 6 (Tryz.f46.body.getD .skip))) [],.code (bI 7 (Tryz.f46.body.getD .skip))]) cs)) w)->
  aS H (mR H ok got) n mine (G (((base 46).at ⟨#[.slice (some ⟨bb,bo,none⟩) H.N cap,j1,j2,.pointer (some cS),j4,j5,.pointer (some ⟨cR,0,none⟩),.pointer (some ⟨cD,0,none⟩),.pointer (some ⟨H.Wg,0,none⟩),j9,b4,a6,a7,b7,b5,.slice (some ⟨bb,bo,none⟩) H.N cap,.int .i64 H.N,.int .i64 H.N,.bool false,b0,a9,a5,b9,a8,a3,a4,.chan (some H.R),.chan (some H.Dn),.slice (some ⟨bb,bo,none⟩) H.N cap,.int .i64 H.N,b3,c0,b1,b6,b8,a0,b2],[]⟩ [.inRegion (aZ (aN 5 (Tryz.f46.body.getD .skip))) [4,5,6,7,8,9],.code (bI 6 (Tryz.f46.body.getD .skip))]).finish (.tuple #[pv,.bool ok])) cs) w:=by
 refine⟨20,fun cs bb bo cap cR cD cS j1 j2 j4 j5 j9 b4 a6 a7 b7 b5 b0 a9 a5 b9 a8 a3 a4 b3 c0 b1 b6 b8 a0 b2 ok pv got mine w hl hk=>?_⟩;rw[Frame.finish_at];simp only[Tryz.f46,Option.getD_some,aN,bI,aZ]at hk⊢;walk_nrm
 iterate 5 (refine aS.op hP rfl rfl (by decide) (fun w h₁=>⟨mine,fun K hK=>?_⟩);replace hl:=h₁.live hl;have hk:=fun T h1 h2 h3=>(hk T h1 h2 h3).rely h₁;clear h₁;go_simp;refine hK _ _ ⟨.nothing (listed_nil (by simp[go_sem])),?_⟩;clear hK;try walk_nrm)
 refine aS.ctl hP rfl (fun _=>stepG_region_end) ?_;refine aS.ctl hP rfl (fun _=>stepG_seq) ?_;refine aS.reg hP (todo:= [0]) rfl ?_;refine aS.call hP rfl rfl (by decide) rfl qh.f_wait (nm_wait link) rfl ?_;refine aS.stop (fun w h₁=>?_);replace hl:=h₁.live hl;have hk:=fun T h1 h2 h3=>(hk T h1 h2 h3).rely h₁;clear h₁;refine⟨_,?_,by rw[hP,hty,hAn];exact Zt w (hty▸hl) (by simp[Act.eval]),?_⟩
 ·rfl
 ·try walk_nrm
  exact hk _ rfl rfl rfl
theorem OO[Payload]{H:Ph}(hP:H.P=Tryz.prog)(hty:H.ty=link.tWg){cs:List Frame}{bb bo cap cR cD:Nat}{cS:Addr}{pa:Nat->Option Addr}{pl pc:Nat->Nat}(hAn:H.Anch=vD H.Wg)(hFin:H.Fin=Wu H.N [.inRegion (aZ (aN 6 (Tryz.f46.body.getD .skip))) [],.code (bI 7 (Tryz.f46.body.getD .skip))] cs)
  (hN:H.N<2147483648)(hN0:0<H.N)(Sj:∀i v,H.Pv i v->Ue i v)(j1 j2 j4 j5 j9 b4 a6 a7 b7 b5 c4 b0 a9 a5 b9 a8 a3 a4 c1 c5 c2 c3 b3 c0 b1 b6 b8 a0 b2:Value)(w:World)(hF:FS H bb bo H.N pa pl pc cR cD w):∃n,aS H (fun m g w=>oW H H.N (fun _=>none) m g w\/AtClose H (fun _=>none) m g w) n (fun _=>False) (G ((base 46).at ⟨#[.slice (some ⟨bb,bo,none⟩) H.N cap,j1,j2,.pointer (some cS),j4,j5,.pointer (some ⟨cR,0,none⟩),.pointer (some ⟨cD,0,none⟩),.pointer (some ⟨H.Wg,0,none⟩),j9,b4,a6,a7,b7,b5,.slice (some ⟨bb,bo,none⟩) H.N cap,.int .i64 H.N,.int .i64 H.N,c4,b0,a9,a5,b9,a8,a3,a4,c1,c5,c2,c3,b3,c0,b1,b6,b8,a0,b2],[]⟩ [.code (dx (aN 1 (aN 4 (Tryz.f46.body.getD .skip)))),.inLoop (dx (aN 1 (aN 4 (Tryz.f46.body.getD .skip)))),.inBlock 0,.code (bI 5 (Tryz.f46.body.getD .skip))]) cs) w:=by
 have hcN:¬((H.N:Int)<(H.N:Int)):=by omega
 obtain⟨n0,hW⟩:=UK hP hty hAn;have Rz:H.ty≠28:=by rw[hty];decide
 obtain⟨n1,hL⟩:=TB hP Sj (cf:=((base 46).at ⟨#[.slice (some ⟨bb,bo,none⟩) H.N cap,j1,j2,.pointer (some cS),j4,j5,.pointer (some ⟨cR,0,none⟩),.pointer (some ⟨cD,0,none⟩),.pointer (some ⟨H.Wg,0,none⟩),j9,b4,a6,a7,b7,b5,.slice (some ⟨bb,bo,none⟩) H.N cap,.int .i64 H.N,.int .i64 H.N,.bool false,b0,a9,a5,b9,a8,a3,a4,.chan (some H.R),.chan (some H.Dn),.slice (some ⟨bb,bo,none⟩) H.N cap,.int .i64 H.N,b3,c0,b1,b6,b8,a0,b2],[]⟩ [.inRegion (aZ (aN 5 (Tryz.f46.body.getD .skip))) [4,5,6,7,8,9],.code (bI 6 (Tryz.f46.body.getD .skip))])) (cs:=cs) Rz hN ⟨n0,fun cP got mine w hI hall=>hW cs bb bo cap cR cD cS j1 j2 j4 j5 j9 b4 a6 a7 b7 b5 b0 a9 a5 b9 a8 a3 a4 b3 c0 b1 b6 b8 a0 b2 true _ got mine w hI.live (fun T h1 h2 h3 w₁ h₁=>by rw[hFin];obtain⟨parts,p1,p2,p3⟩:=hI.row;exact⟨T,h1,rfl,h3,(fun h=>by cases h),fun _=>⟨cP,h2,hI.own,parts,(h₁.row cP (.inr hI.own)).trans p1,p2,p3⟩⟩)⟩ ⟨n0,fun cP got mine w hI hg=>hW cs bb bo cap cR cD cS j1 j2 j4 j5 j9 b4 a6 a7 b7 b5 b0 a9 a5 b9 a8 a3 a4 b3 c0 b1 b6 b8 a0 b2 false _ got mine w hI.live (fun T h1 h2 h3 w₁ h₁=>by rw[hFin];exact⟨T,h1,rfl,h3,fun _=>⟨h2,hg⟩,fun h=>by cases h⟩)⟩ H.N;obtain⟨i0,hi0,hz0,hz1,hz2⟩:=info_parts Tryz.infoBytes;have hmk:=fun w=>run_make (P:=Tryz.prog) w 25 28 i0 (.slice none 0 0) Tryz.underlying25 hi0 hz0 .i64 .i64 H.N H.N (by omega) (by omega) (by rw[hz2];omega) (by omega);have hme:=fun w es=>events_make (P:=Tryz.prog) w 25 28 i0 (.slice none 0 0) Tryz.underlying25 hi0 hz0 .i64 .i64 H.N H.N (by omega) (by omega) (by rw[hz2];omega) (by omega) (by rw[hz2];omega) es;refine⟨n1+60,?_⟩;simp only[Tryz.f46,Option.getD_some,aN,bI,dx,aZ]at hL⊢;refine aS.ctl hP rfl (fun _=>stepG_seq) ?_;refine aS.reg hP (todo:= [0]) rfl ?_;refine aS.op hP rfl rfl (by decide) (fun w h₁=>⟨(fun _=>False),fun K hK=>?_⟩);replace hF:=FS.rely hF h₁;clear h₁;go_simp;refine hK _ _ ⟨.nothing (listed_nil (by simp[go_sem])),?_⟩;clear hK;try walk_nrm
 refine aS.ctl hP rfl (fun _=>stepG_region_end) ?_;refine aS.ctl hP rfl (fun _=>stepG_seq) ?_;refine aS.no hP (by first|rfl|simp[Act.eval]) ?_;refine aS.ctl hP rfl (fun _=>stepG_exit rfl) ?_;refine aS.ctl hP rfl (fun _=>stepG_seq) ?_;refine aS.reg hP (todo:= [0,1,2,3,4,5,6,7,8,9]) rfl ?_;refine aS.op hP rfl rfl (by decide) (fun w h₁=>⟨(fun _=>False),fun K hK=>?_⟩);replace hF:=FS.rely hF h₁;clear h₁;have hc:=hF.chR;go_simp;refine hK _ _ ⟨.reads (c:=cR) (i:=0) (fun e he=>by have hm:=mem_listed he;simp[go_sem,hc]at hm;exact hm) (.inl hF.oR),?_⟩;clear hK;try walk_nrm
 clear hc;refine aS.op hP rfl rfl (by decide) (fun w h₁=>⟨(fun _=>False),fun K hK=>?_⟩);replace hF:=FS.rely hF h₁;clear h₁;have hc:=hF.chD;go_simp;refine hK _ _ ⟨.reads (c:=cD) (i:=0) (fun e he=>by have hm:=mem_listed he;simp[go_sem,hc]at hm;exact hm) (.inl hF.oD),?_⟩;clear hK;try walk_nrm
 clear hc;refine aS.op hP rfl rfl (by decide) (fun w h₁=>⟨(fun _=>False),fun K hK=>?_⟩);replace hF:=FS.rely hF h₁;clear h₁;go_simp;refine hK _ _ ⟨.nothing (listed_nil (by simp[go_sem])),?_⟩;clear hK;try walk_nrm
 refine aS.op hP rfl rfl (by decide) (fun w h₁=>⟨(fun _=>False),fun K hK=>?_⟩);replace hF:=FS.rely hF h₁;clear h₁;go_simp;refine hK _ _ ⟨.nothing (listed_nil (by simp[go_sem])),?_⟩;clear hK;try walk_nrm
 refine aS.call hP rfl rfl (by decide) rfl Tryz.func92 rfl rfl ?_;simp only[Tryz.f92];try walk_nrm
 refine aS.ctl hP rfl (fun _=>stepG_seq) ?_;refine aS.reg hP (todo:= [0,1]) rfl ?_;refine aS.op hP rfl rfl (by decide) (fun w h₁=>⟨(fun _=>False),fun K hK=>?_⟩);replace hF:=FS.rely hF h₁;clear h₁;go_simp;refine hK _ _ ⟨.nothing (listed_nil (by simp[go_sem])),?_⟩;clear hK;try walk_nrm
 refine aS.op hP rfl rfl (by decide) (fun w h₁=>⟨(fun _=>False),fun K hK=>?_⟩);replace hF:=FS.rely hF h₁;clear h₁;go_simp;refine hK _ _ ⟨.nothing (listed_nil (by simp[go_sem])),?_⟩;clear hK;try walk_nrm
 refine aS.ctl hP rfl (fun _=>stepG_region_end) ?_;refine aS.ctl hP rfl (fun _=>stepG_seq) ?_;refine aS.reg hP (todo:= [0,1,2]) rfl ?_;refine aS.op hP rfl rfl (by decide) (fun w h₁=>⟨(fun _=>False),fun K hK=>?_⟩);replace hF:=FS.rely hF h₁;clear h₁;go_simp;refine hK _ _ ⟨.nothing (listed_nil (by simp[go_sem])),?_⟩;clear hK;try walk_nrm
 refine aS.op hP rfl rfl (by decide) (fun w h₁=>⟨fun b=>False\/b=w.heap.size,fun K hK=>?_⟩);replace hF:=FS.rely hF h₁;clear h₁;go_simp;refine hK _ _ ⟨.makes (fun e he=>by have hm:=mem_listed he;simp[go_sem,hme]at hm),?_⟩;clear hK;have hI:PI H w.heap.size (fun _=>none) (fun b=>False\/b=w.heap.size) (w.alloc (.cells (madeCells #[.slice none 0 0] H.N) 28)):=⟨⟨_,wo _ _,size_madeCells _ _,fun i v hv=>by cases hv⟩,.inr rfl,let⟨st,sm,hl⟩:=hF.live;⟨st,sm,pI hl⟩⟩;generalize w.alloc (.cells (madeCells #[.slice none 0 0] H.N) 28)=w0 at hI⊢;obtain⟨cP,hcP⟩:∃cP,cP=w.heap.size:=⟨_,rfl⟩;rw[<-hcP]at hI⊢;clear hcP hmk hme hF;try walk_nrm
 refine aS.op hP rfl rfl (by decide) (fun w h₁=>⟨fun b=>False\/b=cP,fun K hK=>?_⟩);replace hI:PI H cP (fun _=>none) (fun b=>False\/b=cP) w:=⟨by rw[h₁.row cP (.inr hI.own)];exact hI.row,hI.own,h₁.live hI.live⟩;clear h₁;go_simp;refine hK _ _ ⟨.nothing (listed_nil (by simp[go_sem])),?_⟩;clear hK;try walk_nrm
 refine aS.ctl hP rfl (fun _=>stepG_region_end) ?_;refine aS.ctl hP rfl (fun _=>stepG_seq) ?_;refine aS.ctl hP rfl (fun _=>stepG_seq) ?_;refine aS.reg hP (todo:= [0,1]) rfl ?_;refine aS.op hP rfl rfl (by decide) (fun w h₁=>⟨fun b=>False\/b=cP,fun K hK=>?_⟩);replace hI:PI H cP (fun _=>none) (fun b=>False\/b=cP) w:=⟨by rw[h₁.row cP (.inr hI.own)];exact hI.row,hI.own,h₁.live hI.live⟩;clear h₁;go_simp;refine hK _ _ ⟨.nothing (listed_nil (by simp[go_sem])),?_⟩;clear hK;try walk_nrm
 refine aS.op hP rfl rfl (by decide) (fun w h₁=>⟨fun b=>False\/b=cP,fun K hK=>?_⟩);replace hI:PI H cP (fun _=>none) (fun b=>False\/b=cP) w:=⟨by rw[h₁.row cP (.inr hI.own)];exact hI.row,hI.own,h₁.live hI.live⟩;clear h₁;go_simp;refine hK _ _ ⟨.nothing (listed_nil (by simp[go_sem])),?_⟩;clear hK;try walk_nrm
 refine aS.ctl hP rfl (fun _=>stepG_region_end) ?_;refine aS.ctl hP rfl (fun _=>stepG_block) ?_;refine aS.ctl hP rfl (fun _=>stepG_loop) ?_;simp only[Tryz.f92,Option.getD_some,aN,bI]at hL;have hs:∀m,sumTo m (fun i=>if(fun _=>(none:Option Value)) i=none then 1 else 0)=m:=by
  intro m;induction m with
  |zero=>rfl
  |succ m ih=>rw[sumTo,ih,if_pos rfl]
 exact aS.more (hL cP 0 (undef) (undef) (undef) (.slice none 0 0) (.bool false) (undef) (.int .i64 H.N) (.slice (some ⟨cP,0,none⟩) H.N H.N) (undef) (undef) (undef) (undef) (undef) (undef) (undef) (undef) (undef) (undef) (undef) (undef) (undef) (undef) (undef) (fun _=>none) _ w (by omega) hI (fun h=>by omega) (hs _)) (by omega)
end Go.Proofs.YtmfpiodlecapiaaGreatDoor
namespace Go.iw
open Go.Conc Go.ConcN Go.bB Go.Ren
open Go.ConcR (KK wgBlock WgAt stA smA rd wr mk Payload Aside2 DC0 Bk g_of_ofEvents)
def XW:WX:=⟨0,.zero,0,0,0,fun _=>False,fun _=>False,0,undef,false⟩
theorem ML{B:Nat}{t:Trace}(h:∀op∈t,op.act.low B){i:Nat}{a:Touch}(ha:touchAt t i=some a){x:Addr}(e:a.loc= .cell x):x.block<B:=by
 obtain⟨op,ho,hoa⟩:=touch_of ha;have hl:=h op (Array.mem_of_getElem? ho);revert hl hoa;cases op.act with
 |access ev=>
  intro hoa hl;simp only[MemAct.touch?,Option.some.injEq]at hoa;subst hoa;simp only at e;simp only[MemAct.low,e,Loc.low]at hl;exact hl
 |mark m=>
  intro hoa hl;cases m<;>simp only[MemAct.touch?,Option.some.injEq]at hoa<;>first
   |cases hoa;done
   |(subst hoa
     simp only[Loc.cell.injEq]at e;subst e;exact hl)
 |_=>intro hoa;cases hoa
theorem Inv.start[Payload]{H:Ph}{gs:Array Goroutine}{w:World}{sl:Option (Nat×Nat)}{t:Trace}{a:Goroutine}{q:Nat->Nat}(hN:0<H.N)(hsz:gs.size=H.o)(h0:gs[0]? =some a)(hL:Leavers H.P t gs q)(hP:Past H.Shun H.Wg t)
  (hold:∀b,H.old b->b<w.heap.size/\b≠H.Wg/\b≠H.R/\b≠H.Dn/\∀k,¬H.Shun (.cell ⟨b,k,none⟩))(RX:H.Wg<w.heap.size/\H.R<w.heap.size/\H.Dn<w.heap.size/\H.Wg≠H.R/\H.Wg≠H.Dn/\H.R≠H.Dn)(hfr:∀b k,w.heap.size<=b->¬H.Shun (.cell ⟨b,k,none⟩))
  (hCH:CH H false w)(hwg:WgAt H.ty H.Wg w 0 0)(hs:Ud H H.N (fun _=>False) a w):∃μ,Inv H μ (crowd gs w sl) t:=by
 have hpos:0<H.o:=by
  have:=(Array.getElem?_eq_some_iff.1 h0).1;omega
 obtain⟨r,hr⟩:∃r,H.N=r+1:=⟨H.N-1,by omega⟩;rw[hr]at hs;obtain⟨m,hs⟩:=hs;have noW:∀k,¬JZ H.o 0 k:=fun k ⟨i,hi,_⟩=>by omega
 refine⟨_,gs,w,sl,0,fun _=>XW,fun _=>False,fun _=>none,a,false,.sp r 6,m,0,a,fun _=>a,q,0,0,rfl,?_,.XF (by omega) hs,fun i hi=>by omega,?_,?_,?_,hCH,hwg,?_,(fun e=>by cases e),rfl⟩
 ·exact⟨by omega,hpos,h0,fun i hi=>by omega,fun i g h1 _ hg=>hL.old i g h1 hg⟩
 ·exact⟨hold,fun b hb=>hb.elim,fun b hb=>hb.elim,fun i b hi=>by omega,fun i b hi=>by omega,fun i b hi=>by omega,fun i b hi=>by omega,fun i i' b hi=>by omega,fun i hi=>by omega,fun i hi=>by omega,fun i hi=>by omega,fun i i' hi=>by omega,RX,hfr⟩
 ·refine⟨⟨hP.clean,fun k c i hk=>absurd hk (noW k),fun k c i hk=>absurd hk (noW k),fun i x hx hm=>?_,fun i x hx hw=>?_,fun op hop=>MemAct.low_mono (by omega) (hP.seen op hop)⟩,fun i hi=>?_,fun i g hg hne hc=>.inr ?_,hP.hears,fun i hi=>by omega,fun k hk=>hL.above k (by omega),fun i hi=>by omega⟩
  ·rcases hP.known i x hx hm with h|h
   ·exact .inl h
   ·exact .inr (.inl ⟨.inl h.1,h.2⟩)
  ·obtain⟨y,hy,hyb⟩:=hw;have:=ML hP.seen hx hy;omega
  ·unfold Trace.act? at hi;obtain⟨op,ho,hoa⟩:=Option.map_eq_some_iff.1 hi;have:=hP.seen op (Array.mem_of_getElem? ho);rw[hoa]at this;have h2:(stA H.Wg).block<H.Wg:=this;exact Nat.lt_irrefl _ h2
  ·obtain⟨k,hk,hb⟩:=hP.over i g hg hne hc;exact⟨k,hk,hb⟩
 ·refine⟨by omega,fun i hi=>by omega,fun _ i hi=>by omega,fun i v hv=>by(cases hv),fun _ i hi=>by omega,fun k b e=>by(cases e),fun r s _=>⟨rfl,fun _=>rfl⟩,fun c e=>by(rcases e with e|e<;>cases e),fun e=>by(cases e)⟩
 ·have:=ConcN.Mode.opn (j:=0) (D:=bJ fun _=>XW) (tag:=.sp r 6) trivial (fun i hi=>by omega) (fun vs e=>by cases e);have e:((Vc 0 (bJ fun _=>XW)+pend (.sp r 6):Nat):Int)*KK=0:=by simp[Vc,sumTo,pend]
  rw[e]at this;exact this
theorem phase[Payload]{H:Ph}(O:nk H){gs:Array Goroutine}{w:World}{sl:Option (Nat×Nat)}{t:Trace}{a:Goroutine}{q:Nat->Nat}(hN:0<H.N)(hsz:gs.size=H.o)(h0:gs[0]? =some a)(hL:Leavers H.P t gs q)(hP:Past H.Shun H.Wg t)
  (hold:∀b,H.old b->b<w.heap.size/\b≠H.Wg/\b≠H.R/\b≠H.Dn/\∀k,¬H.Shun (.cell ⟨b,k,none⟩))(RX:H.Wg<w.heap.size/\H.R<w.heap.size/\H.Dn<w.heap.size/\H.Wg≠H.R/\H.Wg≠H.Dn/\H.R≠H.Dn)(hfr:∀b k,w.heap.size<=b->¬H.Shun (.cell ⟨b,k,none⟩))
  (hCH:CH H false w)(hwg:WgAt H.ty H.Wg w 0 0)(hs:Ud H H.N (fun _=>False) a w):∃k m' t',runNT H.P k (crowd gs w sl) t=(.next m',t')/\Tgt H m' t':=by
 obtain⟨μ,hI⟩:=Inv.start (sl:=sl) hN hsz h0 hL hP hold RX hfr hCH hwg hs;exact U5 O μ _ _ hI
end Go.iw
namespace Go.Proofs.YtmfpiodlecapiaaGreatDoor
open Go.Conc Go.ConcN Go.RowKit Go.Conc.Lib Go.ConcR.Gen Go.ConcN.Gen Go.iw Go.bB Go.Ren
open Go.ConcR (KK wgBlock WgAt stA smA rd wr mk Payload Aside2 DC0)
def uF(B0:Nat)(wz:Nat->Bool)(Dz:Nat->List Nat)(z:Nat)(p:World)(da:Option Addr)(dl _dc:Nat)(wh:Bool):Prop:=
 wh=wz z/\(wh=true->dl=(Dz z).length/\(dl≠0->∃b o,da=some ⟨b,o,none⟩/\B0<=b/\Wr p b/\∀j,j<dl->p.cell? ⟨b,o+j,none⟩=some (.int .u8 ((Dz z)[j]?.getD 0:Nat))))
def YW(B0:Nat)(wz:Nat->Bool)(Dz:Nat->List Nat)(z:Nat)(v:Value)(w:World):Prop:=
 ∃da dl dc,v= .agg #[.int .i64 z,.slice da dl dc,.bool (wz z)]/\(wz z=true->dl=(Dz z).length/\(dl≠0->∃b o,da=some ⟨b,o,none⟩/\B0<=b/\∀j,j<dl->w.cell? ⟨b,o+j,none⟩=some (.int .u8 ((Dz z)[j]?.getD 0:Nat))))
theorem XJ{B0:Nat}{wz:Nat->Bool}{Dz:Nat->List Nat}{z:Nat}{d:WX}{ρ:Array Nat}{p w:World}(hw:WR ρ (p.re w.tape w.drawn) w)(hx:Ext (Array.range B0) ρ)(how:d.ow=Own ρ p)(hco:¬d.ow d.C){da:Option Addr}{dl dc:Nat}{wh:Bool}{G8:Option Addr}(h:uF B0 wz Dz z p da dl dc wh)(hs:SV ρ (.slice da dl dc) (.slice G8 dl dc)):
  Ws d (YW B0 wz Dz z (.agg #[.int .i64 z,.slice G8 dl dc,.bool wh])) w:=by
 obtain⟨rfl,h⟩:=h;by_cases hw1:wz z=true/\dl≠0
 ·obtain⟨h1,h2⟩:=h hw1.1;obtain⟨b,o,rfl,hB,h3,h4⟩:=h2 hw1.2;cases hs with
  |sl _ _ ha=>
   rename_i a';obtain⟨c,o',sp⟩:=a';obtain⟨hρ,ho,hsp⟩:=ha;simp only at hρ ho hsp;subst ho hsp;have hcow:d.ow c:=by rw[how];exact⟨b,hρ,h3⟩
   have hne:c≠d.C:=fun e=>hco (e▸hcow);have hcB:B0<=c:=by
    rcases Nat.lt_or_ge c B0 with hlt|hge
    ·have e1:=hx c c (eZ hlt);have:=hw.inj b c c hρ e1;omega
    ·exact hge
   refine⟨fun w=>∀j,j<dl->w.cell? ⟨c,o'+j,none⟩=some (.int .u8 ((Dz z)[j]?.getD 0:Nat)),fun w w' hk hF j hj=>(cell_of_block (hk c hcow hne) _).trans (hF j hj),fun j hj=>?_,fun w hF=>⟨_,_,_,rfl,fun _=>⟨h1,fun _=>⟨c,o',rfl,hcB,hF⟩⟩⟩⟩;obtain⟨c',v',e1,e2,e3⟩:=hw.cell b (o'+j) _ (h4 j hj);rw[hρ]at e1;obtain rfl:=Option.some.inj e1;cases e3;exact e2
 ·refine⟨fun _=>True,fun _ _ _ _=>trivial,trivial,fun w _=>⟨_,_,_,rfl,fun hwz=>?_⟩⟩;obtain⟨h1,_⟩:=h hwz;exact⟨h1,fun hd=>absurd ⟨hwz,hd⟩ hw1⟩
structure IsB(H:Ph)(wz:Nat->Bool)(Dz:Nat->List Nat)(cs:List Frame):Prop where
 P:H.P=Tryz.prog
 X:H.X=aW
 A:H.A=bn
 K:H.K=jf
 ty:H.ty=link.tWg
 Cx:H.Cx=DT Tryz.prog.funcs.size [] ⟨H.Wg,0,none⟩
 Node:H.Node=fun _=>bQ H.Dn (aZ (aN 2 (Tryz.f187.body.getD .skip)))
 Stop:H.Stop=kM H.R H.Dn (aZ (kE Tryz.f89)) (je Tryz.f89) (uF H.B0 wz Dz)
 Wn:H.Wn=YW H.B0 wz Dz
 Pv:H.Pv=Ue
 Anch:H.Anch=vD H.Wg
 Fin:H.Fin=Wu H.N [.inRegion (aZ (aN 6 (Tryz.f46.body.getD .skip))) [],.code (bI 7 (Tryz.f46.body.getD .skip))] cs
 hN:0<H.N/\H.N<2147483648
 hB:H.Dn<H.B0/\H.R<H.B0
theorem Zx[Payload]{H:Ph}{wz:Nat->Bool}{Dz:Nat->List Nat}{cs:List Frame}(I:IsB H wz Dz cs):nk H:=by
 have hck:H.Cx.kind≠.early:=by rw[I.Cx];simp[DT]
 refine⟨by rw[I.P,I.X,I.A,I.K];exact closed2,hck,fun κ g w h=>?_,I.hN.2,fun i m ρ p f fs f' fs' w Next h hx hn=>?_,fun i d ρ p f fs f' fs' w h hx hs how hvs hpay hco=>?_,fun κ g w h=>?_⟩
 ·rw[I.Anch]at h;exact Aa h
 ·rw[I.Node]at hn;exact Vg I.P I.K hck I.hB.1 h hx hn
 ·rw[I.Stop]at hs;refine UU I.P I.ty I.K I.Cx I.hB (fun i v h=>by rw[I.Pv];exact h) h hx hs (fun da dl dc wh G8 hr hsv=>?_);rw[I.Wn];exact XJ h.wr hx how hco hr hsv
 ·rw[I.Anch]at h⊢;rw[I.P,I.ty];exact GR h
end Go.Proofs.YtmfpiodlecapiaaGreatDoor
namespace Go.Proofs.YtmfpiodlecapiaaGreatDoor
open Go.Conc Go.ConcN Go.RowKit Go.Conc.Lib Go.ConcR.Gen Go.ConcN.Gen Go.iw Go.bB Go.Ren
open Go.ConcR (KK wgBlock WgAt stA smA rd wr mk Payload Aside2 DC0)
theorem UL[Payload]{H:Ph}(hP:H.P=Tryz.prog){cs:List Frame}{bb bo cap cR cD:Nat}{cS:Addr}{j1 j2 j4 j5 j9 b4 a6 a7 b7 b5 c6 c8 c7 c4 b0 a9 a5 b9 a8 a3 a4 c1 c5 c2 c3 b3 c0 b1 b6 b8 a0 b2:Value}{r:Nat}{w:World}(hs:Ud H r (fun _=>False) (G ((base 46).at ⟨#[.slice (some ⟨bb,bo,none⟩) H.N cap,j1,j2,.pointer (some cS),j4,j5,.pointer (some ⟨cR,0,none⟩),.pointer (some ⟨cD,0,none⟩),.pointer (some ⟨H.Wg,0,none⟩),j9,b4,a6,a7,b7,b5,.slice (some ⟨bb,bo,none⟩) H.N cap,.int .i64 H.N,.int .i64 (0:Nat),c4,b0,a9,a5,b9,a8,a3,a4,c1,c5,c2,c3,b3,c0,b1,b6,b8,a0,b2],[]⟩ [.code (dx (aN 1 (aN 4 (Tryz.f46.body.getD .skip)))),.inLoop (dx (aN 1 (aN 4 (Tryz.f46.body.getD .skip)))),.inBlock 0,.code (bI 5 (Tryz.f46.body.getD .skip))]) cs) w):
  Ud H r (fun _=>False) (G ((base 46).at ⟨#[.slice (some ⟨bb,bo,none⟩) H.N cap,j1,j2,.pointer (some cS),j4,j5,.pointer (some ⟨cR,0,none⟩),.pointer (some ⟨cD,0,none⟩),.pointer (some ⟨H.Wg,0,none⟩),j9,b4,a6,a7,b7,b5,c6,c8,c7,c4,b0,a9,a5,b9,a8,a3,a4,c1,c5,c2,c3,b3,c0,b1,b6,b8,a0,b2],[]⟩ [.inRegion (aZ (aN 3 (Tryz.f46.body.getD .skip))) [],.code (bI 4 (Tryz.f46.body.getD .skip))]) cs) w:=by
 refine KD (k:=10) (fun Stop n hh=>?_) hs;simp only[Tryz.f46,Option.getD_some,aN,bI,dx,aZ]at hh⊢;refine aS.ctl hP rfl (fun _=>stepG_region_end) ?_;refine aS.ctl hP rfl (fun _=>stepG_seq) ?_;refine aS.ctl hP rfl (fun _=>stepG_seq) ?_;refine aS.reg hP (todo:= [0,1,2]) rfl ?_;refine aS.op hP rfl rfl (by decide) (fun w h₁=>⟨fun _=>False,fun K hK=>?_⟩);replace hh:=aS.rely hh h₁;clear h₁;go_simp;refine hK _ _ ⟨.nothing (listed_nil (by simp[go_sem])),?_⟩;clear hK;try walk_nrm
 iterate 2 (refine aS.op hP rfl rfl (by decide) (fun w h₁=>⟨fun _=>False,fun K hK=>?_⟩);replace hh:=aS.rely hh h₁;clear h₁;go_simp;refine hK _ _ ⟨.nothing (listed_nil (by simp[go_sem])),?_⟩;clear hK;try walk_nrm)
 refine aS.ctl hP rfl (fun _=>stepG_region_end) ?_;refine aS.ctl hP rfl (fun _=>stepG_block) ?_;refine aS.ctl hP rfl (fun _=>stepG_loop) ?_;exact hh
theorem Dq[Payload]{H:Ph}{wz:Nat->Bool}{Dz:Nat->List Nat}{cs:List Frame}(I:IsB H wz Dz cs){bb bo cap cR cD:Nat}{cS:Addr}{pa:Nat->Option Addr}{pl pc:Nat->Nat}{j1 j2 j4 j5 j9 b4 a6 a7 b7 b5 c6 c8 c7 c4 b0 a9 a5 b9 a8 a3 a4 c1 c5 c2 c3 b3 c0 b1 b6 b8 a0 b2:Value}
  {gs:Array Goroutine}{w:World}{sl:Option (Nat×Nat)}{t:Trace}{q:Nat->Nat}(hsz:gs.size=H.o)(h0:gs[0]? =some (G ((base 46).at ⟨#[.slice (some ⟨bb,bo,none⟩) H.N cap,j1,j2,.pointer (some cS),j4,j5,.pointer (some ⟨cR,0,none⟩),.pointer (some ⟨cD,0,none⟩),.pointer (some ⟨H.Wg,0,none⟩),j9,b4,a6,a7,b7,b5,c6,c8,c7,c4,b0,a9,a5,b9,a8,a3,a4,c1,c5,c2,c3,b3,c0,b1,b6,b8,a0,b2],[]⟩ [.inRegion (aZ (aN 3 (Tryz.f46.body.getD .skip))) [],.code (bI 4 (Tryz.f46.body.getD .skip))]) cs))(hL:Leavers H.P t gs q)(hPast:Past H.Shun H.Wg t)
  (hold:∀b,H.old b->b<w.heap.size/\b≠H.Wg/\b≠H.R/\b≠H.Dn/\∀k,¬H.Shun (.cell ⟨b,k,none⟩))(RX:H.Wg<w.heap.size/\H.R<w.heap.size/\H.Dn<w.heap.size/\H.Wg≠H.R/\H.Wg≠H.Dn/\H.R≠H.Dn)(hfr:∀b k,w.heap.size<=b->¬H.Shun (.cell ⟨b,k,none⟩))
  (hCH:CH H false w)(hwg:WgAt H.ty H.Wg w 0 0)(hF:FS H bb bo H.N pa pl pc cR cD w)
  (hborn:∀(z cz cp:Nat) (w:World),z<H.N->FS H bb bo H.N pa pl pc cR cD w->FZ H bb cR cD cz cp z (.slice (pa z) (pl z) (pc z)) w->Born H cR cD cS z cz cp w):
  ∃k m' t',runNT H.P k (crowd gs w sl) t=(.next m',t')/\Tgt H m' t':=by
 refine phase (Zx I) I.hN.1 hsz h0 hL hPast hold RX hfr hCH hwg (UL I.P ?_);exact starts I.P I.ty (cs:=cs) (cap:=cap) I.hN.2 rfl hborn (fun j1 j2 j4 j5 j9 b4 a6 a7 b7 b5 c4 b0 a9 a5 b9 a8 a3 a4 c1 c5 c2 c3 b3 c0 b1 b6 b8 a0 b2 w hF=>OO I.P I.ty I.Anch I.Fin I.hN.2 I.hN.1 (fun i v h=>by rw[I.Pv]at h;exact h) j1 j2 j4 j5 j9 b4 a6 a7 b7 b5 c4 b0 a9 a5 b9 a8 a3 a4 c1 c5 c2 c3 b3 c0 b1 b6 b8 a0 b2 w hF) H.N 0 (by omega) j1 j2 j4 j5 j9 b4 a6 a7 b7 b5 c4 b0 a9 a5 b9 a8 a3 a4 c1 c5 c2 c3 b3 c0 b1 b6 b8 a0 b2 w hF
end Go.Proofs.YtmfpiodlecapiaaGreatDoor
