import Derived.Test.YtmfpiodlecapiaaGreatDoorJ28
import Derived.Laws.MakeOwn
import Derived.Conc.TokenWalk
set_option maxHeartbeats 4000000
set_option maxRecDepth 100000
namespace Go.Proofs.YtmfpiodlecapiaaGreatDoor
open Go.Conc Go.ConcN Go.RowKit Go.Conc.Lib Go.ConcR.Gen Go.ConcN.Gen
open Go.iw (RS ah)
open Go.ConcR (KK wgBlock WgAt stA smA rd wr mk Payload Aside2 DC0)
def AtF(P:Program)(g:Goroutine)(w:World):Prop:=g.status= .running/\∃g',stepG P false g w= .go g' w #[mk .disable]
def AtE(P:Program)(ty:TypeId)(Wg:Nat)(g:Goroutine)(w:World):Prop:=g.status= .running/\∃g',stepG P false g w= .go g' w #[mk (.releaseMerge (stA Wg))]/\∃m,Goes P false (RS ty Wg) DC0 (AtF P) m g' w
section
variable [Payload] {P:Program} {ty:TypeId} {Wg C n Low k:Nat} {v:Value} {Own Rd:Nat->Loc->Prop}
theorem U3:∀(m N:Nat) (g:Goroutine) (w:World),Goes P false (RS ty Wg) DC0 (AtF P) m g w->Goes P false (RW ty Wg C n Low (k-1)) (DWs Wg Own Rd C n k) (AtR0 P ty Wg C n Low k v) N g w->False:=by
 intro m;induction m with
 |zero=>
  intro N g w h h';obtain⟨_,g',e⟩:=h w (RS.refl w);rcases Goes.cases h' with hs|⟨N',rfl,hs⟩
  ·obtain⟨_,_,g1,e1,_⟩:=hs w (RW.refl w);rw[e]at e1;simp only[GStep.go.injEq]at e1;have:=e1.2.2;simp[mk]at this
  ·obtain⟨g1,w1,es,e1,⟨_,hev⟩,_⟩:=hs w (RW.refl w);rw[e]at e1;simp only[GStep.go.injEq]at e1;obtain⟨_,_,rfl⟩:=e1;exact(hev (mk .disable) (by simp)).2.1 rfl
 |succ m ih=>
  intro N g w h h';rcases Goes.cases h with hs0|⟨m',hm,hs0⟩
  ·exact(by
    obtain⟨_,g',e⟩:=hs0 w (RS.refl w);rcases Goes.cases h' with hs|⟨N',rfl,hs⟩
    ·obtain⟨_,_,g1,e1,_⟩:=hs w (RW.refl w);rw[e]at e1;simp only[GStep.go.injEq]at e1;have:=e1.2.2;simp[mk]at this
    ·obtain⟨g1,w1,es,e1,⟨_,hev⟩,_⟩:=hs w (RW.refl w);rw[e]at e1;simp only[GStep.go.injEq]at e1;obtain⟨_,_,rfl⟩:=e1;exact(hev (mk .disable) (by simp)).2.1 rfl)
  ·obtain rfl:m'=m:=by omega
   obtain⟨g1,w1,es,e,⟨rfl,rfl⟩,hg⟩:=hs0 w (RS.refl w);rcases Goes.cases h' with hs|⟨N',rfl,hs⟩
   ·obtain⟨_,_,g2,e2,_⟩:=hs w1 (RW.refl w1);rw[e]at e2;simp only[GStep.go.injEq]at e2;have:=e2.2.2;simp at this
   ·obtain⟨g2,w2,es2,e2,_,hg2⟩:=hs w1 (RW.refl w1);rw[e]at e2;simp only[GStep.go.injEq]at e2;obtain⟨rfl,rfl,rfl⟩:=e2;exact ih _ _ _ hg hg2
theorem pin:∀(m N:Nat) (g:Goroutine) (w:World),WgLive ty Wg w->Goes P false (RS ty Wg) DC0 (AtE P ty Wg) m g w->Goes P false (RW ty Wg C n Low (k-1)) (DWs Wg Own Rd C n k) (AtR0 P ty Wg C n Low k v) N g w->
  Goes P false (RW ty Wg C n Low (k-1)) DC0 (AtR0 P ty Wg C n Low k v) N g w:=by
 have stopped:∀(N:Nat) (g:Goroutine) (w:World),(∀w₁,RS ty Wg w w₁->AtE P ty Wg g w₁)->Goes P false (RW ty Wg C n Low (k-1)) (DWs Wg Own Rd C n k) (AtR0 P ty Wg C n Low k v) N g w->
   Goes P false (RW ty Wg C n Low (k-1)) DC0 (AtR0 P ty Wg C n Low k v) N g w:=by
  intro N g w h h';rcases Goes.cases h' with hs|⟨N',rfl,hs⟩
  ·exact Goes.stop hs
  ·obtain⟨_,g',e,m',hm'⟩:=h w (RS.refl w);obtain⟨g2,w2,es2,e2,_,hg2⟩:=hs w (RW.refl w);rw[e]at e2;simp only[GStep.go.injEq]at e2;obtain⟨rfl,rfl,rfl⟩:=e2;exact(U3 m' N' _ _ hm' hg2).elim
 intro m;induction m with
 |zero=>exact fun N g w _ h h'=>stopped N g w h h'
 |succ m ih=>
  intro N g w hF h h';rcases Goes.cases h with hs0|⟨m',hm,hs0⟩
  ·exact stopped N g w hs0 h'
  ·obtain rfl:m'=m:=by omega
   rcases Goes.cases h' with hs|⟨N',rfl,hs⟩
   ·exact Goes.stop hs
   ·obtain⟨ga,wa,ea,ha,⟨rfl,rfl⟩,_⟩:=hs0 w (RS.refl w);have hrun:g.status= .running:=by
     rcases h with hh|hh
     ·exact(hh wa (RS.refl wa)).1
     ·exact hh.1
    refine Goes.step hrun fun w₁ h₁=>?_;obtain⟨g1,w1,es,e,⟨rfl,rfl⟩,hg⟩:=hs0 w₁ ⟨h₁.live⟩;obtain⟨g2,w2,es2,e2,_,hg2⟩:=hs w1 h₁;rw[e]at e2;simp only[GStep.go.injEq]at e2;obtain⟨rfl,rfl,rfl⟩:=e2;rw[e,goes_go];exact⟨⟨rfl,rfl⟩,ih _ _ _ (h₁.live hF) hg hg2⟩
end
section
variable {P:Program} {L:WgLink}
theorem Tn(H:WgLib P L){Wg:Nat}{c:Frame}{cs:List Frame}(w:World)(hF:WgLive L.tWg Wg w):
  ∃m,Goes P false (RS L.tWg Wg) DC0 (AtE P L.tWg Wg) m (G ((baseD L.done).at ⟨#[.pointer (some ⟨Wg,0,none⟩),undef,undef,undef],[]⟩ [.code (body_done L)]) (c::cs)) w:=by
 lib_facts
 refine⟨40,?_⟩;simp only[body_done,doneFn,Option.getD_some];u_reg ah hF
 u_op ah hF;u_in ah hF
 refine goes_call rfl rfl (by k_ne) rfl H.f_add (nm_add L) rfl ⟨by u_nil,?_⟩;walk_nrmf addFn
 u_c stepG_seq ah hF;u_cond true ah hF
 u_c stepG_seq ah hF;u_c stepG_seq ah hF;u_reg ah hF
 u_op ah hF;u_op ah hF;u_c stepG_region_end ah hF;u_cond true ah hF
 u_reg ah hF
 u_op ah hF;u_conv H.underlying_tWgP H.room_tWg (WgLive.cell0 hF).choose_spec ah hF
 refine Goes.stop (fun w₁ h₁=>?_);replace hF:=ah hF h₁;clear h₁;refine⟨rfl,_,stepG_markAt .releaseMerge (by simp) rfl rfl (by k_ne) rfl H.f_relMerge (x_relMerge_n L) (x_relMerge_b L) (x_relMerge_x L) (x_relMerge_f L) (by simp[Act.eval,stA]),10,?_⟩;walk_nrm
 u_c stepG_region_end ah hF;u_c stepG_seq ah hF;u_reg ah hF
 refine Goes.stop (fun w₁ h₁=>?_);exact⟨rfl,_,stepG_mark0 .disable (by simp) rfl rfl (by k_ne) rfl H.f_disable (x_disable_n L) (x_disable_b L) (x_disable_x L) (x_disable_f L)⟩
end
section
variable [Payload]
theorem Zu{Wg C n Low k:Nat}{val:Value}{T:Array Value}(hT:T.size=25){m:Int}{b z:Value}(hm:m=0\/m=1)(h21:T[21]? =some (.tuple #[.int .i64 m,b,z]))
  (w:World)(hK:WgLive link.tWg Wg w/\Has C (k-1) val w):
  ∃N,Goes Tryz.prog false (RW link.tWg Wg C n Low (k-1)) DC0 (AtR0 Tryz.prog link.tWg Wg C n Low k val) N
   (G (DU.at ⟨T,[dcall link.done #[.pointer (some ⟨Wg,0,none⟩)]]⟩ [.inRegion (aZ (kE Tryz.f89)) [1,2,3],.code (je Tryz.f89)]) [bot Tryz.prog.funcs.size]) w:=by
 have H:=qh;obtain⟨v0,v1,v2,v3,v4,v5,v6,v7,v8,v9,v10,v11,v12,v13,v14,v15,v16,v17,v18,v19,v20,v21,v22,v23,v24,rfl⟩:∃v0 v1 v2 v3 v4 v5 v6 v7 v8 v9 v10 v11 v12 v13 v14 v15 v16 v17 v18 v19 v20 v21 v22 v23 v24,T=#[v0,v1,v2,v3,v4,v5,v6,v7,v8,v9,v10,v11,v12,v13,v14,v15,v16,v17,v18,v19,v20,v21,v22,v23,v24]:=by
  obtain⟨l⟩:=T;simp only[List.size_toArray]at hT;match l,hT with
  | [v0,v1,v2,v3,v4,v5,v6,v7,v8,v9,v10,v11,v12,v13,v14,v15,v16,v17,v18,v19,v20,v21,v22,v23,v24],_=>exact⟨v0,v1,v2,v3,v4,v5,v6,v7,v8,v9,v10,v11,v12,v13,v14,v15,v16,v17,v18,v19,v20,v21,v22,v23,v24,rfl⟩
 simp only[List.getElem?_toArray,List.getElem?_cons_succ,List.getElem?_cons_zero,Option.some.injEq]at h21;subst h21;simp only[kE,je,aZ,VZ,tO,Tryz.f89,Option.getD_some];have hA:=@doneN _ link Tryz.prog qh (fun _ _=>False) (fun _ _=>False) Wg C n Low k val;have hB:=@Tn Tryz.prog link qh Wg;simp only[body_done,doneFn,Option.getD_some]at hA hB;rcases hm with rfl|rfl
 ·refine⟨33,?_⟩;u_op kn_rely hK;u_op kn_rely hK;u_op kn_rely hK;u_c stepG_region_end kn_rely hK;u_c stepG_block kn_rely hK;u_cond true kn_rely hK
  u_c stepG_skip kn_rely hK;u_c stepG_inBlock kn_rely hK;u_c stepG_end kn_rely hK;u_in kn_rely hK
  rw[stepG_unwind_enter rfl H.f_done (nm_done link) rfl];simp only[goes_go];refine⟨by u_nil,?_⟩;walk_nrmf doneFn
  obtain⟨m9,h9⟩:=hB (c:=_) (cs:=_) _ hK.1;exact pin m9 23 _ _ hK.1 h9 (hA rfl (J7 _ _) _ hK)
 ·refine⟨34,?_⟩;u_op kn_rely hK;u_op kn_rely hK;u_op kn_rely hK;u_c stepG_region_end kn_rely hK;u_c stepG_block kn_rely hK;u_cond false kn_rely hK
  u_cond true kn_rely hK
  u_c stepG_skip kn_rely hK;u_c stepG_inBlock kn_rely hK;u_c stepG_end kn_rely hK;u_in kn_rely hK
  rw[stepG_unwind_enter rfl H.f_done (nm_done link) rfl];simp only[goes_go];refine⟨by u_nil,?_⟩;walk_nrmf doneFn
  obtain⟨m9,h9⟩:=hB (c:=_) (cs:=_) _ hK.1;exact pin m9 23 _ _ hK.1 h9 (hA rfl (J7 _ _) _ hK)
end
end Go.Proofs.YtmfpiodlecapiaaGreatDoor
namespace Go.Proofs.YtmfpiodlecapiaaGreatDoor
open Go.Conc Go.ConcN Go.RowKit Go.Conc.Lib Go.ConcR.Gen Go.ConcN.Gen Go.iw Go.bB Go.Ren
open Go.ConcR (KK wgBlock WgAt stA smA rd wr mk Payload Aside2 DC0)
def bQ(Dn:Nat)(ops:Array Oper)(s:lJ Nat)(Next:lJ Nat->Prop):Prop:=
 ∃(T:Array Value) (rest:List Nat) (k:List Item),s.f=⟨187,T,.inRegion ops (0::rest)::k,false⟩/\T[3]? =some (.chan (some Dn))/\
  ∀s',(s'=⟨s.m,s.f.finish (.tuple #[.int .i64 (-1),.bool false,.agg #[]]),s.fs,s.w⟩\/s'=⟨1,s.f.finish (.tuple #[.int .i64 0,.bool false,.agg #[]]),s.fs,s.w⟩)->Next s'
theorem YO(Dn:Nat):commResult #[rcase Dn (.agg #[])] .select (-1) undef false= .tuple #[.int .i64 (-1),.bool false,.agg #[]]:=by simp[commResult,rcase,goInt]
theorem YP(Dn:Nat):commResult #[rcase Dn (.agg #[])] .select 0 (.agg #[]) false= .tuple #[.int .i64 0,.bool false,.agg #[]]:=by simp[commResult,rcase,goInt]
theorem YN(C:Ctx)(f:Fr)(fs:List Fr)(h:f.ret=false):cur C f fs=({(default:Frame)with fn:=f.fn,kind:=fT C fs}).at ⟨f.tmps,dh C fs⟩ (f.todo++tail C fs):=by
 rw[bO];simp[Frame.at,Fr.mode,h]
theorem F9{P:Program}(C:Ctx)(f:Fr)(fs:List Fr){cases:Array CommCase}{sh:CommShape}{k:Int}{v:Value}{ok:Bool}(h:Pm f):(bP C f fs).finishComm P cases sh k v ok=bP C (f.finish (commResult cases sh k v ok)) fs:=by
 obtain⟨ops,i,rest,kk,e⟩:=h;rw[bX,bX];simp only[Goroutine.finishComm,G];rw[qV (C:=C) f fs _ e]
theorem qQ{P:Program}{X A:FuncId->Bool}{K:FuncId->Nat->Nat}{ρ:Array Nat}{p w:World}{f f':Fr}{fs fs':List Fr}(h:mQ P X A K ρ p f fs f' fs' w){ops:Array Oper}{i:Nat}{rest:List Nat}{k:List Item}(htd:f.todo= .inRegion ops (i::rest)::k){o:Oper}(ho:ops[i]? =some o){v v':Value}(hv:∀d,o.dst=some d->CR ρ (K f.fn d) v v'):
  mQ P X A K ρ p (f.finish v) fs (f'.finish v') fs' w:=by
 have hh:=h.st.head;have dK:f'.todo= .inRegion ops (i::rest)::k:=by rw[hh.todo,htd]
 refine⟨h.st.swap ⟨?_,?_,?_,?_,?_⟩ ?_,h.wr⟩
 ·simp only[Fr.finish,htd,dK,hh.fn]
 ·simp only[Fr.finish,htd,dK]
 ·simp only[Fr.finish,htd,dK,hh.ret]
 ·simp only[Fr.finish,htd,dK,ho,Option.bind_some];cases hd:o.dst with
  |none=>simpa using hh.tmps
  |some d=>exact hh.tmps.set d (hv d hd)
 ·intro x hx;simp only[Fr.finish,htd,List.mem_cons]at hx⊢;rcases hx with rfl|hx
  ·have:=hh.ok (.inRegion ops (i::rest)) (by rw[htd];simp);exact this
  ·exact hh.ok x (by rw[htd];simp[hx])
 ·simp only[Fr.finish,htd]
theorem yH{P:Program}{X A:FuncId->Bool}{K:FuncId->Nat->Nat}{ρ:Array Nat}{p w:World}{f f':Fr}{fs fs':List Fr}(h:mQ P X A K ρ p f fs f' fs' w){n t r:Nat}(hx:Ext (Array.range n) ρ)(hr:r<n)(hK:K f.fn t=0)(ht:f.tmps[t]? =some (.chan (some r))):f'.tmps[t]? =some (.chan (some r)):=by
 have hT:=h.st.head.tmps;have hlt:t<f.tmps.size:=(Array.getElem?_eq_some_iff.1 ht).1;have e:f'.tmps[t]? =some (f'.tmps[t]'(hT.1▸hlt)):=Array.getElem?_eq_getElem _;have:=hT.2 t _ _ ht e;rw[hK]at this;rw[e];generalize f'.tmps[t]'(hT.1▸hlt)=v' at this;cases this with
 |chan hρ=>
  have:=hx r r (eZ hr);rw[hρ]at this;obtain rfl:=Option.some.inj this;rfl
theorem Vg{H:Ph}(hP:H.P=Tryz.prog)(hK:H.K=jf)(hck:H.Cx.kind≠.early)(hB:H.Dn<H.B0){m:Nat}{ρ:Array Nat}{p w:World}{f f':Fr}{fs fs':List Fr}{Next:lJ Nat->Prop}(h:mQ H.P H.X H.A H.K ρ p f fs f' fs' w)(hx:Ext (Array.range H.B0) ρ)
  (hn:bQ H.Dn (aZ (aN 2 (Tryz.f187.body.getD .skip))) ⟨m,f,fs,p⟩ Next):
  ∃z sh g₂ f1 Gn f2 f2',(∀w,stepG H.P false (bP H.Cx f' fs') w= .comm g₂ #[rcase H.Dn z] false sh w #[])/\
  g₂.finishComm H.P #[rcase H.Dn z] sh (-1) undef false=bP H.Cx Gn fs'/\mQ H.P H.X H.A H.K ρ p f1 fs Gn fs' w/\Next ⟨m,f1,fs,p⟩/\
  g₂.finishComm H.P #[rcase H.Dn z] sh 0 z false=bP H.Cx f2' fs'/\mQ H.P H.X H.A H.K ρ p f2 fs f2' fs' w/\Next ⟨1,f2,fs,p⟩:=by
 obtain⟨T,rest,k,rfl,hT,hnext⟩:=hn;have hh:=h.st.head;have dK:f'.todo= .inRegion (aZ (aN 2 (Tryz.f187.body.getD .skip))) (0::rest)::k:=hh.todo;have hret:f'.ret=false:=hh.ret;have hT':f'.tmps[3]? =some (.chan (some H.Dn)):=yH (t:=3) h hx hB (by rw[hK];rfl) hT;have hat:Pm f':=⟨_,_,_,_,dK⟩;have hv:∀(n:Int) (d:Nat),(some 4:Option Nat)=some d->CR ρ (H.K 187 d) (.tuple #[.int .i64 n,.bool false,.agg #[]]) (.tuple #[.int .i64 n,.bool false,.agg #[]]):=by
  intro n d hd;obtain rfl:=Option.some.inj hd;rw[hK];refine(⟨_,_,rfl,rfl,rfl,fun i x x' h1 h2=>?_,fun i x x' hi h1 h2=>?_⟩:CR ρ 4 _ _)
  ·rw[h1]at h2;obtain rfl:=Option.some.inj h2;match i,h1 with
   |0,h1=>obtain rfl:=Option.some.inj h1;exact .int _ _
   |1,h1=>obtain rfl:=Option.some.inj h1;exact .bool _
   |2,h1=>obtain rfl:=Option.some.inj h1;exact .agg rfl fun i v v' h=>by simp at h
   |i+3,h1=>simp at h1
  ·rw[h1]at h2;obtain rfl:=Option.some.inj h2;match i,h1,hi with
   |0,h1,_=>obtain rfl:=Option.some.inj h1;exact .int _ _
   |1,h1,_=>obtain rfl:=Option.some.inj h1;exact .bool _
 have e1:=F9 (P:=H.P) H.Cx f' fs' (cases:=#[rcase H.Dn (.agg #[])]) (sh:=.select) (k:= -1) (v:=undef) (ok:=false) hat;have e2:=F9 (P:=H.P) H.Cx f' fs' (cases:=#[rcase H.Dn (.agg #[])]) (sh:=.select) (k:=0) (v:=.agg #[]) (ok:=false) hat;rw[show commResult #[rcase H.Dn (.agg #[])] .select (-1) undef false= .tuple #[.int .i64 (-1),.bool false,.agg #[]]from YO _]at e1;rw[show commResult #[rcase H.Dn (.agg #[])] .select 0 (.agg #[]) false= .tuple #[.int .i64 0,.bool false,.agg #[]]from YP _]at e2;refine⟨.agg #[],.select,bP H.Cx f' fs',_,_,_,_,fun w=>?_,e1,qQ (o:=(aZ (aN 2 (Tryz.f187.body.getD .skip)))[0]) h rfl rfl (hv (-1)),hnext _ (.inl rfl),e2,qQ (o:=(aZ (aN 2 (Tryz.f187.body.getD .skip)))[0]) h rfl rfl (hv 0),hnext _ (.inr rfl)⟩;rw[bX,YN _ _ _ hret,dK,hP];refine Eq.trans (stepG_comm (cases:=#[rcase H.Dn (.agg #[])]) (blocking:=false) (shape:=.select) (w':=w) rfl rfl ?_ ?_) ?_
 ·cases fs'<;>simp[fT,hck]
 ·simp only[aZ,aN,Tryz.f187,Option.getD_some];have hg:f'.tmps[3]?.getD undef= .chan (some H.Dn):=by rw[hT'];rfl
  simp[go_sem,rcase,hg]
 ·rw[listed_nil (by simp[go_sem,aZ,aN,Tryz.f187])];rfl
end Go.Proofs.YtmfpiodlecapiaaGreatDoor
namespace Go.Proofs.YtmfpiodlecapiaaGreatDoor
open Go.Conc Go.ConcN Go.RowKit Go.Conc.Lib Go.ConcR.Gen Go.ConcN.Gen Go.iw
open Go.ConcR (KK wgBlock WgAt stA smA rd wr mk Payload Aside2 DC0)
def Ue(i:Nat)(v:Value):Prop:=∃(da:Option Addr) (dl dc:Nat) (wh:Bool),v= .agg #[.int .i64 i,.slice da dl dc,.bool wh]
def Qd:Code->Code
 | .cond _ a _=>a
 |c=>c
theorem Jg:(Tryz.prog.funcs[92]?).any (·.norace)=false:=by rw[Tryz.func92];rfl
theorem zY(P:Program)(w:World)(es:Array Event)(a:Addr)(m:Mode)(b:Bool):(store a (.bool b) m).events P w es=storedEv P w es a (.bool b) m:=events_store P w es a _ m rfl
theorem Td{P:Program}{b:Frame}{a:Act}{k:List Item}{cs:List Frame}{ops:Array Oper}{i:Nat}{rest:List Nat}{cases:Array CommCase}{v:Value}:
  (G (b.at a (.inRegion ops (i::rest)::k)) cs).finishComm P cases (.recv false) 0 v true=G (b.at (a.put ((ops[i]?).bind (·.dst)) v) (.inRegion ops rest::k)) cs:=by
 simp[Goroutine.finishComm,commResult,G,Frame.finish_at]
structure PJ(H:Ph)(cP:Nat)(mine:Nat->Prop)(w:World):Prop where
 row:∃parts:Array Value,w.heap[cP]? =some (.cells parts 28)/\parts.size=H.N
 own:mine cP
 live:WgLive H.ty H.Wg w
structure PI(H:Ph)(cP:Nat)(got:Nat->Option Value)(mine:Nat->Prop)(w:World):Prop where
 row:∃parts:Array Value,w.heap[cP]? =some (.cells parts 28)/\parts.size=H.N/\∀i v,got i=some v->∃da dl dc,v= .agg #[.int .i64 i,.slice da dl dc,.bool true]/\parts[i]? =some (.slice da dl dc)
 own:mine cP
 live:WgLive H.ty H.Wg w
theorem TB[Payload]{H:Ph}(hP:H.P=Tryz.prog)(Sj:∀i v,H.Pv i v->Ue i v){cf:Frame}{cs:List Frame}(Rz:H.ty≠28)(hN:H.N<2147483648)
  (hfin:∃n,∀(cP:Nat) (got:Nat->Option Value) (mine:Nat->Prop) (w:World),PI H cP got mine w->(∀i,i<H.N->got i≠none)->aS H (mR H true got) n mine (G (cf.finish (.tuple #[.slice (some ⟨cP,0,none⟩) H.N H.N,.bool true])) cs) w)
  (hbad:∃n,∀(cP:Nat) (got:Nat->Option Value) (mine:Nat->Prop) (w:World),PJ H cP mine w->(∃i da dl dc,i<H.N/\got i=some (.agg #[.int .i64 i,.slice da dl dc,.bool false]))->aS H (mR H false got) n mine (G (cf.finish (.tuple #[.slice none 0 0,.bool false])) cs) w):
  ∀k:Nat,∃n,∀(cP c:Nat) (j3 j4 j5 j6 j7 j9 a5 a0 b5 b6 b9 b8 b4 b7 a7 b0 b2 a6 a8 a9 b1 b3 a4:Value) (got:Nat->Option Value) (mine:Nat->Prop) (w:World),c+k=H.N->PI H cP got mine w->(k=0->∀i,i<H.N->got i≠none)->(sumTo H.N (fun i=>if got i=none then 1 else 0)=k)->
   aS H (fun m g w=>oW H k got m g w\/AtClose H got m g w) n mine (G ((base 92).at ⟨#[.chan (some H.R),.chan (some H.Dn),.int .i64 H.N,j3,j4,j5,j6,j7,.slice (some ⟨cP,0,none⟩) H.N H.N,j9,a5,a0,.int .i64 H.N,.int .i64 c,b5,b6,b9,b8,b4,b7,a7,b0,b2,a6,a8,a9,b1,b3,a4],[]⟩ [.code (dx (aN 1 (aN 2 (Tryz.f92.body.getD .skip)))),.inLoop (dx (aN 1 (aN 2 (Tryz.f92.body.getD .skip)))),.inBlock 0,.code (bI 3 (Tryz.f92.body.getD .skip))]) (cf::cs)) w:=by
 intro k;induction k with
 |zero=>
  obtain⟨n0,h0⟩:=hfin;refine⟨n0+30,?_⟩;intro cP c j3 j4 j5 j6 j7 j9 a5 a0 b5 b6 b9 b8 b4 b7 a7 b0 b2 a6 a8 a9 b1 b3 a4 got mine w hc hI hall hsum;have hcN:¬(c:Int)<(H.N:Int):=by omega
  simp only[Tryz.f92,Option.getD_some,aN,bI,dx];refine aS.ctl hP rfl (fun _=>stepG_seq) ?_;refine aS.reg hP (todo:= [0]) rfl ?_;refine aS.op hP rfl rfl (by decide) (fun w h₁=>⟨mine,fun K hK=>?_⟩);replace hI:PI H cP got mine w:=⟨by rw[h₁.row cP (.inr hI.own)];exact hI.row,hI.own,h₁.live hI.live⟩;clear h₁;go_simp;refine hK _ _ ⟨.nothing (listed_nil (by simp[go_sem])),?_⟩;clear hK;try walk_nrm
  refine aS.ctl hP rfl (fun _=>stepG_region_end) ?_;refine aS.ctl hP rfl (fun _=>stepG_seq) ?_;refine aS.no hP (by first|rfl|simp[Act.eval]) ?_;refine aS.ctl hP rfl (fun _=>stepG_exit rfl) ?_;refine aS.ctl hP rfl (fun _=>stepG_seq) ?_;refine aS.reg hP (todo:= [0,1,2]) rfl ?_;refine aS.op hP rfl rfl (by decide) (fun w h₁=>⟨mine,fun K hK=>?_⟩);replace hI:PI H cP got mine w:=⟨by rw[h₁.row cP (.inr hI.own)];exact hI.row,hI.own,h₁.live hI.live⟩;clear h₁;go_simp;refine hK _ _ ⟨.nothing (listed_nil (by simp[go_sem])),?_⟩;clear hK;try walk_nrm
  iterate 2 (refine aS.op hP rfl rfl (by decide) (fun w h₁=>⟨mine,fun K hK=>?_⟩);replace hI:PI H cP got mine w:=⟨by rw[h₁.row cP (.inr hI.own)];exact hI.row,hI.own,h₁.live hI.live⟩;clear h₁;go_simp;refine hK _ _ ⟨.nothing (listed_nil (by simp[go_sem])),?_⟩;clear hK;try walk_nrm)
  refine aS.ctl hP rfl (fun _=>stepG_region_end) ?_;refine aS.ctl hP rfl (fun _=>stepG_ret') ?_;refine aS.ctl hP rfl (fun w=>stepG_leave (fn:=Tryz.f92) (v:=.tuple #[.slice (some ⟨cP,0,none⟩) H.N H.N,.bool true]) rfl rfl Tryz.func92 (by simp[results,Tryz.f92,go_sem]) (by simp[results,Tryz.f92,go_sem])) ?_;exact aS.more (aS.mono (fun _ _ _ h=>.inl h) (h0 cP got mine w hI (hall rfl))) (by omega)
 |succ k ih=>
  refine⟨40,?_⟩;intro cP c j3 j4 j5 j6 j7 j9 a5 a0 b5 b6 b9 b8 b4 b7 a7 b0 b2 a6 a8 a9 b1 b3 a4 got mine w hc hI hall hsum;have hcN:(c:Int)<(H.N:Int):=by omega
  simp only[Tryz.f92,Option.getD_some,aN,bI,dx]at ih⊢;refine aS.ctl hP rfl (fun _=>stepG_seq) ?_;refine aS.reg hP (todo:= [0]) rfl ?_;refine aS.op hP rfl rfl (by decide) (fun w h₁=>⟨mine,fun K hK=>?_⟩);replace hI:PI H cP got mine w:=⟨by rw[h₁.row cP (.inr hI.own)];exact hI.row,hI.own,h₁.live hI.live⟩;clear h₁;go_simp;refine hK _ _ ⟨.nothing (listed_nil (by simp[go_sem])),?_⟩;clear hK;try walk_nrm
  refine aS.ctl hP rfl (fun _=>stepG_region_end) ?_;refine aS.ctl hP rfl (fun _=>stepG_seq) ?_;refine aS.yes hP (by first|rfl|simp[Act.eval]) ?_;refine aS.ctl hP rfl (fun _=>stepG_skip) ?_;refine aS.ctl hP rfl (fun _=>stepG_seq) ?_;refine aS.ctl hP rfl (fun _=>stepG_block) ?_;refine aS.ctl hP rfl (fun _=>stepG_seq) ?_;refine aS.reg hP (todo:= [0,1,2,3]) rfl ?_;refine aS.op hP rfl rfl (by decide) (fun w h₁=>⟨mine,fun K hK=>?_⟩);replace hI:PI H cP got mine w:=⟨by rw[h₁.row cP (.inr hI.own)];exact hI.row,hI.own,h₁.live hI.live⟩;clear h₁;go_simp;refine hK _ _ ⟨.nothing (listed_nil (by simp[go_sem])),?_⟩;clear hK;try walk_nrm
  refine aS.stop (fun w h₁=>.inl ⟨rfl,.agg #[.int .i64 0,.slice none 0 0,.bool false],fun w=>?_,fun i v hi hn hv w h₂=>?_⟩)
  ·rw[hP];refine Eq.trans (stepG_comm (cases:=#[rcase H.R (.agg #[.int .i64 0,.slice none 0 0,.bool false])]) (blocking:=true) (shape:=.recv false) (w':=w) rfl rfl (by decide) ?_) ?_
   ·simp[go_sem,rcase]
   ·rw[listed_nil (by simp[go_sem])]
  ·obtain⟨da,dl,dc,wh,rfl⟩:=Sj i v hv;replace hI:PI H cP got mine w:=⟨by rw[h₂.row cP (.inr hI.own),h₁.row cP (.inr hI.own)];exact hI.row,hI.own,h₂.live (h₁.live hI.live)⟩;clear h₁ h₂;obtain⟨n1,ih1⟩:=ih;obtain⟨n2,hb⟩:=hbad;refine⟨n1+n2+60,?_⟩;rw[Td];walk_nrm
   refine aS.op hP rfl rfl (by decide) (fun w h₁=>⟨fun b=>mine b\/b=w.heap.size,fun K hK=>?_⟩);replace hI:PI H cP got mine w:=⟨by rw[h₁.row cP (.inr hI.own)];exact hI.row,hI.own,h₁.live hI.live⟩;clear h₁;go_simp;refine hK _ _ ⟨.makes (fun e he=>by have hm:=mem_listed he;simp[go_sem]at hm),?_⟩;clear hK;have hZ:=wo w (.cells #[.int .i64 0,.slice none 0 0,.bool false] 161);replace hI:PI H cP got (fun b=>mine b\/b=w.heap.size) (w.alloc (.cells #[.int .i64 0,.slice none 0 0,.bool false] 161)):=⟨let⟨p,h1,h2⟩:=hI.row;⟨p,pI h1,h2⟩,.inl hI.own,let⟨st,sm,hl⟩:=hI.live;⟨st,sm,pI hl⟩⟩;have hne:cP≠w.heap.size:=by
    obtain⟨p,h1,_⟩:=hI.row;intro e;rw[e,hZ]at h1;simp at h1
   have hnW:H.Wg≠w.heap.size:=by
    obtain⟨st,sm,hl⟩:=hI.live;intro e;rw[WgAt,e,hZ]at hl;simp[wgBlock]at hl
   generalize w.alloc (.cells #[.int .i64 0,.slice none 0 0,.bool false] 161)=w0 at hI hZ⊢;obtain⟨cr,hcr⟩:∃cr,cr=w.heap.size:=⟨_,rfl⟩;rw[<-hcr]at hZ hI hne hnW⊢;clear hcr;try walk_nrm
   refine aS.op hP rfl rfl (by decide) (fun w h₁=>⟨fun b=>mine b\/b=cr,fun K hK=>?_⟩);replace hI:PI H cP got (fun b=>mine b\/b=cr) w:=⟨by rw[h₁.row cP (.inr hI.own)];exact hI.row,hI.own,h₁.live hI.live⟩;replace hZ:=(h₁.row cr (.inr (.inr rfl))).trans hZ;clear h₁;have hc0:w.cell? ⟨cr,0,none⟩=some (.int .i64 0):=by simp[World.cell?,hZ]
   have hc1:w.cell? ⟨cr,1,none⟩=some (.slice none 0 0):=by simp[World.cell?,hZ]
   have hc2:w.cell? ⟨cr,2,none⟩=some (.bool false):=by simp[World.cell?,hZ]
   have hf:∀k,w.frozen? ⟨cr,k,none⟩=false:=fun k=>by simp[World.frozen?,hZ]
   go_simp;try (unfold stored;go_simp)
   have hAs:Aside cr w (((w.setCell ⟨cr,0,none⟩ (.int .i64 i)).setCell ⟨cr,1,none⟩ (.slice da dl dc)).setCell ⟨cr,2,none⟩ (.bool wh)):=((aside_setCell w ⟨cr,0,none⟩ _).trans (aside_setCell _ ⟨cr,1,none⟩ _)).trans (aside_setCell _ ⟨cr,2,none⟩ _);refine hK _ _ ⟨.turns hAs (.inr rfl) (fun e he=>?_) (fun h=>Go.Ren.tY (Go.Ren.tY (Go.Ren.tY h))),?_⟩
   ·have hm:=mem_listed he;simp[go_sem,zY,hc0,hc1,hc2,hf]at hm;rcases hm with rfl|rfl|rfl<;>exact⟨_,_,rfl⟩
   clear hK hc0 hc1 hc2 hf;replace hZ:(((w.setCell ⟨cr,0,none⟩ (.int .i64 i)).setCell ⟨cr,1,none⟩ (.slice da dl dc)).setCell ⟨cr,2,none⟩ (.bool wh)).heap[cr]? =some (.cells #[.int .i64 i,.slice da dl dc,.bool wh] 161):=by simp[World.setCell,Array.getElem?_modify,hZ]
   replace hI:PI H cP got (fun b=>mine b\/b=cr) (((w.setCell ⟨cr,0,none⟩ (.int .i64 i)).setCell ⟨cr,1,none⟩ (.slice da dl dc)).setCell ⟨cr,2,none⟩ (.bool wh)):=⟨by rw[hAs.block cP hne];exact hI.row,hI.own,let⟨st,sm,hl⟩:=hI.live;⟨st,sm,(hAs.block _ hnW).trans hl⟩⟩;generalize (((w.setCell ⟨cr,0,none⟩ (.int .i64 i)).setCell ⟨cr,1,none⟩ (.slice da dl dc)).setCell ⟨cr,2,none⟩ (.bool wh))=w0 at hI hZ⊢;clear hAs;try walk_nrm
   refine aS.ctl hP rfl (fun _=>stepG_region_end) ?_;refine aS.ctl hP rfl (fun _=>stepG_seq) ?_;refine aS.ctl hP rfl (fun _=>stepG_seq) ?_;refine aS.reg hP (todo:= [0,1,2]) rfl ?_;refine aS.op hP rfl rfl (by decide) (fun w h₁=>⟨fun b=>mine b\/b=cr,fun K hK=>?_⟩);replace hI:PI H cP got (fun b=>mine b\/b=cr) w:=⟨by rw[h₁.row cP (.inr hI.own)];exact hI.row,hI.own,h₁.live hI.live⟩;replace hZ:=(h₁.row cr (.inr (.inr rfl))).trans hZ;clear h₁;have hc0:w.cell? ⟨cr,0,none⟩=some (.int .i64 i):=by simp[World.cell?,hZ]
   have hc1:w.cell? ⟨cr,1,none⟩=some (.slice da dl dc):=by simp[World.cell?,hZ]
   have hc2:w.cell? ⟨cr,2,none⟩=some (.bool wh):=by simp[World.cell?,hZ]
   go_simp;refine hK _ _ ⟨.nothing (listed_nil (by simp[go_sem])),?_⟩;clear hK hc0 hc1 hc2;try walk_nrm
   refine aS.op hP rfl rfl (by decide) (fun w h₁=>⟨fun b=>mine b\/b=cr,fun K hK=>?_⟩);replace hI:PI H cP got (fun b=>mine b\/b=cr) w:=⟨by rw[h₁.row cP (.inr hI.own)];exact hI.row,hI.own,h₁.live hI.live⟩;replace hZ:=(h₁.row cr (.inr (.inr rfl))).trans hZ;clear h₁;have hc0:w.cell? ⟨cr,0,none⟩=some (.int .i64 i):=by simp[World.cell?,hZ]
   have hc1:w.cell? ⟨cr,1,none⟩=some (.slice da dl dc):=by simp[World.cell?,hZ]
   have hc2:w.cell? ⟨cr,2,none⟩=some (.bool wh):=by simp[World.cell?,hZ]
   go_simp;refine hK _ _ ⟨.turns (c:=cr) (.refl _ w) (.inr rfl) (fun e he=>by have hm:=mem_listed he;simp[go_sem,hc2]at hm;exact⟨_,_,hm⟩) id,?_⟩;clear hK hc0 hc1 hc2;try walk_nrm
   refine aS.op hP rfl rfl (by decide) (fun w h₁=>⟨fun b=>mine b\/b=cr,fun K hK=>?_⟩);replace hI:PI H cP got (fun b=>mine b\/b=cr) w:=⟨by rw[h₁.row cP (.inr hI.own)];exact hI.row,hI.own,h₁.live hI.live⟩;replace hZ:=(h₁.row cr (.inr (.inr rfl))).trans hZ;clear h₁;have hc0:w.cell? ⟨cr,0,none⟩=some (.int .i64 i):=by simp[World.cell?,hZ]
   have hc1:w.cell? ⟨cr,1,none⟩=some (.slice da dl dc):=by simp[World.cell?,hZ]
   have hc2:w.cell? ⟨cr,2,none⟩=some (.bool wh):=by simp[World.cell?,hZ]
   go_simp;refine hK _ _ ⟨.nothing (listed_nil (by simp[go_sem])),?_⟩;clear hK hc0 hc1 hc2;try walk_nrm
   refine aS.ctl hP rfl (fun _=>stepG_region_end) ?_;cases wh with
   |false=>
    refine aS.yes hP (by first|rfl|simp[Act.eval]) ?_;refine aS.ctl hP rfl (fun _=>stepG_seq) ?_;refine aS.reg hP (todo:= [0,1]) rfl ?_;refine aS.op hP rfl rfl (by decide) (fun w h₁=>⟨fun b=>mine b\/b=cr,fun K hK=>?_⟩);replace hI:PI H cP got (fun b=>mine b\/b=cr) w:=⟨by rw[h₁.row cP (.inr hI.own)];exact hI.row,hI.own,h₁.live hI.live⟩;replace hZ:=(h₁.row cr (.inr (.inr rfl))).trans hZ;clear h₁;have hc0:w.cell? ⟨cr,0,none⟩=some (.int .i64 i):=by simp[World.cell?,hZ]
    have hc1:w.cell? ⟨cr,1,none⟩=some (.slice da dl dc):=by simp[World.cell?,hZ]
    have hc2:w.cell? ⟨cr,2,none⟩=some (.bool false):=by simp[World.cell?,hZ]
    go_simp;refine hK _ _ ⟨.nothing (listed_nil (by simp[go_sem])),?_⟩;clear hK hc0 hc1 hc2;try walk_nrm
    refine aS.stop (fun w h₁=>.inr ⟨rfl,fun s r tm hD=>?_⟩);replace hI:PI H cP got (fun b=>mine b\/b=cr) w:=⟨by rw[h₁.row cP (.inr hI.own)];exact hI.row,hI.own,h₁.live hI.live⟩;clear h₁;refine⟨(G ((base 92).at ⟨#[.chan (some H.R),.chan (some H.Dn),.int .i64 H.N,j3,j4,j5,j6,j7,.slice (some ⟨cP,0,none⟩) H.N H.N,.pointer (some ⟨cr,0,none⟩),a5,a0,.int .i64 H.N,.int .i64 c,.bool true,.chan (some H.R),.agg #[.int .i64 i,.slice da dl dc,.bool false],.pointer (some ⟨cr,2,none⟩),.bool false,.bool true,.chan (some H.Dn),b0,b2,a6,a8,a9,b1,b3,a4],[]⟩ [.inRegion (aZ (aN 0 (Qd (bI 1 (aN 1 (rz (aN 2 (dx (aN 1 (aN 2 (Tryz.f92.body.getD .skip))))))))))) [],.code (bI 1 (Qd (bI 1 (aN 1 (rz (aN 2 (dx (aN 1 (aN 2 (Tryz.f92.body.getD .skip)))))))))),.code (bI 2 (rz (aN 2 (dx (aN 1 (aN 2 (Tryz.f92.body.getD .skip))))))),.inBlock 1,.code (bI 3 (dx (aN 1 (aN 2 (Tryz.f92.body.getD .skip))))),.inLoop (dx (aN 1 (aN 2 (Tryz.f92.body.getD .skip)))),.inBlock 0,.code (bI 3 (Tryz.f92.body.getD .skip))]) (cf::cs)),closeEvents H.Dn,?_,?_,rfl,?_,fun w₁ h₁=>?_⟩
    ·rw[hP];exact Eq.trans (stepG_close (ats:=#[221]) (x:=.tmp 20) rfl rfl (by decide) rfl (c:=H.Dn) rfl hD Jg) rfl
    ·rw[hP];rfl
    ·intro e he;have hlt:H.Dn<w.heap.size:=(Array.getElem?_eq_some_iff.1 hD).1;simp only[closeEvents,List.mem_toArray,List.mem_cons,List.not_mem_nil,or_false]at he;rcases he with rfl|rfl
     ·refine⟨fun y hy=>?_,hlt,by simp,by simp,by simp⟩;simp only[MemAct.ofEvent,MemAct.touch?,Option.some.injEq]at hy;subst hy;exact⟨⟨_,rfl⟩,rfl⟩
     ·exact⟨fun y hy=>by simp[MemAct.ofEvent,MemAct.touch?]at hy,hlt,by simp,by simp,by simp⟩
    ·replace hI:PI H cP got (fun b=>mine b\/b=cr) w₁:=⟨by rw[h₁.row cP (.inr hI.own)];exact hI.row,hI.own,h₁.live hI.live⟩;clear h₁ hD;have hg':∃i' G8 dl' dc',i'<H.N/\upd got i (some (.agg #[.int .i64 i,.slice da dl dc,.bool false])) i'=some (.agg #[.int .i64 i',.slice G8 dl' dc',.bool false]):=⟨i,da,dl,dc,hi,upd_same ..⟩;generalize RY:upd got i (some (.agg #[.int .i64 i,.slice da dl dc,.bool false]))=got' at hg'⊢;refine⟨n2+20,?_⟩;simp only[Tryz.f92,Option.getD_some,aN,bI,dx,rz,Qd,aZ];refine aS.ctl hP rfl (fun _=>stepG_region_end) ?_;refine aS.ctl hP rfl (fun _=>stepG_seq) ?_;refine aS.reg hP (todo:= [0,1]) rfl ?_;refine aS.op hP rfl rfl (by decide) (fun w h₁=>⟨(fun b=>mine b\/b=cr),fun K hK=>?_⟩);replace hI:PI H cP got (fun b=>mine b\/b=cr) w:=⟨by rw[h₁.row cP (.inr hI.own)];exact hI.row,hI.own,h₁.live hI.live⟩;clear h₁;go_simp;refine hK _ _ ⟨.nothing (listed_nil (by simp[go_sem])),?_⟩;clear hK;try walk_nrm
     refine aS.op hP rfl rfl (by decide) (fun w h₁=>⟨(fun b=>mine b\/b=cr),fun K hK=>?_⟩);replace hI:PI H cP got (fun b=>mine b\/b=cr) w:=⟨by rw[h₁.row cP (.inr hI.own)];exact hI.row,hI.own,h₁.live hI.live⟩;clear h₁;go_simp;refine hK _ _ ⟨.nothing (listed_nil (by simp[go_sem])),?_⟩;clear hK;try walk_nrm
     refine aS.ctl hP rfl (fun _=>stepG_region_end) ?_;refine aS.ctl hP rfl (fun _=>stepG_ret') ?_;refine aS.ctl hP rfl (fun w=>stepG_leave (fn:=Tryz.f92) (v:=.tuple #[.slice none 0 0,.bool false]) rfl rfl Tryz.func92 (by simp[results,Tryz.f92,go_sem]) (by simp[results,Tryz.f92,go_sem])) ?_;exact aS.more (hb cP got' _ w ⟨hI.row.imp fun p h=>⟨h.1,h.2.1⟩,hI.own,hI.live⟩ hg') (by omega)
   |true=>
    refine aS.no hP (by first|rfl|simp[Act.eval]) ?_;refine aS.ctl hP rfl (fun _=>stepG_skip) ?_;refine aS.reg hP (todo:= [0,1,2,3,4,5,6]) rfl ?_;have hiN:(i:Int)<(H.N:Int):=by omega
    refine aS.op hP rfl rfl (by decide) (fun w h₁=>⟨fun b=>mine b\/b=cr,fun K hK=>?_⟩);replace hI:PI H cP got (fun b=>mine b\/b=cr) w:=⟨by rw[h₁.row cP (.inr hI.own)];exact hI.row,hI.own,h₁.live hI.live⟩;replace hZ:=(h₁.row cr (.inr (.inr rfl))).trans hZ;clear h₁;have hc0:w.cell? ⟨cr,0,none⟩=some (.int .i64 i):=by simp[World.cell?,hZ]
    have hc1:w.cell? ⟨cr,1,none⟩=some (.slice da dl dc):=by simp[World.cell?,hZ]
    have hc2:w.cell? ⟨cr,2,none⟩=some (.bool true):=by simp[World.cell?,hZ]
    go_simp;refine hK _ _ ⟨.nothing (listed_nil (by simp[go_sem])),?_⟩;clear hK hc0 hc1 hc2;try walk_nrm
    refine aS.op hP rfl rfl (by decide) (fun w h₁=>⟨fun b=>mine b\/b=cr,fun K hK=>?_⟩);replace hI:PI H cP got (fun b=>mine b\/b=cr) w:=⟨by rw[h₁.row cP (.inr hI.own)];exact hI.row,hI.own,h₁.live hI.live⟩;replace hZ:=(h₁.row cr (.inr (.inr rfl))).trans hZ;clear h₁;have hc0:w.cell? ⟨cr,0,none⟩=some (.int .i64 i):=by simp[World.cell?,hZ]
    have hc1:w.cell? ⟨cr,1,none⟩=some (.slice da dl dc):=by simp[World.cell?,hZ]
    have hc2:w.cell? ⟨cr,2,none⟩=some (.bool true):=by simp[World.cell?,hZ]
    go_simp;refine hK _ _ ⟨.nothing (listed_nil (by simp[go_sem])),?_⟩;clear hK hc0 hc1 hc2;try walk_nrm
    refine aS.op hP rfl rfl (by decide) (fun w h₁=>⟨fun b=>mine b\/b=cr,fun K hK=>?_⟩);replace hI:PI H cP got (fun b=>mine b\/b=cr) w:=⟨by rw[h₁.row cP (.inr hI.own)];exact hI.row,hI.own,h₁.live hI.live⟩;replace hZ:=(h₁.row cr (.inr (.inr rfl))).trans hZ;clear h₁;have hc0:w.cell? ⟨cr,0,none⟩=some (.int .i64 i):=by simp[World.cell?,hZ]
    have hc1:w.cell? ⟨cr,1,none⟩=some (.slice da dl dc):=by simp[World.cell?,hZ]
    have hc2:w.cell? ⟨cr,2,none⟩=some (.bool true):=by simp[World.cell?,hZ]
    go_simp;refine hK _ _ ⟨.turns (c:=cr) (.refl _ w) (.inr rfl) (fun e he=>by have hm:=mem_listed he;simp[go_sem,hc0]at hm;exact⟨_,_,hm⟩) id,?_⟩;clear hK hc0 hc1 hc2;try walk_nrm
    refine aS.op hP rfl rfl (by decide) (fun w h₁=>⟨fun b=>mine b\/b=cr,fun K hK=>?_⟩);replace hI:PI H cP got (fun b=>mine b\/b=cr) w:=⟨by rw[h₁.row cP (.inr hI.own)];exact hI.row,hI.own,h₁.live hI.live⟩;replace hZ:=(h₁.row cr (.inr (.inr rfl))).trans hZ;clear h₁;have hc0:w.cell? ⟨cr,0,none⟩=some (.int .i64 i):=by simp[World.cell?,hZ]
    have hc1:w.cell? ⟨cr,1,none⟩=some (.slice da dl dc):=by simp[World.cell?,hZ]
    have hc2:w.cell? ⟨cr,2,none⟩=some (.bool true):=by simp[World.cell?,hZ]
    go_simp;refine hK _ _ ⟨.nothing (listed_nil (by simp[go_sem])),?_⟩;clear hK hc0 hc1 hc2;try walk_nrm
    refine aS.op hP rfl rfl (by decide) (fun w h₁=>⟨fun b=>mine b\/b=cr,fun K hK=>?_⟩);replace hI:PI H cP got (fun b=>mine b\/b=cr) w:=⟨by rw[h₁.row cP (.inr hI.own)];exact hI.row,hI.own,h₁.live hI.live⟩;replace hZ:=(h₁.row cr (.inr (.inr rfl))).trans hZ;clear h₁;have hc0:w.cell? ⟨cr,0,none⟩=some (.int .i64 i):=by simp[World.cell?,hZ]
    have hc1:w.cell? ⟨cr,1,none⟩=some (.slice da dl dc):=by simp[World.cell?,hZ]
    have hc2:w.cell? ⟨cr,2,none⟩=some (.bool true):=by simp[World.cell?,hZ]
    go_simp;refine hK _ _ ⟨.turns (c:=cr) (.refl _ w) (.inr rfl) (fun e he=>by have hm:=mem_listed he;simp[go_sem,hc1]at hm;exact⟨_,_,hm⟩) id,?_⟩;clear hK hc0 hc1 hc2;try walk_nrm
    refine aS.op hP rfl rfl (by decide) (fun w h₁=>⟨fun b=>mine b\/b=cr,fun K hK=>?_⟩);replace hI:PI H cP got (fun b=>mine b\/b=cr) w:=⟨by rw[h₁.row cP (.inr hI.own)];exact hI.row,hI.own,h₁.live hI.live⟩;replace hZ:=(h₁.row cr (.inr (.inr rfl))).trans hZ;clear h₁;have hc0:w.cell? ⟨cr,0,none⟩=some (.int .i64 i):=by simp[World.cell?,hZ]
    have hc1:w.cell? ⟨cr,1,none⟩=some (.slice da dl dc):=by simp[World.cell?,hZ]
    have hc2:w.cell? ⟨cr,2,none⟩=some (.bool true):=by simp[World.cell?,hZ]
    go_simp;refine hK _ _ ⟨.nothing (listed_nil (by simp[go_sem,hiN])),?_⟩;clear hK hc0 hc1 hc2;try walk_nrm
    refine aS.op hP rfl rfl (by decide) (fun w h₁=>⟨fun b=>mine b\/b=cr,fun K hK=>?_⟩);replace hI:PI H cP got (fun b=>mine b\/b=cr) w:=⟨by rw[h₁.row cP (.inr hI.own)];exact hI.row,hI.own,h₁.live hI.live⟩;clear h₁;obtain⟨⟨parts,hp1,hp2,hp3⟩,hown,hlv⟩:=hI;have hip:parts[i]? =some (parts[i]'(by omega)):=Array.getElem?_eq_getElem _;have hcc:w.cell? ⟨cP,i,none⟩=some (parts[i]'(by omega)):=by simp[World.cell?,hp1,hip]
    have hff:w.frozen? ⟨cP,i,none⟩=false:=by simp[World.frozen?,hp1]
    go_simp;try (unfold stored;go_simp)
    refine hK _ _ ⟨.turns (c:=cP) (aside_setCell w ⟨cP,i,none⟩ _) hown (fun e he=>?_) (fun h=>Go.Ren.tY h),?_⟩
    ·have hm:=mem_listed he;simp[go_sem,hcc,hff]at hm;exact⟨_,_,hm⟩
    clear hK;have hI:PI H cP (upd got i (some (.agg #[.int .i64 i,.slice da dl dc,.bool true]))) (fun b=>mine b\/b=cr) (w.setCell ⟨cP,i,none⟩ (.slice da dl dc)):=by
     refine⟨⟨parts.setIfInBounds i (.slice da dl dc),by simp[World.setCell,Array.getElem?_modify,hp1],by simp[hp2],fun i' v hv=>?_⟩,hown,let⟨st,sm,hl⟩:=hlv;⟨st,sm,((aside_setCell w ⟨cP,i,none⟩ _).block H.Wg (fun e=>?_)).trans hl⟩⟩;rotate_left
     ·rw[WgAt,e,hp1]at hl;simp[wgBlock]at hl;exact Rz hl.2.symm
     by_cases e:i'=i
     ·subst e;rw[upd_same]at hv;obtain rfl:=Option.some.inj hv;exact⟨da,dl,dc,rfl,by rw[Array.getElem?_setIfInBounds_self_of_lt (by omega)]⟩
     ·rw[upd_ne got _ e]at hv;obtain⟨a1,a2,a3,h1,h2⟩:=hp3 i' v hv;exact⟨a1,a2,a3,h1,by rw[Array.getElem?_setIfInBounds_ne (Ne.symm e)];exact h2⟩
    generalize w.setCell ⟨cP,i,none⟩ (.slice da dl dc)=w0 at hI⊢;clear hcc hff hip hp1 hp2 hp3 hown hlv;try walk_nrm
    generalize RY:upd got i (some (.agg #[.int .i64 i,.slice da dl dc,.bool true]))=got' at hI⊢;have hw1:IntKind.i64.wrap ((c:Int)+1)=(c:Int)+1:=J6 _ (by omega) (by omega);refine aS.ctl hP rfl (fun _=>stepG_region_end) ?_;refine aS.ctl hP rfl (fun _=>stepG_inBlock) ?_;refine aS.reg hP (todo:= [0,1]) rfl ?_;refine aS.op hP rfl rfl (by decide) (fun w h₁=>⟨(fun b=>mine b\/b=cr),fun K hK=>?_⟩);replace hI:PI H cP got' (fun b=>mine b\/b=cr) w:=⟨by rw[h₁.row cP (.inr hI.own)];exact hI.row,hI.own,h₁.live hI.live⟩;clear h₁;go_simp;refine hK _ _ ⟨.nothing (listed_nil (by simp[go_sem])),?_⟩;clear hK;try walk_nrm
    refine aS.op hP rfl rfl (by decide) (fun w h₁=>⟨(fun b=>mine b\/b=cr),fun K hK=>?_⟩);replace hI:PI H cP got' (fun b=>mine b\/b=cr) w:=⟨by rw[h₁.row cP (.inr hI.own)];exact hI.row,hI.own,h₁.live hI.live⟩;clear h₁;go_simp;refine hK _ _ ⟨.nothing (listed_nil (by simp[go_sem])),?_⟩;clear hK;try walk_nrm
    refine aS.ctl hP rfl (fun _=>stepG_region_end) ?_;refine aS.ctl hP rfl (fun _=>stepG_inLoop) ?_;have ZO:sumTo H.N (fun a=>if got' a=none then 1 else 0)=k:=by
     have h9:=sumTo_upd got (some (.agg #[.int .i64 i,.slice da dl dc,.bool true])) (fun y=>if y=none then 1 else 0) hi;simp only[hn,if_true]at h9;rw[RY]at h9;simp at h9;omega
    refine aS.more (ih1 cP (c+1) (j3) (j4) (j5) (j6) (j7) (.pointer (some ⟨cr,0,none⟩)) (a5) (a0) (.bool true) (.chan (some H.R)) (.agg #[.int .i64 i,.slice da dl dc,.bool true]) (.pointer (some ⟨cr,2,none⟩)) (.bool true) (.bool false) (a7) (.slice (some ⟨cP,0,none⟩) H.N H.N) (.pointer (some ⟨cr,0,none⟩)) (.int .i64 i) (.pointer (some ⟨cr,1,none⟩)) (.slice da dl dc) (.pointer (some ⟨cP,i,none⟩)) (.int .i64 ((c:Int)+1)) (a4) got' _ w (by omega) hI (fun hk i' hi' hn'=>?_) ZO) (by omega);have h8:=le_sumTo (f:=fun a=>if got' a=none then 1 else 0) hi';simp only[hn',if_true]at h8;omega
end Go.Proofs.YtmfpiodlecapiaaGreatDoor
