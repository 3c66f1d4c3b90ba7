import Derived.Test.YtmfpiodlecapiaaJ21
import Derived.Conc.CrowdStepC2
namespace Go.Grp
open Go.Conc Go.ConcN Go.Frag Go.Ren
open Go.ConcR (KK wgBlock WgAt stA smA rd wr mk Payload Aside2 DC0 Bk g_of_ofEvents again_blocked)
inductive STag where
 |sp (r s:Nat)|col (k:Nat) (b:Bool)|cl|wm|wt (c:CTag)
def STag.c:STag->CTag
 | .sp r s=>.sp r s
 | .col _ _=>.kd
 | .cl=>.kd
 | .wm=>.w3
 | .wt c=>c
def phiS(N v:Nat):STag->Nat
 | .sp r s=>14*N+60+16*r+s
 | .col k b=>10*N+20+3*k+(if b then 0 else 1)
 | .cl=>8*N+8
 | .wm=>6
 | .wt c=>phi N v c
section
variable [Payload] (H:Ph) (j:Nat) (mine:Nat->Prop) (got:Nat->Option Value) (κ:Goroutine)
def isK(gK:Goroutine)(g:Goroutine)(_:World):Prop:=g=gK
def NX(r:Nat)(mine:Nat->Prop)(g:Goroutine)(w:World):Prop:=∃n,SGo H (AtGo H (H.N-(r+1)) (Spw H r)) n mine g w
inductive SS:STag->Nat->Nat->Goroutine->World->Prop
 |spw {r m:Nat} {g:Goroutine} {w:World}:j+(r+1)=H.N->SGo H (AtCall H (NX H r)) m mine g w->SS (.sp r 6) m 0 g w
 |kd {r m:Nat} {gK g:Goroutine} {w:World}:j+(r+1)=H.N->(Goes H.P true (RS H.ty H.Wg) DC0) (AtMk H.P H.ty H.Wg .disable (AtAdd H.P H.ty H.Wg (AtMk H.P H.ty H.Wg (.read (smA H.Wg)) (AtMk H.P H.ty H.Wg .enable (isK gK))) (AtMk H.P H.ty H.Wg .enable (isK gK)))) m g w->Cont H mine (NX H r mine gK) w->SS (.sp r 5) m 0 g w
 |a1 {r m:Nat} {gK g:Goroutine} {w:World}:j+(r+1)=H.N->(Goes H.P true (RS H.ty H.Wg) DC0) (AtAdd H.P H.ty H.Wg (AtMk H.P H.ty H.Wg (.read (smA H.Wg)) (AtMk H.P H.ty H.Wg .enable (isK gK))) (AtMk H.P H.ty H.Wg .enable (isK gK))) m g w->Cont H mine (NX H r mine gK) w->SS (.sp r 4) m 1 g w
 |rd {r m:Nat} {gK g:Goroutine} {w:World}:j+(r+1)=H.N->(Goes H.P true (RS H.ty H.Wg) DC0) (AtMk H.P H.ty H.Wg (.read (smA H.Wg)) (AtMk H.P H.ty H.Wg .enable (isK gK))) m g w->Cont H mine (NX H r mine gK) w->SS (.sp r 3) m 1 g w
 |ke {r m:Nat} {gK g:Goroutine} {w:World}:j+(r+1)=H.N->(Goes H.P true (RS H.ty H.Wg) DC0) (AtMk H.P H.ty H.Wg .enable (isK gK)) m g w->Cont H mine (NX H r mine gK) w->SS (.sp r 2) m 1 g w
 |kk {r m:Nat} {gK g:Goroutine} {w:World}:j+(r+1)=H.N->gK.status= .running->(Goes H.P true (RS H.ty H.Wg) DC0) (isK gK) m g w->Cont H mine (NX H r mine gK) w->SS (.sp r 1) m 0 g w
 |sgo {r m:Nat} {g:Goroutine} {w:World}:j+(r+1)=H.N->SGo H (AtGo H (H.N-(r+1)) (Spw H r)) m mine g w->SS (.sp r 0) m 0 g w
 |col {k m:Nat} {g:Goroutine} {w:World}:j=H.N->SGo H (fun m g w=>StopC H k got m g w\/AtClose H got m g w) m mine g w->SS (.col k false) m 0 g w
 |rcv {k m:Nat} {z:Value} {g₂:Goroutine} {w:World}:j=H.N->g₂.status= .running->
  (∀i v,i<H.N->got i=none->H.Shp i v->Cont H mine (fun w₁=>∃n,SGo H (fun m g w=>StopC H k (upd got i (some v)) m g w\/AtClose H (upd got i (some v)) m g w) n mine (g₂.finishComm H.P #[rcase H.R z] (.recv false) 0 v true) w₁) w)->SS (.col (k+1) true) m 0 (parked g₂ #[rcase H.R z] (.recv false)) w
 |cl {m:Nat} {g:Goroutine} {w:World}:j=H.N->SGo H (AtWait H false got) m mine g w->SS .cl m 0 g w
 |wkd {m:Nat} {g:Goroutine} {w:World}:(j=H.N/\κ.status= .running)->(Goes H.P true (RS H.ty H.Wg) DC0) (AtMk H.P H.ty H.Wg .disable (H.Anch κ)) m g w->SS (.wt .kd) m 0 g w
 |anch {m:Nat} {g:Goroutine} {w:World}:(j=H.N/\κ.status= .running)->(Goes H.P true (RS H.ty H.Wg) DC0) (H.Anch κ) m g w->SS (.wt .anch) m 1 g w
 |w1 {m:Nat} {g:Goroutine} {w:World}:(j=H.N/\κ.status= .running)->(Goes H.P true (RS H.ty H.Wg) DC0) (Round H.P H.ty H.Wg (H.Anch κ) (isK κ)) m g w->SS (.wt .w1) m 1 g w
 |w2 {vs m:Nat} {g:Goroutine} {w:World}:(j=H.N/\κ.status= .running)->(Goes H.P true (RS H.ty H.Wg) DC0) (AtCas H.P H.ty H.Wg vs (AtMk H.P H.ty H.Wg (.write (smA H.Wg)) (AtSem H.P H.ty H.Wg (AtLoad0 H.P H.ty H.Wg (Ends H.P H.ty H.Wg (isK κ))))) (H.Anch κ)) m g w->SS (.wt (.w2 vs)) m 1 g w
 |wm {m:Nat} {g:Goroutine} {w:World}:(j=H.N/\κ.status= .running)->(Goes H.P true (RS H.ty H.Wg) DC0) (AtMk H.P H.ty H.Wg (.write (smA H.Wg)) (AtSem H.P H.ty H.Wg (AtLoad0 H.P H.ty H.Wg (Ends H.P H.ty H.Wg (isK κ))))) m g w->SS .wm m 1 g w
 |w3 {m:Nat} {g:Goroutine} {w:World}:(j=H.N/\κ.status= .running)->(Goes H.P true (RS H.ty H.Wg) DC0) (AtSem H.P H.ty H.Wg (AtLoad0 H.P H.ty H.Wg (Ends H.P H.ty H.Wg (isK κ)))) m g w->SS (.wt .w3) (m+1) 1 g w
 |blk {m:Nat} {g:Goroutine} {w:World}:(j=H.N/\κ.status= .running)->(∀w₁,RS H.ty H.Wg w w₁->(AtSem H.P H.ty H.Wg (AtLoad0 H.P H.ty H.Wg (Ends H.P H.ty H.Wg (isK κ)))) g w₁)->SS (.wt .blk) m 1 {g with status:=.blocked} w
 |w4 {m:Nat} {g:Goroutine} {w:World}:(j=H.N/\κ.status= .running)->(Goes H.P true (RS H.ty H.Wg) DC0) (AtLoad0 H.P H.ty H.Wg (Ends H.P H.ty H.Wg (isK κ))) m g w->SS (.wt .w4) m 1 g w
 |wke {m:Nat} {g:Goroutine} {w:World}:(j=H.N/\κ.status= .running)->(Goes H.P true (RS H.ty H.Wg) DC0) (Ends H.P H.ty H.Wg (isK κ)) m g w->SS (.wt .ke) m 1 g w
 |acq {m:Nat} {g:Goroutine} {w:World}:(j=H.N/\κ.status= .running)->(Goes H.P true (RS H.ty H.Wg) DC0) (AtMk H.P H.ty H.Wg (.acquire (stA H.Wg)) (isK κ)) m g w->SS (.wt .acq) m 0 g w
 |ret {m:Nat} {g:Goroutine} {w:World}:(j=H.N/\κ.status= .running)->(Goes H.P true (RS H.ty H.Wg) DC0) (isK κ) m g w->SS (.wt .ret) m 0 g w
end
section
variable [Payload] {H:Ph} {j:Nat} {mine:Nat->Prop} {got:Nat->Option Value} {κ:Goroutine} {tag:STag} {m d:Nat} {g:Goroutine} {w w':World}
omit [Payload]in
theorem rs_of{ty:TypeId}{Wg:Nat}{See:Nat->Prop}{w w':World}(hr:Rly ty Wg See w w'):RS ty Wg w w':=⟨hr.live⟩
omit [Payload]in
theorem Cont.rely{Q:World->Prop}(h:Cont H mine Q w)(hr:Rly H.ty H.Wg (See0 H mine) w w'):Cont H mine Q w':=fun w₁ h₁=>h w₁ (hr.trans h₁)
theorem SS.rely(h:SS H j mine got κ tag m d g w)(hr:Rly H.ty H.Wg (See0 H mine) w w'):SS H j mine got κ tag m d g w':=by
 have r:=rs_of hr;cases h with
 |spw e h=>exact .spw e (h.rely hr)
 |kd e h c=>exact .kd e (Goes.rely RS.trans h r) (c.rely hr)
 |a1 e h c=>exact .a1 e (Goes.rely RS.trans h r) (c.rely hr)
 |rd e h c=>exact .rd e (Goes.rely RS.trans h r) (c.rely hr)
 |ke e h c=>exact .ke e (Goes.rely RS.trans h r) (c.rely hr)
 |kk e s h c=>exact .kk e s (Goes.rely RS.trans h r) (c.rely hr)
 |sgo e h=>exact .sgo e (h.rely hr)
 |col e h=>exact .col e (h.rely hr)
 |rcv e s h=>exact .rcv e s fun i v h1 h2 h3=>(h i v h1 h2 h3).rely hr
 |cl e h=>exact .cl e (h.rely hr)
 |wkd e h=>exact .wkd e (Goes.rely RS.trans h r)
 |anch e h=>exact .anch e (Goes.rely RS.trans h r)
 |w1 e h=>exact .w1 e (Goes.rely RS.trans h r)
 |w2 e h=>exact .w2 e (Goes.rely RS.trans h r)
 |wm e h=>exact .wm e (Goes.rely RS.trans h r)
 |w3 e h=>exact .w3 e (Goes.rely RS.trans h r)
 |blk e h=>exact .blk e fun w₁ h₁=>h w₁ (RS.trans _ _ _ r h₁)
 |w4 e h=>exact .w4 e (Goes.rely RS.trans h r)
 |wke e h=>exact .wke e (Goes.rely RS.trans h r)
 |acq e h=>exact .acq e (Goes.rely RS.trans h r)
 |ret e h=>exact .ret e (Goes.rely RS.trans h r)
omit [Payload]in
theorem walks_run{P:Program}{ty:TypeId}{Wg:Nat}{Stop:Goroutine->World->Prop}{g:Goroutine}{w:World}(hs:∀g w,Stop g w->g.status= .running)(h:Walks P ty Wg Stop g w):g.status= .running:=by
 obtain⟨m,h⟩:=h;exact Goes.running hs w (RS.refl w) h
omit [Payload]in
theorem call_run{Q:(Nat->Prop)->Goroutine->World->Prop}(h:AtCall H Q mine g w):g.status= .running:=by
 obtain⟨gK,h,_⟩:=h;exact walks_run (fun _ _ x=>x.1) h
omit [Payload]in
theorem wait_run{ok:Bool}(h:AtWait H ok got mine g w):g.status= .running:=by
 obtain⟨_,_,h,_⟩:=h;exact walks_run (fun _ _ x=>x.1) h
omit [Payload]in
theorem stopC_run{k:Nat}(h:StopC H k got mine g w):g.status= .running:=by
 cases k with
 |zero=>exact wait_run h
 |succ k=>exact h.1
def STag.rests:STag->Bool
 | .col _ b=>b
 | .wt .blk=>true
 |_=>false
def STag.late:STag->Bool
 | .sp _ _=>false
 | .col _ b=>b
 |_=>true
theorem SS.status(hAr:∀κ g w,H.Anch κ g w->g.status= .running)(h:SS H j mine got κ tag m d g w):(g.status= .running/\tag.rests=false)\/(g.status= .blocked/\tag.rests=true):=by
 cases h with
 |spw e h=>exact .inl ⟨h.running fun _ _ _ x=>call_run x,rfl⟩
 |kd e h c=>exact .inl ⟨Goes.running (fun _ _ x=>x.1) w (RS.refl w) h,rfl⟩
 |a1 e h c=>exact .inl ⟨Goes.running (fun _ _ x=>x.1) w (RS.refl w) h,rfl⟩
 |rd e h c=>exact .inl ⟨Goes.running (fun _ _ x=>x.1) w (RS.refl w) h,rfl⟩
 |ke e h c=>exact .inl ⟨Goes.running (fun _ _ x=>x.1) w (RS.refl w) h,rfl⟩
 |kk e s h c=>exact .inl ⟨Goes.running (fun g _ (x:g=_)=>by rw[x];exact s) w (RS.refl w) h,rfl⟩
 |sgo e h=>exact .inl ⟨h.running fun _ _ _ x=>x.1,rfl⟩
 |col e h=>exact .inl ⟨h.running fun _ _ _ x=>x.elim stopC_run fun y=>y.1,rfl⟩
 |rcv e s h=>exact .inr ⟨rfl,rfl⟩
 |cl e h=>exact .inl ⟨h.running fun _ _ _ x=>wait_run x,rfl⟩
 |wkd e h=>exact .inl ⟨Goes.running (fun _ _ x=>x.1) w (RS.refl w) h,rfl⟩
 |anch e h=>exact .inl ⟨Goes.running (hAr κ) w (RS.refl w) h,rfl⟩
 |w1 e h=>exact .inl ⟨Goes.running (fun _ _ x=>x.1) w (RS.refl w) h,rfl⟩
 |w2 e h=>exact .inl ⟨Goes.running (fun _ _ x=>x.1) w (RS.refl w) h,rfl⟩
 |wm e h=>exact .inl ⟨Goes.running (fun _ _ x=>x.1) w (RS.refl w) h,rfl⟩
 |w3 e h=>exact .inl ⟨Goes.running (fun _ _ x=>x.1) w (RS.refl w) h,rfl⟩
 |blk e h=>exact .inr ⟨rfl,rfl⟩
 |w4 e h=>exact .inl ⟨Goes.running (fun _ _ x=>x.1) w (RS.refl w) h,rfl⟩
 |wke e h=>exact .inl ⟨Goes.running (fun _ _ x=>x.1) w (RS.refl w) h,rfl⟩
 |acq e h=>exact .inl ⟨Goes.running (fun _ _ x=>x.1) w (RS.refl w) h,rfl⟩
 |ret e h=>exact .inl ⟨Goes.running (fun g _ (x:g=_)=>by rw[x];exact e.2) w (RS.refl w) h,rfl⟩
omit [Payload]in
theorem again_rcase{g:Goroutine}{R:Nat}{z:Value}{sh:CommShape}{w:World}{s r:Nat}{tm:Bool}(hR:w.heap[R]? =some (.chan 0 #[] false s r tm)):(parked g #[rcase R z] sh).again w=parked g #[rcase R z] sh:=by
 simp[Goroutine.again,parked,rcase,hR]
theorem SS.wokenBy(hAr:∀κ g w,H.Anch κ g w->g.status= .running)(h:SS H j mine got κ tag m d g w)(hr:Rly H.ty H.Wg (See0 H mine) w w'){s r:Nat}{tm:Bool}(hR:w'.heap[H.R]? =some (.chan 0 #[] false s r tm))(x x':Goroutine):
  ∃tag' m',SS H j mine got κ tag' m' d (woken H.P x x' w' g) w'/\((tag'=tag/\m'=m)\/(tag= .wt .blk/\tag'= .wt .w3))/\(mayWake H.P x=true->x'.status= .running->tag'≠.wt .blk):=by
 have h':=h.rely hr;unfold Go.Conc.woken;split
 ·rcases h'.status hAr with⟨hs,hne⟩|⟨_,ht⟩
  ·exact⟨tag,m,by rw[again_running _ (.inl hs)];exact h',.inl ⟨rfl,rfl⟩,fun _ _ e=>by rw[e]at hne;cases hne⟩
  ·cases h' with
   |rcv e s h=>exact⟨_,m,by rw[again_rcase hR];exact .rcv e s h,.inl ⟨rfl,rfl⟩,fun _ _ e=>by cases e⟩
   |blk e hb=>
    rename_i g0;have h3:=hb w' (RS.refl w');exact⟨.wt .w3,0+1,by rw[again_blocked h3.1 h3.2.1];exact .w3 e (Goes.stop hb),.inr ⟨rfl,rfl⟩,fun _ _=>by simp⟩
   |_=>cases ht
 ·rename_i hc;exact⟨tag,m,h',.inl ⟨rfl,rfl⟩,fun h1 h2=>absurd (by simp[h1,h2]) hc⟩
end
structure Sets(H:Ph)(j:Nat)(D:Nat->WX)(mine:Nat->Prop)(sz:Nat):Prop where
 ospec:∀b,H.old b->b<sz/\b≠H.Wg/\b≠H.R/\b≠H.Dn/\∀k,¬H.Shun (.cell ⟨b,k,none⟩)
 mspec:∀b,mine b->b<sz/\b≠H.Wg/\b≠H.R/\b≠H.Dn/\∀k,¬H.Shun (.cell ⟨b,k,none⟩)
 mold:∀b,mine b->¬H.old b
 vspec:∀i b,i<j->(D i).vs b->b<sz/\b≠H.Wg/\b≠H.R/\b≠H.Dn/\∀k,¬H.Shun (.cell ⟨b,k,none⟩)
 ov:∀i b,i<j->(D i).ow b->(D i).vs b
 vm:∀i b,i<j->(D i).vs b->¬mine b
 om:∀i b,i<j->(D i).ow b->¬H.old b
 apart:∀i i' b,i<j->i'<j->i≠i'->(D i).ow b->¬(D i').vs b
 cv:∀i,i<j->(D i).vs (D i).C
 cold:∀i,i<j->¬H.old (D i).C
 co:∀i,i<j->¬(D i).ow (D i).C
 cap:∀i i',i<j->i'<j->i≠i'->¬(D i').vs (D i).C
 gsp:H.Wg<sz/\H.R<sz/\H.Dn<sz/\H.Wg≠H.R/\H.Wg≠H.Dn/\H.R≠H.Dn
 fresh:∀b k,sz<=b->¬H.Shun (.cell ⟨b,k,none⟩)
def WkT(o j:Nat)(k:Nat):Prop:=∃i,i<j/\k=o+i
def OwT(o j:Nat)(D:Nat->WX)(k c:Nat):Prop:=∃i,i<j/\k=o+i/\(D i).ow c
def VsT(o j:Nat)(D:Nat->WX)(k c:Nat):Prop:=∃i,i<j/\k=o+i/\(D i).vs c
structure TRc(H:Ph)(j:Nat)(D:Nat->WX)(d0 sz:Nat)(t:Trace):Prop where
 ti:TI H.Shun (WkT H.o j) (OwT H.o j D) (VsT H.o j D) H.Wg sz t
 nrel:NoRelease (stA H.Wg) t
 over:∀i g,t.g? i=some g->g≠0->t.counts i->WkT H.o j g\/∃k,t.g? k=some 0/\HappensBefore t i k
 deaf0:Deaf t 0=d0
 deafW:∀i,i<j->Deaf t (H.o+i)=(D i).df
 deafN:∀k,H.o+j<=k->Deaf t k=0
 rel:∀i,i<j->(D i).ws<=6->∃r,RelBy (stA H.Wg) t (H.o+i) r
structure Arr(P:Program)(o j:Nat)(gs:Array Goroutine)(a:Goroutine)(x:Nat->Goroutine)(q:Nat->Nat)(t:Trace):Prop where
 size:gs.size=o+j
 pos:0<o
 z:gs[0]? =some a
 w:∀i,i<j->gs[o+i]? =some (x i)
 old:∀i g,0<i->i<o->gs[i]? =some g->QuitsD P (q i) (Deaf t i) g
structure Fl(H:Ph)(j:Nat)(D:Nat->WX)(tag:STag)(got:Nat->Option Value)(κ:Goroutine)(closed:Bool)(mine:Nat->Prop)(w:World):Prop where
 jN:j<=H.N
 gu:∀i,i<j->(D i).gu=true->closed=true
 np:(closed=true\/tag.late=true)->∀i,i<j->(D i).ws≠17
 some:∀i v,got i=some v->i<j/\(D i).ws<=7/\Kpt (D i) (H.Res i v) w
 none:closed=false->∀i,i<j->got i=none->17<=(D i).ws
 cnt:∀k b,tag= .col k b->closed=false/\sumTo H.N (fun i=>if got i=Option.none then 1 else 0)=k
 sp:∀r s,tag= .sp r s->closed=false/\∀i,got i=Option.none
 wt:∀c,tag= .wt c\/tag= .wm->∃ok,closed= !ok/\(ok=true->∀i,i<H.N->got i≠Option.none)/\Cont H mine (H.Fin ok got mine κ) w
 cl:tag= .cl->closed=true
def AcqA(H:Ph)(j:Nat)(t:Trace):Prop:=∃q,t.act? q=some (.mark (.acquire (stA H.Wg)))/\t.g? q=some 0/\t.heard q/\∀i,i<j->∃r,RelBy (stA H.Wg) t (H.o+i) r/\r<q
def Bas(H:Ph)(w:World):Prop:=((∀b,H.old b->w.heap[b]? =H.row0 b)/\w.os=H.w0.os/\w.output=H.w0.output)/\NV w/\∀b,H.aux b->(b≠H.Wg/\b≠H.R/\b≠H.Dn/\H.Shun (.cell ⟨b,0,none⟩))/\∃o,H.row0 b=some o/\w.heap[b]? =some o
theorem Bas.rely{H:Ph}{mine:Nat->Prop}{w w':World}(h:Bas H w)(hr:Rly H.ty H.Wg (See0 H mine) w w')(ha:∀b,H.aux b->b<w.heap.size->w'.heap[b]? =w.heap[b]?):Bas H w':=
 ⟨⟨fun b hb=>(hr.row b (.inl hb)).trans (h.1.1 b hb),hr.os.trans h.1.2.1,hr.output.trans h.1.2.2⟩,hr.nv h.2.1,fun b hb=>⟨(h.2.2 b hb).1,by
  obtain⟨o,h1,h2⟩:=(h.2.2 b hb).2;exact⟨o,h1,(ha b hb (Array.getElem?_eq_some_iff.1 h2).1).trans h2⟩⟩⟩
def CH(H:Ph)(closed:Bool)(w:World):Prop:=(∃s r tm,w.heap[H.R]? =some (.chan 0 #[] false s r tm))/\(∃s r tm,w.heap[H.Dn]? =some (.chan 0 #[] closed s r tm))/\Bas H w
def wds(D:Nat->WX)(i:Nat):WD:=(D i).wd
def wsum(j:Nat)(D:Nat->WX)(i:Nat):Nat:=if i<j then(D i).ws else 30
abbrev Ms:=(Nat×(Nat->Rk))×Nat
def meas(H:Ph)(j:Nat)(D:Nat->WX)(tag:STag)(f0:Nat)(q:Nat->Nat):Ms:=((phiS H.N (Vc j (wds D)) tag+sumTo H.N (wsum j D)+sumTo H.o q,fun i=>(D i).rk),f0)
def LL(n:Nat):Ms->Ms->Prop:=Prod.Lex (LT n) Nat.lt
theorem ll_wf(n:Nat):WellFounded (LL n):=(Prod.lex ⟨LT n,lt_wf n⟩ Nat.lt_wfRel).wf
def Inv[Payload](H:Ph)(μ:Ms)(m:Machine)(t:Trace):Prop:=
 ∃(gs:Array Goroutine) (w:World) (sl:Option (Nat×Nat)) (j:Nat) (D:Nat->WX) (mine:Nat->Prop) (got:Nat->Option Value) (κ:Goroutine) (closed:Bool) (tag:STag) (f0 d0:Nat) (a:Goroutine) (x:Nat->Goroutine) (q:Nat->Nat) (st sm:Int),
  m=crowd gs w sl/\Arr H.P H.o j gs a x q t/\SS H j mine got κ tag f0 d0 a w/\(∀i,i<j->WS H i (D i) (x i) w)/\Sets H j D mine w.heap.size/\TRc H j D d0 w.heap.size t/\Fl H j D tag got κ closed mine w/\CH H closed w/\
  WgAt H.ty H.Wg w st sm/\ConcN.Mode j (wds D) tag.c st sm/\(tag= .wt .ret->AcqA H j t)/\μ=meas H j D tag f0 q
end Go.Grp
namespace Go.Grp
open Go.Conc Go.ConcN Go.Frag Go.Ren
open Go.ConcR (KK wgBlock WgAt stA smA rd wr mk Payload Aside2 DC0 Bk g_of_ofEvents again_blocked)
section
variable {H:Ph} {j:Nat} {D D':Nat->WX} {mine:Nat->Prop} {sz sz' d0:Nat} {t u:Trace}
theorem Sets.sep(h:Sets H j D mine sz)(ho:0<H.o):Sep H.Shun (WkT H.o j) (OwT H.o j D) (VsT H.o j D) H.Wg sz:=by
 have inj:∀{i i' k:Nat},k=H.o+i->k=H.o+i'->i=i':=fun a b=>by omega
 refine⟨fun k c ⟨i,hi,e,h1⟩=>⟨i,hi,e,h.ov i c hi h1⟩,fun k k' c _ _ hne ⟨i,hi,e,h1⟩ ⟨i',hi',e',h2⟩=>?_,fun k c _ ⟨i,hi,e,h1⟩=>(h.vspec i c hi h1).1,fun k c _ ⟨i,hi,e,h1⟩=>(h.vspec i c hi h1).2.1,fun k c n _ ⟨i,hi,e,h1⟩=>(h.vspec i c hi h1).2.2.2.2 n,fun k ⟨i,_,e⟩=>by omega⟩;exact h.apart i i' c hi hi' (fun e2=>hne (by omega)) h1 h2
theorem Sets.congr(h:Sets H j D mine sz)(hd:∀i,i<j->(D' i).ow=(D i).ow/\(D' i).vs=(D i).vs/\(D' i).C=(D i).C)(hz:sz<=sz'):Sets H j D' mine sz':=by
 have up:∀{b:Nat} {X:Prop},(b<sz/\X)->(b<sz'/\X):=fun x=>⟨Nat.lt_of_lt_of_le x.1 hz,x.2⟩;refine⟨fun b hb=>up (h.ospec b hb),fun b hb=>up (h.mspec b hb),h.mold,fun i b hi hb=>up (h.vspec i b hi ((hd i hi).2.1▸hb)),fun i b hi hb=>by rw[(hd i hi).2.1];exact h.ov i b hi ((hd i hi).1▸hb),
  fun i b hi hb=>h.vm i b hi ((hd i hi).2.1▸hb),fun i b hi hb=>h.om i b hi ((hd i hi).1▸hb),fun i i' b hi hi' hne hb hb'=>h.apart i i' b hi hi' hne ((hd i hi).1▸hb) ((hd i' hi').2.1▸hb'),
  fun i hi=>by rw[(hd i hi).2.1,(hd i hi).2.2];exact h.cv i hi,fun i hi=>by rw[(hd i hi).2.2];exact h.cold i hi,fun i hi hb=>h.co i hi (by rw[(hd i hi).1,(hd i hi).2.2]at hb;exact hb),fun i i' hi hi' hne hb=>h.cap i i' hi hi' hne (by rw[(hd i' hi').2.1,(hd i hi).2.2]at hb;exact hb),?_,fun b k hb=>h.fresh b k (Nat.le_trans hz hb)⟩
 obtain⟨a,b,c,d⟩:=h.gsp;exact⟨by omega,by omega,by omega,d⟩
theorem over_app{Wk:Nat->Prop}(h:∀i g,t.g? i=some g->g≠0->t.counts i->Wk g\/∃k,t.g? k=some 0/\HappensBefore t i k)(hu:∀op∈u,op.g=0\/Wk op.g\/op.act.touch? =none):
  ∀i g,(t++u).g? i=some g->g≠0->(t++u).counts i->Wk g\/∃k,(t++u).g? k=some 0/\HappensBefore (t++u) i k:=by
 intro i g hg hne hc;obtain⟨op,ho,hog⟩:=Option.map_eq_some_iff.1 hg;rcases getElem?_append_cases ho with⟨hi,ho'⟩|⟨_,hou⟩
 ·rcases h i g (by rw[<-g?_old (u:=u) hi];exact hg) hne ((counts_old hi).1 hc)with h1|⟨k,hk,hb⟩
  ·exact .inl h1
  ·have hkl:k<t.size:=by
    obtain⟨z,hz,_⟩:=Option.map_eq_some_iff.1 hk;exact lt_size_of_getElem? hz
   exact .inr ⟨k,by rw[g?_old hkl];exact hk,hb_app u hb⟩
 ·rcases hu op hou with h1|h1|h1
  ·exact absurd (hog.symm.trans h1) hne
  ·exact .inl (hog▸h1)
  ·obtain⟨x,hx,_⟩:=hc;obtain⟨y,hy,hyx⟩:=touch_of hx;rw[ho]at hy;obtain rfl:=Option.some.inj hy;rw[h1]at hyx;cases hyx
theorem TRc.appW(h:TRc H j D d0 sz t)(ho:0<H.o){i:Nat}(hi:i<j){d':WX}{fn:FuncId}{pos:String}{es:Array Event}(ti:TI H.Shun (WkT H.o j) (OwT H.o j (upd D i d')) (VsT H.o j (upd D i d')) H.Wg sz' (t++MemOp.ofEvents (H.o+i) fn pos es))
  (hnr:∀e∈es,e.loc≠.mark (.release (stA H.Wg)))(hdeaf:deafBehind (D i).df es=d'.df)(hrel:d'.ws<=6->∃r,RelBy (stA H.Wg) (t++MemOp.ofEvents (H.o+i) fn pos es) (H.o+i) r):
  TRc H j (upd D i d') d0 sz' (t++MemOp.ofEvents (H.o+i) fn pos es):=by
 refine⟨ti,h.nrel.app (norel_of hnr),over_app h.over fun op hop=>?_,by rw[Deaf_other t (by omega) _ g_of_ofEvents,h.deaf0],fun i' hi'=>?_,fun k hk=>by rw[Deaf_other t (by omega) _ g_of_ofEvents,h.deafN k hk],fun i' hi' hw=>?_⟩
 ·rw[g_of_ofEvents op hop];exact .inr (.inl ⟨i,hi,rfl⟩)
 ·by_cases e:i'=i
  ·subst e;rw[Deaf_own,h.deafW i' hi',upd_same];exact hdeaf
  ·rw[Deaf_other t (by omega) _ g_of_ofEvents,h.deafW i' hi',upd_ne D _ e]
 ·by_cases e:i'=i
  ·subst e;rw[upd_same]at hw;exact hrel hw
  ·rw[upd_ne D _ e]at hw;obtain⟨r,hr⟩:=h.rel i' hi' hw;exact⟨r,hr.appOther g_of_ofEvents (by omega)⟩
theorem TRc.app0(h:TRc H j D d0 sz t)(ho:0<H.o){fn:FuncId}{pos:String}{es:Array Event}(ti:TI H.Shun (WkT H.o j) (OwT H.o j D) (VsT H.o j D) H.Wg sz' (t++MemOp.ofEvents 0 fn pos es))
  (hnr:∀e∈es,e.loc≠.mark (.release (stA H.Wg))):TRc H j D (deafBehind d0 es) sz' (t++MemOp.ofEvents 0 fn pos es):=by
 refine⟨ti,h.nrel.app (norel_of hnr),over_app h.over fun op hop=>.inl (g_of_ofEvents op hop),by rw[Deaf_own,h.deaf0],fun i hi=>by rw[Deaf_other t (by omega) _ g_of_ofEvents,h.deafW i hi],fun k hk=>by rw[Deaf_other t (by omega) _ g_of_ofEvents,h.deafN k hk],fun i hi hw=>?_⟩;obtain⟨r,hr⟩:=h.rel i hi hw;exact⟨r,hr.appOther g_of_ofEvents (by omega)⟩
theorem TRc.appC(h:TRc H j D d0 sz t)(hu:∀op∈u,op.act.touch? =none/\op.act.low sz/\(∀m,op.act≠.mark m)):TRc H j D d0 sz (t++u):=by
 have hst:∀op∈u,op.act≠.mark .disable/\op.act≠.mark .enable:=fun op hop=>⟨(hu op hop).2.2 _,(hu op hop).2.2 _⟩;refine⟨h.ti.mute (fun op hop=>(hu op hop).1) (fun op hop=>(hu op hop).2.1),h.nrel.app fun op hop=>(hu op hop).2.2 _,over_app h.over fun op hop=>.inr (.inr (hu op hop).1),by rw[Deaf_still _ _ _ hst,h.deaf0],fun i hi=>by rw[Deaf_still _ _ _ hst,h.deafW i hi],fun k hk=>by rw[Deaf_still _ _ _ hst,h.deafN k hk],fun i hi hw=>?_⟩;obtain⟨r,hr⟩:=h.rel i hi hw;refine⟨r,hr.app fun k hk _ hc=>?_⟩;obtain⟨x,hx,_⟩:=hc;obtain⟨y,hy,hyx⟩:=touch_of hx;rcases getElem?_append_cases hy with⟨hlt,_⟩|⟨_,hyu⟩
 ·omega
 ·rw[(hu y hyu).1]at hyx;cases hyx
theorem TRc.upd(h:TRc H j D d0 sz t){i:Nat}{d':WX}(h1:d'.ow=(D i).ow)(h2:d'.vs=(D i).vs)(h3:d'.df=(D i).df)(h4:d'.ws<=6->(D i).ws<=6):TRc H j (ConcN.upd D i d') d0 sz t:=by
 have e:∀a,(ConcN.upd D i d' a).ow=(D a).ow/\(ConcN.upd D i d' a).vs=(D a).vs/\(ConcN.upd D i d' a).df=(D a).df:=by
  intro a;by_cases e:a=i
  ·subst e;rw[upd_same];exact⟨h1,h2,h3⟩
  ·rw[upd_ne D _ e];exact⟨rfl,rfl,rfl⟩
 have eo:OwT H.o j (ConcN.upd D i d')=OwT H.o j D:=by funext k c;simp only[OwT,(e _).1]
 have ev:VsT H.o j (ConcN.upd D i d')=VsT H.o j D:=by funext k c;simp only[VsT,(e _).2.1]
 refine⟨by rw[eo,ev];exact h.ti,h.nrel,h.over,h.deaf0,fun a ha=>by rw[(e a).2.2];exact h.deafW a ha,h.deafN,fun a ha hw=>?_⟩;by_cases ea:a=i
 ·subst ea;rw[upd_same]at hw;exact h.rel a ha (h4 hw)
 ·rw[upd_ne D _ ea]at hw;exact h.rel a ha hw
end
section
variable {P:Program} {o j:Nat} {gs:Array Goroutine} {a:Goroutine} {x:Nat->Goroutine} {q:Nat->Nat} {t u:Trace}
theorem Arr.go0(h:Arr P o j gs a x q t){f:Goroutine->Goroutine}{a':Goroutine}{x':Nat->Goroutine}(hx:∀i,i<j->f (x i)=x' i)(hq:∀k d g,QuitsD P k d g->f g=g)(hd:∀i,0<i->i<o->Deaf u i=Deaf t i):Arr P o j ((gs.map f).setIfInBounds 0 a') a' x' q u:=by
 have:=h.size;have:=h.pos
 refine⟨by simp[h.size],h.pos,get_map_set_same _ _ _ (by omega),fun i hi=>by rw[get_map_set _ _ _ _ (by omega),h.w i hi,Option.map_some,hx i hi],fun i g h0 hi hg=>?_⟩;rw[get_map_set _ _ _ _ (by omega)]at hg;obtain⟨y,hy,rfl⟩:=Option.map_eq_some_iff.1 hg;have hQ:=h.old i y h0 hi hy;rw[hq _ _ _ hQ,hd i h0 hi];exact hQ
theorem Arr.goW(h:Arr P o j gs a x q t){f:Goroutine->Goroutine}{i:Nat}(hi:i<j){a' g':Goroutine}(ha:f a=a')(hx:∀i',i'<j->i'≠i->f (x i')=x i')(hq:∀k d g,QuitsD P k d g->f g=g)(hd:∀i,0<i->i<o->Deaf u i=Deaf t i):
  Arr P o j ((gs.map f).setIfInBounds (o+i) g') a' (upd x i g') q u:=by
 have:=h.size;have:=h.pos
 refine⟨by simp[h.size],h.pos,by rw[get_map_set _ _ _ _ (by omega),h.z,Option.map_some,ha],fun i' hi'=>?_,fun k g h0 hk hg=>?_⟩
 ·by_cases e:i'=i
  ·subst e;rw[upd_same];exact get_map_set_same _ _ _ (by omega)
  ·rw[get_map_set _ _ _ _ (by omega),h.w i' hi',Option.map_some,hx i' hi' e,upd_ne x _ e]
 ·rw[get_map_set _ _ _ _ (by omega)]at hg;obtain⟨y,hy,rfl⟩:=Option.map_eq_some_iff.1 hg;have hQ:=h.old k y h0 hk hy;rw[hq _ _ _ hQ,hd k h0 hk];exact hQ
theorem Arr.goL(h:Arr P o j gs a x q t){f:Goroutine->Goroutine}{i k:Nat}(h0:0<i)(hi:i<o){a' g':Goroutine}(ha:f a=a')(hx:∀i',i'<j->f (x i')=x i')(hq:∀k d g,QuitsD P k d g->f g=g)(hd:∀i',0<i'->i'<o->i'≠i->Deaf u i'=Deaf t i')(hQ:QuitsD P k (Deaf u i) g'):
  Arr P o j ((gs.map f).setIfInBounds i g') a' x (upd q i k) u:=by
 have:=h.size;refine⟨by simp[h.size],h.pos,by rw[get_map_set _ _ _ _ (by omega),h.z,Option.map_some,ha],fun i' hi'=>by rw[get_map_set _ _ _ _ (by omega),h.w i' hi',Option.map_some,hx i' hi'],fun k' g h0' hk hg=>?_⟩;by_cases e:k'=i
 ·subst e;rw[get_map_set_same _ _ _ (by omega)]at hg;obtain rfl:=Option.some.inj hg;rw[upd_same];exact hQ
 ·rw[get_map_set _ _ _ _ (fun x=>e x.symm)]at hg;obtain⟨y,hy,rfl⟩:=Option.map_eq_some_iff.1 hg;have hQ:=h.old k' y h0' hk hy;rw[hq _ _ _ hQ,hd k' h0' hk e,upd_ne q _ e];exact hQ
theorem Arr.setW(h:Arr P o j gs a x q t){i:Nat}(hi:i<j){g':Goroutine}(hd:∀i,0<i->i<o->Deaf u i=Deaf t i):Arr P o j (gs.setIfInBounds (o+i) g') a (upd x i g') q u:=by
 have:=h.size;have:=h.pos
 refine⟨by simp[h.size],h.pos,by rw[Array.getElem?_setIfInBounds_ne (by omega)];exact h.z,fun i' hi'=>?_,fun k g h0 hk hg=>?_⟩
 ·by_cases e:i'=i
  ·subst e;rw[upd_same,Array.getElem?_setIfInBounds_self_of_lt (by omega)]
  ·rw[Array.getElem?_setIfInBounds_ne (by omega),h.w i' hi',upd_ne x _ e]
 ·rw[Array.getElem?_setIfInBounds_ne (by omega)]at hg;rw[hd k h0 hk];exact h.old k g h0 hk hg
theorem Arr.set0(h:Arr P o j gs a x q t){a':Goroutine}(hd:∀i,0<i->i<o->Deaf u i=Deaf t i):Arr P o j (gs.setIfInBounds 0 a') a' x q u:=by
 have:=h.size;have:=h.pos
 refine⟨by simp[h.size],h.pos,by rw[Array.getElem?_setIfInBounds_self_of_lt (by omega)],fun i hi=>by rw[Array.getElem?_setIfInBounds_ne (by omega)];exact h.w i hi,fun k g h0 hk hg=>?_⟩;rw[Array.getElem?_setIfInBounds_ne (by omega)]at hg;rw[hd k h0 hk];exact h.old k g h0 hk hg
theorem Arr.push(h:Arr P o j gs a x q t){g:Goroutine}(hd:∀i,0<i->i<o->Deaf u i=Deaf t i):Arr P o (j+1) (gs.push g) a (upd x j g) q u:=by
 have hs:=h.size;have:=h.pos
 refine⟨by simp[h.size];omega,h.pos,by rw[Array.getElem?_push,if_neg (by omega)];exact h.z,fun i hi=>?_,fun k g' h0 hk hg=>?_⟩
 ·rw[Array.getElem?_push];by_cases e:i=j
  ·subst e;rw[upd_same,if_pos (by omega)]
  ·rw[upd_ne x _ e,if_neg (by omega)];exact h.w i (by omega)
 ·rw[Array.getElem?_push,if_neg (by omega)]at hg;rw[hd k h0 hk];exact h.old k g' h0 hk hg
theorem Arr.cases(h:Arr P o j gs a x q t){i:Nat}{g:Goroutine}(hg:gs[i]? =some g):(i=0/\g=a)\/(0<i/\i<o)\/∃i',i'<j/\i=o+i'/\g=x i':=by
 have hlt:i<gs.size:=(Array.getElem?_eq_some_iff.1 hg).1;rw[h.size]at hlt;rcases Nat.eq_zero_or_pos i with rfl|h0
 ·rw[h.z]at hg;exact .inl ⟨rfl,(Option.some.inj hg).symm⟩
 ·rcases Nat.lt_or_ge i o with hi|hi
  ·exact .inr (.inl ⟨h0,hi⟩)
  ·have:=h.w (i-o) (by omega);rw[show o+(i-o)=i by omega,hg]at this;exact .inr (.inr ⟨i-o,by omega,by omega,Option.some.inj this⟩)
end
section
variable {H:Ph} {j:Nat} {D:Nat->WX} {tag tag':STag} {f0 f0':Nat} {q:Nat->Nat}
theorem phiS_mono(N:Nat){v v':Nat}(h:v'<=v)(tag:STag):phiS N v' tag<=phiS N v tag:=by
 cases tag<;>simp only[phiS]<;>first|omega|exact phi_mono N h _
theorem wsum_upd{i:Nat}(hi:i<j)(d':WX)(hj:j<=H.N):sumTo H.N (wsum j (upd D i d'))+(D i).ws=sumTo H.N (wsum j D)+d'.ws:=by
 have e:∀a,wsum j (upd D i d') a=upd (wsum j D) i d'.ws a:=by
  intro a;by_cases e:a=i
  ·subst e;simp[wsum,upd_same,hi]
  ·simp only[wsum,upd_ne D _ e,upd_ne (wsum j D) _ e]
 have h1:=sumTo_upd (wsum j D) d'.ws id (Nat.lt_of_lt_of_le hi hj);simp only[id_eq]at h1;have h2:sumTo H.N (wsum j (upd D i d'))=sumTo H.N (fun a=>upd (wsum j D) i d'.ws a):=sumTo_congr fun a _=>e a;have h3:wsum j D i=(D i).ws:=by simp[wsum,hi]
 rw[h2,<-h3];exact h1
theorem Vc_wds{i:Nat}(hi:i<j)(d':WX):Vc j (wds (upd D i d'))+ConcN.cnt (D i).wd=Vc j (wds D)+ConcN.cnt d'.wd:=by
 have e:wds (upd D i d')=upd (wds D) i d'.wd:=by
  funext a;by_cases e:a=i
  ·subst e;simp[wds,upd_same]
  ·simp only[wds,upd_ne D _ e,upd_ne (wds D) _ e]
 rw[e];exact Vc_upd (wds D) d'.wd hi
theorem wds_upd{i:Nat}(d':WX):wds (upd D i d')=upd (wds D) i d'.wd:=by
 funext a;by_cases e:a=i
 ·subst e;simp[wds,upd_same]
 ·simp only[wds,upd_ne D _ e,upd_ne (wds D) _ e]
theorem ll_first{n:Nat}{a b:Ms}(h:a.1.1<b.1.1):LL n a b:=by
 obtain⟨a,a'⟩:=a;obtain⟨b,b'⟩:=b;exact Prod.Lex.left _ _ (.inl h)
theorem meas_w{i:Nat}(hi:i<j)(hj:j<=H.N){d':WX}(ht:tag'=tag\/(tag= .wt .blk/\tag'= .wt .w3))
  (h:(d'.ws<(D i).ws/\ConcN.cnt d'.wd<=ConcN.cnt (D i).wd)\/(d'.ws=(D i).ws/\ConcN.cnt d'.wd=ConcN.cnt (D i).wd/\Rk.Lt d'.rk (D i).rk)):LL H.N (meas H j (upd D i d') tag' f0' q) (meas H j D tag f0 q):=by
 have e1:=wsum_upd (D:=D) hi d' hj;have e2:=Vc_wds (D:=D) hi d';have hp:∀v,phiS H.N v tag'=phiS H.N v tag:=by
  intro v;rcases ht with rfl|⟨rfl,rfl⟩<;>rfl
 rcases h with⟨h1,h2⟩|⟨h1,h2,h3⟩
 ·refine ll_first ?_;simp only[meas,hp];have:=phiS_mono H.N (v':=Vc j (wds (upd D i d'))) (v:=Vc j (wds D)) (by omega) tag;omega
 ·refine Prod.Lex.left _ _ (.inr ⟨?_,i,by omega,?_,?_⟩)
  ·simp only[hp];have:Vc j (wds (upd D i d'))=Vc j (wds D):=by omega
   rw[this];omega
  ·simp only[upd_same];exact h3
  ·intro a ha;simp only[upd_ne D _ ha]
theorem meas_0(h:phiS H.N (Vc j (wds D)) tag'<phiS H.N (Vc j (wds D)) tag\/(phiS H.N (Vc j (wds D)) tag'=phiS H.N (Vc j (wds D)) tag/\f0'<f0)):LL H.N (meas H j D tag' f0' q) (meas H j D tag f0 q):=by
 rcases h with h|⟨h,h'⟩
 ·exact ll_first (by simp only[meas];omega)
 ·simp only[meas,h];exact Prod.Lex.right _ h'
end
section
variable [Payload] {H:Ph} {j:Nat} {D:Nat->WX} {mine mine':Nat->Prop} {got:Nat->Option Value} {κ:Goroutine} {closed:Bool} {tag tag':STag} {f0 f0' d0:Nat} {gs:Array Goroutine} {w w':World} {sl:Option (Nat×Nat)} {t:Trace} {a a':Goroutine} {x:Nat->Goroutine} {q:Nat->Nat} {st sm st' sm':Int} {es:Array Event}
theorem goW(hAr:∀κ g w,H.Anch κ g w->g.status= .running)
  (hA:Arr H.P H.o j gs a x q t)(hS:SS H j mine got κ tag f0 d0 a w)(hW:∀i,i<j->WS H i (D i) (x i) w)(hSet:Sets H j D mine w.heap.size)(hF:Fl H j D tag got κ closed mine w)
  {i:Nat}(hi:i<j){g':Goroutine}{d':WX}(hgo:stepG H.P false (x i) w= .go g' w' es)
  (hr0:Rly H.ty H.Wg (See0 H mine) w w')(hrw:∀i',i'<j->i'≠i->Rly H.ty H.Wg (D i').vs w w')(hs':WS H i d' g' w')(hset':Sets H j (upd D i d') mine w'.heap.size)
  (hT':TRc H j (upd D i d') d0 w'.heap.size (t++MemOp.ofEvents (H.o+i) (x i).frame.fn (x i).frame.place es))
  (hgu:d'.gu=true->closed=true)(hkp:∀v,got i=some v->d'.ws<=7/\Kpt d' (H.Res i v) w')(hnone:closed=false->got i=none->17<=d'.ws)(h17:d'.ws≠17)
  (hCH:CH H closed w')(hwg:WgAt H.ty H.Wg w' st' sm')
  (hmode:∀tag',(tag'=tag\/(tag= .wt .blk/\tag'= .wt .w3))->(mayWake H.P (x i)=true->g'.status= .running->tag'≠.wt .blk)->ConcN.Mode j (upd (wds D) i d'.wd) tag'.c st' sm')
  (hacq:tag= .wt .ret->AcqA H j (t++MemOp.ofEvents (H.o+i) (x i).frame.fn (x i).frame.place es))
  (hlt:(d'.ws<(D i).ws/\ConcN.cnt d'.wd<=ConcN.cnt (D i).wd)\/(d'.ws=(D i).ws/\ConcN.cnt d'.wd=ConcN.cnt (D i).wd/\Rk.Lt d'.rk (D i).rk)):
  ∃m₁ ops μ',runT H.P (crowd gs w sl) (H.o+i)=(.next m₁,ops)/\LL H.N μ' (meas H j D tag f0 q)/\Inv H μ' m₁ (t++ops):=by
 obtain⟨⟨sR,rR,tmR,hR⟩,⟨sD,rD,tmD,hD⟩,hBs⟩:=hCH;obtain⟨tag',f',hss',htag,hwk⟩:=hS.wokenBy hAr hr0 hR (x i) g';have ht:tag'=tag\/(tag= .wt .blk/\tag'= .wt .w3):=htag.imp (fun x=>x.1) id;have hi0:(H.o+i==0)=false:=by have:=hA.pos;simp;omega
 have hrun:=runT_crowd_go (P:=H.P) (sl:=sl) (i:=H.o+i) (hA.w i hi) (by rw[hi0];exact hgo);have hd:∀k,0<k->k<H.o->Deaf (t++MemOp.ofEvents (H.o+i) (x i).frame.fn (x i).frame.place es) k=Deaf t k:=fun k _ hk=>Deaf_other t (by omega) _ g_of_ofEvents;have hW':∀i',i'<j->i'≠i->WS H i' (D i') (x i') w':=fun i' hi' e=>(hW i' hi').rely (hrw i' hi' e) (fun c hc=>hSet.ov i' c hi' hc) (hSet.cv i' hi');have hArr:=hA.goW (f:=woken H.P (x i) g' w') (u:=t++MemOp.ofEvents (H.o+i) (x i).frame.fn (x i).frame.place es) (g':=g') hi rfl (fun i' hi' e=>woken_same ((hW' i' hi' e).again hR hD fun hc=>hF.np (.inl hc) i' hi')) (fun k d g hQ=>woken_quitsD hQ) hd;have cas:∀(i':Nat),upd D i d' i'=if i'=i then d' else D i':=fun i'=>rfl
 refine⟨_,_,_,hrun,meas_w (D:=D) (d':=d') hi hF.jN ht hlt,_,w',sl,j,upd D i d',mine,got,κ,closed,tag',f',d0,_,upd x i g',q,st',sm',rfl,hArr,hss',fun i' hi'=>?_,hset',hT',?_,⟨⟨sR,rR,tmR,hR⟩,⟨sD,rD,tmD,hD⟩,hBs⟩,hwg,by rw[wds_upd];exact hmode tag' ht hwk,?_,rfl⟩
 ·by_cases e:i'=i
  ·subst e;rw[upd_same,upd_same];exact hs'
  ·rw[upd_ne D _ e,upd_ne x _ e];exact hW' i' hi' e
 ·have late:tag'.late=tag.late:=by rcases ht with rfl|⟨rfl,rfl⟩<;>rfl
  refine⟨hF.jN,fun i' hi'=>?_,fun hc i' hi'=>?_,fun i' v hv=>?_,fun hc i' hi' hn=>?_,fun k b e=>?_,fun r s e=>?_,fun c e=>?_,fun e=>?_⟩
  ·by_cases e:i'=i
   ·subst e;rw[upd_same];exact hgu
   ·rw[upd_ne D _ e];exact hF.gu i' hi'
  ·by_cases e:i'=i
   ·subst e;rw[upd_same];exact h17
   ·rw[upd_ne D _ e];exact hF.np (late▸hc) i' hi'
  ·obtain⟨h1,h2,h3⟩:=hF.some i' v hv;by_cases e:i'=i
   ·subst e;rw[upd_same];exact⟨h1,hkp v hv⟩
   ·rw[upd_ne D _ e];exact⟨h1,h2,h3.rely fun c hc _=>(hrw i' h1 e).row c (hSet.ov i' c h1 hc)⟩
  ·by_cases e:i'=i
   ·subst e;rw[upd_same];exact hnone hc hn
   ·rw[upd_ne D _ e];exact hF.none hc i' hi' hn
  ·rcases ht with rfl|⟨rfl,rfl⟩
   ·exact hF.cnt k b e
   ·cases e
  ·rcases ht with rfl|⟨rfl,rfl⟩
   ·exact hF.sp r s e
   ·cases e
  ·have:∃c,tag= .wt c\/tag= .wm:=by
    rcases ht with rfl|⟨rfl,rfl⟩
    ·exact⟨c,e⟩
    ·exact⟨_,.inl rfl⟩
   obtain⟨c',e'⟩:=this;obtain⟨ok,h1,h2,h3⟩:=hF.wt c' e';exact⟨ok,h1,h2,h3.rely hr0⟩
  ·rcases ht with rfl|⟨rfl,rfl⟩
   ·exact hF.cl e
   ·cases e
 ·intro e;rcases ht with rfl|⟨_,rfl⟩
  ·exact hacq e
  ·cases e
theorem go0(hA:Arr H.P H.o j gs a x q t)(hW:∀i,i<j->WS H i (D i) (x i) w)(hSet:Sets H j D mine w.heap.size)
  (hgo:stepG H.P true a w= .go a' w' es)(hrw:∀i,i<j->Rly H.ty H.Wg (D i).vs w w')(hset':Sets H j D mine' w'.heap.size)
  (hT':TRc H j D (deafBehind d0 es) w'.heap.size (t++MemOp.ofEvents 0 a.frame.fn a.frame.place es))(hss':SS H j mine' got κ tag' f0' (deafBehind d0 es) a' w')(hF':Fl H j D tag' got κ closed mine' w')(hnp:closed=true->∀i,i<j->(D i).ws≠17)
  (hCH:CH H closed w')(hwg:WgAt H.ty H.Wg w' st' sm')(hmode:ConcN.Mode j (wds D) tag'.c st' sm')(hacq:tag'= .wt .ret->AcqA H j (t++MemOp.ofEvents 0 a.frame.fn a.frame.place es))
  (hlt:phiS H.N (Vc j (wds D)) tag'<phiS H.N (Vc j (wds D)) tag\/(phiS H.N (Vc j (wds D)) tag'=phiS H.N (Vc j (wds D)) tag/\f0'<f0)):
  ∃m₁ ops μ',runT H.P (crowd gs w sl) 0=(.next m₁,ops)/\LL H.N μ' (meas H j D tag f0 q)/\Inv H μ' m₁ (t++ops):=by
 obtain⟨⟨sR,rR,tmR,hR⟩,⟨sD,rD,tmD,hD⟩,hBs⟩:=hCH;have hrun:=runT_crowd_go (P:=H.P) (sl:=sl) (i:=0) hA.z (show stepG H.P (0==0) a w=_ from hgo);have hd:∀k,0<k->k<H.o->Deaf (t++MemOp.ofEvents 0 a.frame.fn a.frame.place es) k=Deaf t k:=fun k hk _=>Deaf_other t (by omega) _ g_of_ofEvents;have hW':∀i',i'<j->WS H i' (D i') (x i') w':=fun i' hi'=>(hW i' hi').rely (hrw i' hi') (fun c hc=>hSet.ov i' c hi' hc) (hSet.cv i' hi');have hArr:=hA.go0 (f:=woken H.P a a' w') (u:=t++MemOp.ofEvents 0 a.frame.fn a.frame.place es) (a':=a') (x':=x) (fun i' hi'=>woken_same ((hW' i' hi').again hR hD fun hc=>hnp hc i' hi')) (fun k d g hQ=>woken_quitsD hQ) hd;exact⟨_,_,_,hrun,meas_0 hlt,_,w',sl,j,D,mine',got,κ,closed,tag',f0',_,a',x,q,st',sm',rfl,hArr,hss',hW',hset',hT',hF',⟨⟨sR,rR,tmR,hR⟩,⟨sD,rD,tmD,hD⟩,hBs⟩,hwg,hmode,hacq,rfl⟩
theorem goL(hAr:∀κ g w,H.Anch κ g w->g.status= .running)
  (hA:Arr H.P H.o j gs a x q t)(hS:SS H j mine got κ tag f0 d0 a w)(hW:∀i,i<j->WS H i (D i) (x i) w)(hSet:Sets H j D mine w.heap.size)(hT:TRc H j D d0 w.heap.size t)(hF:Fl H j D tag got κ closed mine w)
  (hCH:CH H closed w)(hwg:WgAt H.ty H.Wg w st sm)(hmode:ConcN.Mode j (wds D) tag.c st sm)(hacq:tag= .wt .ret->AcqA H j t){i:Nat}(h0:0<i)(hi:i<H.o){g:Goroutine}(hg:gs[i]? =some g)(hrun:g.status= .running):
  ∃m₁ ops μ',runT H.P (crowd gs w sl) i=(.next m₁,ops)/\LL H.N μ' (meas H j D tag f0 q)/\Inv H μ' m₁ (t++ops):=by
 obtain⟨⟨sR,rR,tmR,hR⟩,⟨sD,rD,tmD,hD⟩,hBs⟩:=hCH;have hQ:=hA.old i g h0 hi hg;cases hqi:q i with
 |zero=>rw[hqi]at hQ;rw[hQ.1]at hrun;cases hrun
 |succ k=>
  rw[hqi]at hQ;rcases hQ with⟨hf,_⟩|⟨_,g',es,hm,hstp,hq'⟩
  ·rw[hf]at hrun;cases hrun
  have hi0:(i==0)=false:=by simp;omega
  have hr:=runT_crowd_go (P:=H.P) (sl:=sl) (i:=i) hg (by rw[hi0];exact hstp w);obtain⟨tag',f',hss',htag,hwk⟩:=hS.wokenBy hAr (.refl w) hR g g';have ht:tag'=tag\/(tag= .wt .blk/\tag'= .wt .w3):=htag.imp (fun x=>x.1) id;have hops:∀op∈MemOp.ofEvents i g.frame.fn g.frame.place es,op.g=i:=g_of_ofEvents;have hnt:∀op∈MemOp.ofEvents i g.frame.fn g.frame.place es,op.act.touch? =none/\op.act.low w.heap.size/\op.act≠.mark (.release (stA H.Wg)):=by
   intro op hop;obtain⟨e,he,rfl⟩:=Go.Conc.mem_ofEvents hop;refine⟨touch_mute (hm e he),low_mute (hm e he) _,fun hh=>?_⟩;have hl:=Go.ConcR.loc_of_ofEvent hh;have:=hm e he;obtain⟨loc,wr,sy⟩:=e;simp only at hl;subst hl;simp[Event.mute]at this
  have hArr:=hA.goL (f:=woken H.P g g' w) (u:=t++MemOp.ofEvents i g.frame.fn g.frame.place es) (g':=g') (k:=k) h0 hi rfl (fun i' hi'=>woken_same ((hW i' hi').again hR hD fun hc=>hF.np (.inl hc) i' hi')) (fun k d g hQ=>woken_quitsD hQ)
   (fun i' _ _ e=>Deaf_other t e.symm _ g_of_ofEvents) (by rw[Deaf_own];exact hq')
  have late:tag'.late=tag.late:=by rcases ht with rfl|⟨rfl,rfl⟩<;>rfl
  have hsum:sumTo H.o (upd q i k)+(k+1)=sumTo H.o q+k:=by
   have:=sumTo_upd q k id hi;simpa[hqi]using this
  refine⟨_,_,_,hr,ll_first ?_,_,w,sl,j,D,mine,got,κ,closed,tag',f',d0,_,x,upd q i k,st,sm,rfl,hArr,hss',hW,hSet,?_,?_,⟨⟨sR,rR,tmR,hR⟩,⟨sD,rD,tmD,hD⟩,hBs⟩,hwg,?_,?_,rfl⟩
  ·have hp:∀v,phiS H.N v tag'=phiS H.N v tag:=by
    intro v;rcases ht with rfl|⟨rfl,rfl⟩<;>rfl
   simp only[meas,hp];omega
  ·refine⟨hT.ti.mute (fun op hop=>(hnt op hop).1) (fun op hop=>(hnt op hop).2.1),hT.nrel.app fun op hop=>(hnt op hop).2.2,over_app hT.over fun op hop=>.inr (.inr (hnt op hop).1),by rw[Deaf_other t (by omega) _ g_of_ofEvents,hT.deaf0],fun i' hi'=>by rw[Deaf_other t (by omega) _ g_of_ofEvents,hT.deafW i' hi'],fun k' hk'=>by rw[Deaf_other t (by omega) _ g_of_ofEvents,hT.deafN k' hk'],fun i' hi' hw=>?_⟩;obtain⟨r,hr⟩:=hT.rel i' hi' hw;exact⟨r,hr.appOther g_of_ofEvents (by omega)⟩
  ·refine⟨hF.jN,hF.gu,fun hc=>hF.np (late▸hc),hF.some,hF.none,fun k b e=>?_,fun r s e=>?_,fun c e=>?_,fun e=>?_⟩
   ·rcases ht with rfl|⟨rfl,rfl⟩
    ·exact hF.cnt k b e
    ·cases e
   ·rcases ht with rfl|⟨rfl,rfl⟩
    ·exact hF.sp r s e
    ·cases e
   ·rcases ht with rfl|⟨rfl,rfl⟩
    ·exact hF.wt c e
    ·exact hF.wt _ (.inl rfl)
   ·rcases ht with rfl|⟨rfl,rfl⟩
    ·exact hF.cl e
    ·cases e
  ·rcases ht with rfl|⟨rfl,rfl⟩
   ·exact hmode
   ·exact hmode.retag (.inr ⟨rfl,rfl⟩)
  ·intro e;rcases ht with rfl|⟨_,rfl⟩
   ·obtain⟨p,h1,h2,h3,h4⟩:=hacq e;have hp:=lt_of_act? h1;refine⟨p,by rw[act?_old hp];exact h1,by rw[g?_old hp];exact h2,(heard_old hp).2 h3,fun i' hi'=>?_⟩;obtain⟨r,hr,hrp⟩:=h4 i' hi';exact⟨r,hr.appOther g_of_ofEvents (by omega),hrp⟩
   ·cases e
end
end Go.Grp
