import Derived.Conc.CrowdSel
namespace Go.kg
open Go.Conc
variable {P:Program} {gs:Array Goroutine} {w af:World} {sl:Option (Nat×Nat)} {i j:Nat} {g bj gj:Goroutine} {es:Array Event} {R D s r s' r':Nat} {tm tm':Bool} {v z0 z1 z zj:Value} {shape shj:CommShape}
def two(R D:Nat)(v z0 z1:Value):Array CommCase:=#[scase R v z0,rcase D z1]
theorem CV{gs:Array Goroutine}{k m:Nat}{c':CommCase}(h:k<2)(hm:m≠k)(hc:(two R D v z0 z1)[m]? =some c')(h1:k=1->NoWays w gs (scase R v z0))(h0:k=0->NoWays w gs (rcase D z1)):NoWays w gs c':=by
 match m,hc with
 |0,hc=>
  simp only[two,List.getElem?_toArray,List.getElem?_cons_zero,Option.some.injEq]at hc;subst hc;exact h1 (by omega)
 |1,hc=>
  simp only[two,List.getElem?_toArray,List.getElem?_cons_succ,List.getElem?_cons_zero,Option.some.injEq]at hc;subst hc;exact h0 (by omega)
 |m+2,hc=>simp[two]at hc
theorem Di(hc:w.heap[R]? =some (.chan 0 #[] false s r tm))(hp:partners gs R false= []):NoWays w gs (scase R v z0):=⟨made_send v z0 hc,by simp[ways,scase,hc,hp]⟩
theorem qJ(hc:w.heap[D]? =some (.chan 0 #[] false s r tm))(hp:partners gs D true= []):NoWays w gs (rcase D z1):=⟨made_recv z1 hc,by simp[ways,rcase,hc,hp]⟩
theorem PN(hi:gs[i]? =some g)(h:stepG P (i==0) g w= .comm bj (two R D v z0 z1) true shape af es)(hR:af.heap[R]? =some (.chan 0 #[] false s r tm))(hD:af.heap[D]? =some (.chan 0 #[] false s' r' tm'))
  (hp:partners (gs.setIfInBounds i ph) R false= [])(hq:partners (gs.setIfInBounds i ph) D true= []):
  runT P (crowd gs w sl) i=(.next (crowd (gs.setIfInBounds i (parked bj (two R D v z0 z1) shape)) af sl),MemOp.ofEvents i g.frame.fn g.frame.place es):=by
 refine crowd_waits hi h fun cc di=>?_;simp only[two,List.mem_toArray,List.mem_cons,List.not_mem_nil,or_false]at di;rcases di with rfl|rfl
 .exact Di hR hp
 .exact qJ hD hq
theorem PO(hi:gs[i]? =some g)(h:stepG P (i==0) g w= .comm bj (two R D v z0 z1) true shape af es)(hR:af.heap[R]? =some (.chan 0 #[] false s r tm))(hD:af.heap[D]? =some (.chan 0 #[] false s' r' tm'))
  (pB:j≠i)(hj:gs[j]? =some (parked gj #[rcase R zj] shj))(hp:partners (gs.setIfInBounds i ph) R false= [(j,0)])(hq:partners (gs.setIfInBounds i ph) D true= []):
  runT P (crowd gs w sl) i=(.next (crowd ((gs.setIfInBounds j (gj.finishComm P #[rcase R zj] shj 0 v true)).setIfInBounds i (bj.finishComm P (two R D v z0 z1) shape 0 undef false)) (af.setChan R 0 #[] false (s+1) (r+1) tm) sl),
   MemOp.ofEvents i g.frame.fn g.frame.place es++ #[{g:=i,fn:=bj.frame.fn,pos:=bj.frame.place,act:=.send R s},{g:=j,fn:=gj.frame.fn,pos:=gj.frame.place,act:=.recv R r 0},
    {g:=i,fn:=bj.frame.fn,pos:=bj.frame.place,act:=.sendDone R s},{g:=j,fn:=gj.frame.fn,pos:=gj.frame.place,act:=.recvDone R r}]):=by
 have hk:(two R D v z0 z1)[0]? =some (scase R v z0):=rfl;have ho:∀(m:Nat) (c':CommCase),m≠0->(two R D v z0 z1)[m]? =some c'->NoWays af (gs.setIfInBounds i ph) c':=fun m c' hm hc=>CV (k:=0) (by omega) hm hc (fun e=>by cases e) (fun _=>qJ hD hq);have hw:ways af (gs.setIfInBounds i ph) (scase R v z0)= [.partner j 0]:=by simp[ways,scase,hR,hp]
 have qk:=stand_get (i:=i) pB hj;have Nf:=finishPartner_at P (gs.setIfInBounds i ph) qk (cs:=#[rcase R zj]) (sh:=shj) rfl 0 v;have k_:(gs.setIfInBounds i ph).getD j default=parked gj #[rcase R zj] shj:=by rw[Array.getD_eq_getD_getElem?,qk];rfl
 rw[runT_crowd_comm hi h];unfold communicate;simp only[ready_one hk (by rw[hw];simp) ho,hw];rw[if_neg]
 .simp[choose,Sem.run,Question.forced,bind,Sem.bind,pure,scase,crowd,hR,Nf,k_,set_stand2,rcase,parked,World.setChan];rfl
 .rw[Bool.not_eq_true];exact any_ill (made_of_one hk (made_send v z0 hR) ho)
theorem Ls(hi:gs[i]? =some g)(h:stepG P (i==0) g w= .comm bj (two R D v z0 z1) true shape af es)(hR:af.heap[R]? =some (.chan 0 #[] false s r tm))(hD:af.heap[D]? =some (.chan 0 #[] true s' r' tm'))
  (hp:partners (gs.setIfInBounds i ph) R false= [])(hq:partners (gs.setIfInBounds i ph) D true= []):
  runT P (crowd gs w sl) i=(.next (crowd (gs.setIfInBounds i (bj.finishComm P (two R D v z0 z1) shape 1 z1 false)) af sl),
   MemOp.ofEvents i g.frame.fn g.frame.place es++ #[{g:=i,fn:=bj.frame.fn,pos:=bj.frame.place,act:=.recvClosed D}]):=by
 have hk:(two R D v z0 z1)[1]? =some (rcase D z1):=rfl;have ho:∀(m:Nat) (c':CommCase),m≠1->(two R D v z0 z1)[m]? =some c'->NoWays af (gs.setIfInBounds i ph) c':=fun m c' hm hc=>CV (k:=1) (by omega) hm hc (fun _=>Di hR hp) (fun e=>by cases e);have hw:ways af (gs.setIfInBounds i ph) (rcase D z1)= [.closed]:=by simp[ways,rcase,hD,hq]
 rw[runT_crowd_comm hi h];unfold communicate;simp only[ready_one hk (by rw[hw];simp) ho,hw];rw[if_neg]
 .simp[choose,Sem.run,Question.forced,bind,Sem.bind,pure,rcase,crowd]
 .rw[Bool.not_eq_true];exact any_ill (made_of_one hk (made_recv z1 hD) ho)
theorem LA(hi:gs[i]? =some g)(h:stepG P (i==0) g w= .comm bj #[rcase R z] true shape af es)(hR:af.heap[R]? =some (.chan 0 #[] false s r tm))
  (bd:partners (gs.setIfInBounds i ph) R true≠ [])
  (cG:∀j k,(j,k)∈partners (gs.setIfInBounds i ph) R true->k=0/\j≠i/\∃gj vj z0 z1,gs[j]? =some (parked gj (two R D vj z0 z1) .select)):
  ∃(j:Nat) (gj:Goroutine) (vj z0 z1:Value) (d:Nat),j≠i/\gs[j]? =some (parked gj (two R D vj z0 z1) .select)/\
   runT P (crowd gs w sl) i=(.next (crowd ((gs.setIfInBounds j (gj.finishComm P (two R D vj z0 z1) .select 0 undef false)).setIfInBounds i (bj.finishComm P #[rcase R z] shape 0 vj true)) ((af.at d).setChan R 0 #[] false (s+1) (r+1) tm) sl),
    MemOp.ofEvents i g.frame.fn g.frame.place es++ #[{g:=j,fn:=gj.frame.fn,pos:=gj.frame.place,act:=.send R s},{g:=i,fn:=bj.frame.fn,pos:=bj.frame.place,act:=.recv R r 0},
     {g:=j,fn:=gj.frame.fn,pos:=gj.frame.place,act:=.sendDone R s},{g:=i,fn:=bj.frame.fn,pos:=bj.frame.place,act:=.recvDone R r}]):=by
 generalize cL:partners (gs.setIfInBounds i ph) R true=ps at bd cG;have hlen:0<ps.length:=List.length_pos_iff.2 bd;let q:Question:=.extern "which waiting goroutine is the partner" ps.length
 obtain⟨b,d,hb,mS⟩:∃b d,b<ps.length/\(if q.forced=true then(b=0/\d=af.drawn)else(b=q.cut (af.tape af.drawn q)/\d=af.drawn+1)):=by
  by_cases hf:q.forced=true
  .exact⟨0,af.drawn,hlen,by rw[if_pos hf];exact⟨rfl,rfl⟩⟩
  .refine⟨_,af.drawn+1,?_,by rw[if_neg hf];exact⟨rfl,rfl⟩⟩;simp only[q,Question.cut];rw[if_neg (by omega)];exact Nat.mod_lt _ hlen
 obtain⟨⟨j,k⟩,Ev⟩:∃p,ps[b]? =some p:=⟨ps[b],List.getElem?_eq_getElem hb⟩;obtain⟨rfl,pB,gj,vj,z0,z1,hj⟩:=cG j k (List.mem_of_getElem? Ev);refine⟨j,gj,vj,z0,z1,d,pB,hj,?_⟩;rw[runT_crowd_comm hi h];have qk:=stand_get (i:=i) pB hj;have Nf:=finishPartner_at P (gs.setIfInBounds i ph) qk (cs:=two R D vj z0 z1) (sh:=.select) rfl 0 undef;have k_:(gs.setIfInBounds i ph).getD j default=parked gj (two R D vj z0 z1) .select:=by rw[Array.getD_eq_getD_getElem?,qk];rfl
 have AI:offeredValue (gs.setIfInBounds i ph) j 0=vj:=by simp[offeredValue,qk,parked,two,scase]
 have hw:ways af (gs.setIfInBounds i ph) {chan:=.chan (some R),send:=none,zero:=z}=ps.map fun(h,k)=>Way.partner h k:=by
  simp only[ways,hR,cL];cases ps with
  |nil=>exact absurd rfl bd
  |cons p ps=>simp
 have IF:(ps.map fun(h,k)=>Way.partner h k).isEmpty=false:=by cases ps with
  |nil=>exact absurd rfl bd
  |cons p ps=>rfl
 have v_:=getD_map_partner ps b (j,0) Ev;have htw:(two R D vj z0 z1)[0]? =some {chan:=.chan (some R),send:=some vj,zero:=z0}:=rfl;by_cases hf:q.forced=true
 .rw[if_pos hf]at mS;obtain⟨rfl,rfl⟩:=mS;have Fo:ps.length=1:=by simpa[q,Question.forced]using hf
  have e0:ps[0]'hlen=(j,0):=(List.getElem?_eq_some_iff.1 Ev).2;simp[communicate,hw,IF,choose,Sem.run,Question.forced,bind,Sem.bind,pure,Fo,e0,AI,rcase,hR,World.setChan,crowd,Nf,k_,set_stand2,htw,parked,World.at];rfl
 .rw[if_neg hf]at mS;obtain⟨rfl,rfl⟩:=mS;have Fo:¬ps.length=1:=by simpa[q,Question.forced]using hf
  simp[communicate,hw,IF,choose,Sem.run,Question.forced,bind,Sem.bind,pure,Fo,Ev,AI,rcase,hR,World.setChan,crowd,Nf,k_,set_stand2,htw,parked,World.at,q];rfl
theorem ou:offersAt (parked g (two R D v z0 z1) shape) R true= [0]:=by simp[offersAt,parked,two,scase,rcase]
theorem xU(WK:D≠R):offersAt (parked g (two R D v z0 z1) shape) R false= []:=by simp[offersAt,parked,two,scase,rcase,WK]
theorem EZ(WK:D≠R):offersAt (parked g (two R D v z0 z1) shape) D true= []:=by simp[offersAt,parked,two,scase,rcase,Ne.symm WK]
theorem Ba(hR:w.heap[R]? =some (.chan 0 #[] false s r tm))(hD:w.heap[D]? =some (.chan 0 #[] false s' r' tm')):(parked g (two R D v z0 z1) shape).again w=parked g (two R D v z0 z1) shape:=by
 simp[Goroutine.again,parked,two,scase,rcase,hR,hD]
theorem vW(hD:w.heap[D]? =some (.chan 0 #[] true s' r' tm')):(parked g (two R D v z0 z1) shape).again w= {parked g (two R D v z0 z1) shape with status:=.running}:=by
 simp[Goroutine.again,parked,two,scase,rcase,hD]
