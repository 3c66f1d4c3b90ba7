import Derived.Test.YtmfpiodlecapiaaGreatDoorJ22
import Derived.Deep.Quiet
import Derived.Laws.StructEq
set_option maxHeartbeats 4000000
set_option maxRecDepth 100000
namespace Go.Proofs.YtmfpiodlecapiaaGreatDoor
open Go.Proofs.Tryz
section
open Go.RowKit Go.Deep
attribute [local go_sem↓] Go.wp_at_zero Go.wp_at_succ
open Go.RowKit Go.Deep Go.fE
def Qq(Kz:Nat->Nat)(V:Nat):Nat->Nat
 |0=>0
 |z+1=>Qq Kz V z+Kz z+V
theorem N9(Kz:Nat->Nat)(V:Nat):∀N,(∀z,z<N->Kz z+V<=40)->Qq Kz V N<=40*N
 |0,_=>Nat.le_refl _
 |N+1,h=>by
  have h1:=N9 Kz V N (fun z hz=>h z (by omega));have h3:=h N (by omega);simp only[Qq];omega
end
section
open Go.RowKit Go.Deep
variable{z n:Nat}
structure Oj where
 len:Nat
 sz:Nat
 ms:Nat
 V:Nat
 obj:List Nat
namespace Oj
def L(s:Oj):List Nat:=Cut.sizes s.len s.sz s.ms
def N(s:Oj):Nat:=s.L.length
def K(s:Oj)(z:Nat):Nat:=s.L[z]?.getD 0
def fl(s:Oj):List Nat:=Pk.filled s.obj (Cut.pieces s.len s.sz*s.sz)
def blk(s:Oj)(z:Nat):List Nat:=Pk.mD s.fl s.L s.sz z
def off(s:Oj)(z:Nat):Nat:=Pk.start s.L s.V z
def T(s:Oj):Nat:=s.off s.N
def pc(s:Oj)(z n:Nat):List Nat:=Pk.pieceN (s.blk z) s.sz (s.K z) n
def pkt(s:Oj)(id z n:Nat):List Nat:=Pk.packet id s.len s.sz s.ms s.V z n (s.pc z n)
structure Ok(s:Oj):Prop where
 len:s.len<=2000
 s1:1<=s.sz
 s2:s.sz<=16
 m1:1<=s.ms
 m2:s.ms<=20
 v:s.V<=20
 few:Cut.blocks (Cut.pieces s.len s.sz) s.ms<=256
 obj:s.obj.length=s.len
 lt:∀x∈s.obj,x<256
variable {s:Oj}
theorem Wm(s:Oj):s.N=Cut.blocks (Cut.pieces s.len s.sz) s.ms:=Cut.iV _ _ _
theorem Ok.N1(h:s.Ok):1<=s.N:=by rw[Wm];exact Cut.lI (Cut.iH _ _) h.m1
theorem Ok.N2(h:s.Ok):s.N<=256:=by rw[Wm];exact h.few
theorem Ok.jm(h:s.Ok)(hz:z<s.N):1<=s.K z/\s.K z<=20:=by
 have e:s.K z=s.L[z]'hz:=by
  unfold K;rw[List.getElem?_eq_getElem hz];rfl
 have:=Cut.kE (len:=s.len) (s:=s.sz) h.m1 (s.L[z]'hz) (List.getElem_mem (l:=s.L) hz);rw[<-e]at this;have:=h.m2;omega
theorem Ok.vQ(h:s.Ok):s.fl.length=Cut.pieces s.len s.sz*s.sz:=by
 have:=Cut.nJ (len:=s.len) h.s1;simp[fl,Pk.filled,h.obj];omega
theorem Ok.fl_lt(h:s.Ok):∀x∈s.fl,x<256:=by
 intro x hx;simp only[fl,Pk.filled,List.mem_append]at hx;rcases hx with hx|hx
 .exact h.lt x hx
 .rw[(List.mem_replicate.1 hx).2];omega
theorem Ok.sum(h:s.Ok):s.L.sum=Cut.pieces s.len s.sz:=Cut.vG h.m1
theorem Ok.f_(h:s.Ok)(hz:z<s.N):(s.blk z).length=s.K z*s.sz:=Go.Proofs.YtmfpiodlecapiaaGreatDoor.f_ hz h.sum rfl h.vQ
theorem Ok.FN(h:s.Ok)(z:Nat):∀x∈s.blk z,x<256:=fun x hx=>h.fl_lt x (List.mem_of_mem_drop (List.mem_of_mem_take hx))
theorem Ok.Qd(h:s.Ok)(hz:z<s.N):(s.pc z n).length=s.sz:=Pk.dW (h.f_ hz)
theorem Ok.pc_lt(h:s.Ok)(hz:z<s.N)(hn:n<s.K z+s.V):∀x∈s.pc z n,x<256:=by
 have:=h.jm hz;have:=h.v;exact Pk.P9 (h.FN z) (by omega) (by omega)
theorem DU(s:Oj):∀k,k<=s.N->((List.range k).map s.blk).flatten=s.fl.take ((s.L.take k).sum*s.sz)
 |0,_=>by simp
 |k+1,hk=>by
  rw[List.range_succ,List.map_append,List.flatten_append,DU s k (by omega)];simp only[List.map_cons,List.map_nil,List.flatten_cons,List.flatten_nil,List.append_nil];rw[jH (getD_some (show k<s.L.length from hk)),Nat.add_mul,List.take_add];rfl
theorem Ok.flat(h:s.Ok):((List.range s.N).map s.blk).flatten=s.fl:=by
 rw[DU s s.N (Nat.le_refl _),show s.L.take s.N=s.L from List.take_length,h.sum];exact List.take_of_length_le (by rw[h.vQ];exact Nat.le_refl _)
theorem Ok.Vq(h:s.Ok):s.len<=((List.range s.N).map s.blk).flatten.length:=by
 rw[h.flat,h.vQ];exact Cut.nJ h.s1
theorem N_(s:Oj):∀z,z<=s.N->Qq s.K s.V z=s.off z
 |0,_=>by simp[Qq,off,Pk.start]
 |z+1,hz=>by
  have:=Pk.jy (L:=s.L) (p:=s.V) (show z<s.L.length from hz);simp only[Qq,N_ s z (by omega)];show s.off z+s.L[z]?.getD 0+s.V=Pk.start s.L s.V (z+1);rw[this];show Pk.start s.L s.V z+_+_=_;omega
theorem Z9(s:Oj)(hz:z<s.N)(hn:n<s.K z+s.V):s.off z+n<s.T:=by
 have h1:=Pk.jy (L:=s.L) (p:=s.V) (show z<s.L.length from hz);have h2:=Pk.rP (L:=s.L) (p:=s.V) (z:=z+1) s.N hz (Nat.le_refl _);have h3:n<s.L[z]?.getD 0+s.V:=hn;show Pk.start s.L s.V z+n<Pk.start s.L s.V s.N;omega
theorem XI(s:Oj){z' n':Nat}(hz:z<s.N)(hn:n<s.K z+s.V)(js:z'<s.N)(kv:n'<s.K z'+s.V)(e:s.off z+n=s.off z'+n'):z=z'/\n=n':=by
 have key:∀{a b c d:Nat},a<b->b<s.N->c<s.K a+s.V->s.off a+c<s.off b+d:=fun {a b c d} j' hb hc=>by
  have h1:=Pk.jy (L:=s.L) (p:=s.V) (show a<s.L.length from Nat.lt_trans j' hb);have h2:=Pk.rP (L:=s.L) (p:=s.V) (z:=a+1) b j' (Nat.le_of_lt hb);have h3:c<s.L[a]?.getD 0+s.V:=hc;show Pk.start s.L s.V a+c<Pk.start s.L s.V b+d;omega
 rcases Nat.lt_trichotomy z z' with h|h|h
 .have:=key (d:=n') h js hn;omega
 .subst h;exact⟨rfl,by omega⟩
 .have:=key (d:=n) h hz kv;omega
theorem split(s:Oj){k:Nat}(hk:k<s.T):∃z n,z<s.N/\n<s.K z+s.V/\k=s.off z+n:=H6 s.N (Nat.le_refl _) hk
theorem Ok.r_(h:s.Ok){id:Nat}(hz:z<s.N)(hn:n<s.K z+s.V):(Pk.packets id s.obj s.sz s.ms s.V)[s.off z+n]? =some (s.pkt id z n):=
 Qf h.obj rfl _ rfl hz hn
theorem Ok.zy(h:s.Ok)(id:Nat):(Pk.packets id s.obj s.sz s.ms s.V).length=s.T:=by
 unfold Pk.packets;rw[h.obj,Pk.oZ (Nat.le_refl _)];rfl
theorem Ok.Zj(h:s.Ok):0<s.T:=by
 have h1:=h.N1;have h2:=h.jm (z:=0) (by omega);have:=s.Z9 (z:=0) (n:=0) (by omega) (by omega);omega
theorem Ok.T_le(h:s.Ok):s.T<=10240:=by
 have h0:=s.N_ s.N (Nat.le_refl _);have h1:=N9 s.K s.V s.N (fun z hz=>by have:=h.jm hz;have:=h.v;omega);have:=h.N2;show s.off s.N<=_;omega
theorem Ok.rZ(h:s.Ok){id:Nat}(hz:z<s.N):(s.pkt id z n).length=10+s.sz:=Pk.BP (h.Qd hz)
theorem Ok.LK(h:s.Ok){id:Nat}(hid:id<65536)(hz:z<s.N)(hn:n<s.K z+s.V):∀x∈s.pkt id z n,x<256:=by
 intro x hx;have h1:=h.N2;have h2:=h.jm hz;have h3:=h.len;have h4:=h.s2;have h5:=h.m2;have h6:=h.v;simp only[pkt,Pk.packet,Pk.head,List.mem_append,List.mem_cons,List.not_mem_nil,or_false]at hx;rcases hx with(rfl|rfl|rfl|rfl|rfl|rfl|rfl|rfl|rfl|rfl)|hx;all_goals first|exact h.pc_lt hz hn x hx|omega
theorem Ok.pX(h:s.Ok){id:Nat}(hz:z<s.N)(hn:n<s.K z+s.V):Tx.bT (s.pkt id z n):=by
 have hl:=h.rZ (id:=id) (n:=n) hz;have dC:=h.s1;have e:256*(s.pkt id z n)[3]?.getD 0+(s.pkt id z n)[4]?.getD 0=s.len:=Nat.div_add_mod s.len 256;have e5:(s.pkt id z n)[5]?.getD 0=s.sz:=rfl;have e6:(s.pkt id z n)[6]?.getD 0=s.ms:=rfl;have e7:(s.pkt id z n)[7]?.getD 0=s.V:=rfl;have e8:(s.pkt id z n)[8]?.getD 0=z:=rfl;have e9:(s.pkt id z n)[9]?.getD 0=n:=rfl;unfold Tx.bT;rw[e,e5,e6,e7,e8,e9,hl];exact⟨by omega,rfl,h.len,⟨h.s1,h.s2⟩,⟨h.m1,h.m2⟩,h.v,h.few,by rw[<-Wm];exact hz,hn,rfl⟩
end Oj
end
section
open Go.RowKit Go.Deep
structure gy where
 len:Nat
 sz:Nat
 ms:Nat
 V:Nat
 ct:Nat->Nat->Option (List Nat)
namespace gy
def oj(o:gy):Oj:=⟨o.len,o.sz,o.ms,o.V,List.replicate o.len 0⟩
structure Ok(o:gy):Prop where
 oj:o.oj.Ok
 pc:∀z n q,o.ct z n=some q->z<o.oj.N/\n<o.oj.K z+o.V/\q.length=o.sz/\∀x∈q,x<256
def put(o:gy)(z n:Nat)(q:List Nat):gy:= {o with ct:=fun z' n'=>if z'=z/\n'=n then some q else o.ct z' n'}
def bare(len sz ms V:Nat):gy:=⟨len,sz,ms,V,fun _ _=>none⟩
theorem Ok.put{o:gy}(h:o.Ok){z n:Nat}{q:List Nat}(hz:z<o.oj.N)(hn:n<o.oj.K z+o.V)(hq:q.length=o.sz)(hl:∀x∈q,x<256):(o.put z n q).Ok:=by
 refine⟨h.oj,fun z' n' q' e=>?_⟩;simp only[gy.put]at e;split at e
 .rename_i e2;obtain⟨rfl,rfl⟩:=e2;obtain rfl:=Option.some.inj e;exact⟨hz,hn,hq,hl⟩
 .exact h.pc z' n' q' e
end gy
namespace bC
abbrev St:=List (Nat×gy)
def get(st:St)(id:Nat):Option gy:=(st.find? (·.1==id)).map (·.2)
def set(st:St)(id:Nat)(o:gy):St:=st.map fun x=>if x.1=id then(id,o)else x
def jg(l:List Nat):Nat:=256*l[1]?.getD 0+l[2]?.getD 0
def lenOf(l:List Nat):Nat:=256*l[3]?.getD 0+l[4]?.getD 0
def dY(st:St)(l:List Nat):St×Nat×Nat:=
 if Tx.bT l then
  match get st (jg l)with
  |none=>if st.length<8 then(st++ [(jg l,(gy.bare (lenOf l) (l[5]?.getD 0) (l[6]?.getD 0) (l[7]?.getD 0)).put (l[8]?.getD 0) (l[9]?.getD 0) (l.drop 10))],1,0)else(st,0,5)
  |some o=>
   if lenOf l=o.len/\l[5]?.getD 0=o.sz/\l[6]?.getD 0=o.ms/\l[7]?.getD 0=o.V then
    match o.ct (l[8]?.getD 0) (l[9]?.getD 0)with
    |none=>(set st (jg l) (o.put (l[8]?.getD 0) (l[9]?.getD 0) (l.drop 10)),1,0)
    |some q=>if l.drop 10=q then(st,0,0)else(st,0,4)
   else(st,0,4)
 else(st,0,2)
def hear(st:St):List (List Nat)->St×Nat×Nat
 | []=>(st,0,0)
 |l::ls=>match dY st l with
  |(st',c,0)=>let r:=hear st' ls;(r.1,c+r.2.1,r.2.2)
  |(st',c,e)=>(st',c,e)
theorem Vm{st:St}{id:Nat}{o:gy}(h:get st id=none)(id':Nat):get (st++ [(id,o)]) id'=if id'=id then some o else get st id':=by
 unfold get at*;rw[List.find?_append];by_cases e:id'=id
 .subst e;have h':st.find? (fun x=>x.1==id')=none:=by simpa using h
  simp[h']
 .have h2:(id==id')=false:=by simpa using Ne.symm e
  cases hf:st.find? (fun x=>x.1==id')<;>simp[h2,e]
theorem NQ(st:St)(id:Nat)(o:gy):(set st id o).map (·.1)=st.map (·.1):=by
 unfold set;rw[List.map_map];refine List.map_congr_left fun x _=>?_;simp only[Function.comp];split
 .rename_i e;exact e.symm
 .rfl
theorem Yp{st:St}{id:Nat}{o o':gy}(h:get st id=some o')(id':Nat):get (set st id o) id'=if id'=id then some o else get st id':=by
 induction st with
 |nil=>cases h
 |cons x st ih=>
  unfold get set at*;simp only[List.map_cons,List.find?_cons]at h⊢;by_cases hx:x.1=id
  .simp only[hx,if_true];by_cases e:id'=id
   .subst e;simp
   .have h2:(id==id')=false:=by simpa using Ne.symm e
    simp only[h2,e,if_false];have:∀st:St,((st.map fun x=>if x.1=id then(id,o)else x).find? (fun y=>y.1==id')).map (·.2)=(st.find? (fun y=>y.1==id')).map (·.2):=fun st=>by
     induction st with
     |nil=>rfl
     |cons y st ih2=>
      simp only[List.map_cons,List.find?_cons];by_cases hy:y.1=id
      .have h3:(y.1==id')=false:=by rw[hy];exact h2
       simp only[hy,if_true,h2,ih2]
      .simp only[hy,if_false];cases hc:(y.1==id')with
       |true=>rfl
       |false=>exact ih2
    exact this st
  .have h2:(x.1==id)=false:=by simpa using hx
   simp only[h2]at h;simp only[hx,if_false];cases hc:(x.1==id')with
   |true=>
    have:id'≠id:=fun e=>hx (by rw[<-e];simpa using hc);simp[this]
   |false=>exact ih h
end bC
end
end Go.Proofs.YtmfpiodlecapiaaGreatDoor
namespace Go
variable{a:Act}{o:Oper}{l:List Oper}{w:World}
variable {P:Program} {ops:Array Oper} {C:World->Prop} {md:Region.Mode}
def pY(o:Oper):Oper:= {o with dst:=none,op:=.move (.const undef),guard:=none}
def bM:List Oper->List Oper
 | []=> []
 | [o]=> [pY o]
 |o::o'::l=>o::bM (o'::l)
def V3(md:Region.Mode)(ops:Array Oper):Bool:=
 (List.range (ops.size-1)).all fun j=>(List.range ops.size).any fun k=>decide (j<k)&&(match ops[k]? with|some o=>o.after.any fun e=>Region.binds md e&&e.on==j|none=>false)
def Ov(ops:Array Oper):Bool:=ops.all fun o=>match o.guard with|some (g,_)=>decide (g+1<ops.size)|none=>true
def Gp(P:Program)(ops:Array Oper)(C:World->Prop)(E:Oper->Act->Prop):List Oper->Act->Prop
 | [],_=>False
 | [o],a=>E o a
 |o::o'::rest,a=>if Region.wanted o (yielded ops a.tmps)then o.quiet P a C (Gp P ops C E (o'::rest))else Gp P ops C E (o'::rest) (a.put o.dst undef)
theorem CP{E:Oper->Act->Prop}{o':Oper}{rest:List Oper}
 (h:∀K:Act->Prop,(∀a,Gp P ops C E (o'::rest) a->K a)->if Region.wanted o (yielded ops a.tmps)then o.quiet P a C K else K (a.put o.dst undef)):Gp P ops C E (o::o'::rest) a:=h _ (fun _ h=>h)
theorem iA:∀l:List Oper,(bM l).length=l.length
 | []=>rfl
 | [_]=>rfl
 |_::o'::l=>by simp[bM,iA (o'::l)]
theorem je:∀(l:List Oper) (j:Nat),(bM l)[j]? =if j+1=l.length then l[j]?.map pY else l[j]?
 | [],j=>by simp[bM]
 | [o],j=>by cases j<;>simp[bM]
 |o::o'::l,0=>by simp[bM]
 |o::o'::l,j+1=>by
  have:=je (o'::l) j;simp only[bM,List.getElem?_cons_succ,this,List.length_cons,Nat.add_right_cancel_iff]
def Zh(ops:Array Oper):Bool:=(List.range ops.size).all fun k=>match ops[k]? with|some o=>o.after.all fun e=>decide (e.on<k)|none=>true
theorem wu(hf:Ov l.toArray=true){i:Nat}(ho:l[i]? =some o)(T:Array Value):Region.wanted o (yielded (bM l).toArray T)=Region.wanted o (yielded l.toArray T):=by
 unfold Region.wanted;have h1:=Array.all_eq_true'.1 hf o (by rw[List.mem_toArray];exact List.mem_of_getElem? ho);cases hg:o.guard with
 |none=>rfl
 |some x=>
  obtain⟨g,b⟩:=x;rw[hg]at h1;simp only[List.size_toArray,decide_eq_true_eq]at h1;have:(bM l).toArray[g]? =l.toArray[g]? :=by
   simp only[List.getElem?_toArray,je,if_neg (show¬g+1=l.length by omega)]
  simp only[yielded,this]
theorem rX{j:Nat}{listed:Array Bool}:j∈Region.ready md (bM l).toArray listed↔j∈Region.ready md l.toArray listed:=by
 rw[mem_ready,mem_ready];simp only[List.getElem?_toArray,je];split
 .constructor
  .rintro⟨h1,o,h2,h3⟩;obtain⟨o',e,rfl⟩:=Option.map_eq_some_iff.1 h2;exact⟨h1,o',e,h3⟩
  .rintro⟨h1,o,h2,h3⟩;exact⟨h1,pY o,by rw[h2];rfl,h3⟩
 .exact Iff.rfl
theorem qV{Q:Act->Prop}{E:Oper->Act->Prop}{l0:List Oper}(hf:Ov l0.toArray=true){e:Oper}(hE:∀a,E e a->Q a):∀(l:List Oper) (k:Nat) (a:Act),(∀j,l[j]? =l0[k+j]?)->l≠ []->l.getLast? =some e->Gp P l0.toArray C E l a->wpQuiet P (bM l0).toArray C Q (bM l) a
 | [],_,_,_,h,_,_=>absurd rfl h
 |[o],k,a,hl,_,he,h=>by
  simp only[List.getLast?_singleton,Option.some.injEq]at he;subst he;show if Region.wanted (pY o) _ then _ else _
  rw[if_pos (show Region.wanted (pY o) _=true from rfl)];exact⟨undef,fun w hw=>⟨rfl,rfl⟩,hE a h⟩
 |o::o'::l,k,a,hl,_,he,h=>by
  have ih:=qV hf hE (o'::l) (k+1);have ju:∀j,(o'::l)[j]? =l0[k+1+j]? :=fun j=>by have:=hl (j+1);simpa[Nat.add_assoc,Nat.add_comm 1 j]using this
  have h0:l0[k]? =some o:=by simpa using(hl 0).symm
  have ud:(o'::l).getLast? =some e:=by simpa[List.getLast?_cons_cons]using he
  show if Region.wanted o _ then _ else _
  rw[wu hf h0];unfold Gp at h;split
  .rename_i hw;rw[if_pos hw]at h;exact Oper.quiet_mono (fun a' h'=>ih a' ju (by simp) ud h') h
  .rename_i hw;rw[if_neg hw]at h;exact ih _ ju (by simp) ud h
theorem J5{n:Nat}{eo:Oper}(hn:l.length=n+1)(No:l[n]? =some eo)(hf:Ov l.toArray=true)(hk:V3 md l.toArray=true)(hb:Zh l.toArray=true){Q':Exit->Act->World->Prop}:
  ∀(fuel:Nat) (listed:Array Bool) (a:Act) (w:World),listed.size=n+1->listed.getD n true=false->(∀j o,l[j]? =some o->listed.getD j true=true->∀e∈o.after,Region.binds md e=true->listed.getD e.on false=true)->C w->
   wpAnyQ P md (bM l).toArray C (fun a=>∀w,C w->if Region.wanted eo (yielded l.toArray a.tmps)then eo.wp P a w (fun a w=>Q' .normal a w) Q' else Q' .normal (a.put eo.dst undef) w) fuel listed a->wpAny P md l.toArray Q' fuel listed a w:=by
 have nemp:∀listed:Array Bool,listed.size=n+1->listed.getD n true=false->∃j,j∈Region.ready md l.toArray listed:=fun listed hs hu=>by
  have:∀k,k<=n->(∃j,j∈Region.ready md l.toArray listed)\/∀j,j<k->listed.getD j false=true:=fun k=>by
   induction k with
   |zero=>exact fun _=>.inr fun j hj=>by omega
   |succ k ih=>
    intro mB;rcases ih (by omega)with h|h
    .exact .inl h
    .cases hc:listed.getD k true with
     |true=>
      refine .inr fun j hj=>?_;rcases Nat.lt_succ_iff_lt_or_eq.1 hj with h1|rfl
      .exact h j h1
      .have:j<listed.size:=by omega
       simp[this]at hc⊢;exact hc
     |false=>
      have ai:k<l.length:=by omega
      refine .inl ⟨k,mem_ready.2 ⟨hc,l[k],by simp[ai],fun e he _=>h e.on ?_⟩⟩;have h1:=List.all_eq_true.1 hb k (by simp;omega);simp only[List.getElem?_toArray,List.getElem?_eq_getElem ai,Array.all_eq_true']at h1;simpa using h1 e he
  rcases this n (Nat.le_refl _)with h|h
  .exact h
  .have ai:n<l.length:=by omega
   refine⟨n,mem_ready.2 ⟨hu,l[n],by simp[ai],fun e he _=>h e.on ?_⟩⟩;have h1:=List.all_eq_true.1 hb n (by simp;omega);simp only[List.getElem?_toArray,List.getElem?_eq_getElem ai,Array.all_eq_true']at h1;simpa using h1 e he
 intro fuel;induction fuel with
 |zero=>
  intro listed a w hs hu _ _ h;obtain⟨j,hj⟩:=nemp listed hs hu;have:=rX.2 hj;rw[h.1]at this;cases this
 |succ fuel ih=>
  intro listed a w hs hu cF hw h;refine⟨fun h0=>?_,fun i hi=>?_⟩
  .obtain⟨j,hj⟩:=nemp listed hs hu;rw[h0]at hj;cases hj
  .have h1:=h.2 i (rX.2 hi);obtain⟨hiu,oi,qa,cG⟩:=mem_ready.1 hi;simp only[List.getElem?_toArray]at qa;by_cases hie:i=n
   .subst hie;have all:∀m j,j<i->i<=j+m->listed.getD j true=true:=fun m=>by
     induction m with
     |zero=>exact fun j h1 h2=>by omega
     |succ m ihm=>
      intro j hj hm;have h2:=List.all_eq_true.1 hk j (by simp;omega);obtain⟨k,AN,ae⟩:=List.any_eq_true.1 h2;simp only[List.size_toArray,List.mem_range]at AN;simp only[Bool.and_eq_true,decide_eq_true_eq,List.getElem?_toArray]at ae;rw[List.getElem?_eq_getElem AN]at ae;obtain⟨Ev,hex⟩:=ae;obtain⟨e,he,Nt⟩:=Array.any_eq_true'.1 hex;simp only[Bool.and_eq_true,beq_iff_eq]at Nt;have key:listed.getD e.on false=true:=by
       by_cases sf:k=i
       .subst sf;rw[List.getElem?_eq_getElem AN]at qa;obtain rfl:=Option.some.inj qa;exact cG e he Nt.1
       .exact cF k _ (List.getElem?_eq_getElem AN) (ihm k (by omega) (by omega)) e he Nt.1
      rw[Nt.2]at key;have:j<listed.size:=by omega
      simp[this]at key⊢;exact key
    have gA:Region.ready md l.toArray (listed.setIfInBounds i true)= []:=by
     refine List.eq_nil_iff_forall_not_mem.2 fun j hj=>?_;obtain⟨h3,o,h4,_⟩:=mem_ready.1 hj;have MM:j<i+1:=by
      have:=(List.getElem?_eq_some_iff.1 (by simpa using h4)).1;omega
     by_cases kx:i=j
     .subst kx;simp[show i<listed.size by omega]at h3
     .rw[getD_set_ne true kx,all i j (by omega) (by omega)]at h3;cases h3
    have hno':Region.ready md (bM l).toArray (listed.setIfInBounds i true)= []:=List.eq_nil_iff_forall_not_mem.2 fun j hj=>by
     have:=rX.1 hj;rw[gA]at this;cases this
    have hQ:∀w,C w->if Region.wanted eo (yielded l.toArray a.tmps)then eo.wp P a w (fun a w=>Q' .normal a w) Q' else Q' .normal (a.put eo.dst undef) w:=by
     unfold qOp at h1;have hid:(bM l).toArray[i]? =some (pY eo):=by
      simp only[List.getElem?_toArray,je,hn,if_true,No];rfl
     rw[hid]at h1;simp only[show Region.wanted (pY eo) (yielded (bM l).toArray a.tmps)=true from rfl,if_true]at h1;obtain⟨v,_,h3⟩:=h1;have:a.put (pY eo).dst v=a:=rfl;rw[this]at h3;cases fuel with
     |zero=>exact h3.2
     |succ f=>exact h3.1 hno'
    have fin:∀a' w',Q' .normal a' w'->wpAny P md l.toArray Q' fuel (listed.setIfInBounds i true) a' w':=fun a' w' hq=>by
     cases fuel with
     |zero=>exact⟨gA,hq⟩
     |succ f=>exact⟨fun _=>hq,fun j hj=>by rw[gA]at hj;cases hj⟩
    unfold wpOp;simp only[List.getElem?_toArray,No];have hq:=hQ w hw;split
    .rename_i fN;rw[if_pos fN]at hq;exact .inl (Oper.wp_mono (fun a' w'=>fin a' w') hq)
    .rename_i fN;rw[if_neg fN]at hq;exact fin _ _ hq
   .have ja:(bM l).toArray[i]? =l.toArray[i]? :=by
     have:=(List.getElem?_eq_some_iff.1 qa).1;simp only[List.getElem?_toArray,je,if_neg (show¬i+1=l.length by omega)]
    have hq:qOp P l.toArray C i (wpAnyQ P md (bM l).toArray C (fun a=>∀w,C w->if Region.wanted eo (yielded l.toArray a.tmps)then eo.wp P a w (fun a w=>Q' .normal a w) Q' else Q' .normal (a.put eo.dst undef) w) fuel (listed.setIfInBounds i true)) a:=by
     unfold qOp at h1⊢;rw[ja]at h1;simp only[List.getElem?_toArray,qa]at h1⊢;rw[wu hf qa]at h1;exact h1
    refine wpOp_of_qOp hw (fun a' w' lp h3=>ih (listed.setIfInBounds i true) a' w' (by simpa using hs) (by rw[getD_set_ne true hie];exact hu) (fun j o ho hj e he FF=>?_) lp h3) hq;by_cases kx:i=j
    .subst kx;rw[qa]at ho;obtain rfl:=Option.some.inj ho;exact getD_set_true (cG e he FF)
    .rw[getD_set_ne true kx]at hj;exact getD_set_true (cF j o ho hj e he FF)
theorem oO{id:Nat}{Q:Exit->Act->World->Prop}(hm:P.follows .mixedOrders=true)(hB:Region.lexB .any (bM l).toArray=true)(hf:Ov l.toArray=true)(hk:V3 .any l.toArray=true)(hb:Zh l.toArray=true)
  (h:Gp P l.toArray (fun w'=>∃n,w'=w.drewN n) (fun o a'=>∀w',(∃n,w'=w.drewN n)->if Region.wanted o (yielded l.toArray a'.tmps)then o.wp P a' w' (fun a w=>Q .normal a w) Q else Q .normal (a'.put o.dst undef) w') l a):(Code.region id l.toArray true).wp P Q a w:=by
 cases hl:l.getLast? with
 |none=>rw[List.getLast?_eq_none_iff.1 hl]at h;exact h.elim
 |some eo=>
  have bd:l≠ []:=fun e=>by rw[e]at hl;cases hl
  obtain⟨n,hn⟩:∃n,l.length=n+1:=Nat.exists_eq_add_one_of_ne_zero (fun e=>bd (List.length_eq_zero_iff.1 e));have No:l[n]? =some eo:=by rw[List.getLast?_eq_getElem?,hn]at hl;exact hl
  simp only[Region.lexB,Bool.and_eq_true]at hB;refine wp_region_any hm ?_;have hq:=qV (P:=P) (C:=fun w'=>∃n,w'=w.drewN n) (Q:=fun a'=>∀w',(∃n,w'=w.drewN n)->if Region.wanted eo (yielded l.toArray a'.tmps)then eo.wp P a' w' (fun a w=>Q .normal a w) Q else Q .normal (a'.put eo.dst undef) w') hf (fun a h=>h) l 0 a (fun j=>by rw[Nat.zero_add]) bd hl h;have hs:(bM l).toArray.size=l.length:=by simp[iA]
  rw[hs]at hB;have:=wpAnyQ_lex (C:=fun w'=>∃n,w'=w.drewN n) (md:=.any) hB.1 (bM l) 0 (Array.replicate l.length false) a (by simp) (by rw[iA];exact hB.2) hq;rw[iA]at this;exact J5 hn No hf hk hb l.length _ a _ (by simp[hn]) (by simp[hn]) (fun j o ho hj=>by
   have:=(List.getElem?_eq_some_iff.1 ho).1;simp[this]at hj) ⟨1,rfl⟩ this
theorem Gn{Q:Exit->Act->World->Prop}(hg:o.guard=none)(h:∀n,o.wp P a (w.drewN n) (fun a w=>Q .normal a w) Q):
  Gp P l.toArray C (fun o a'=>∀w',(∃n,w'=w.drewN n)->if Region.wanted o (yielded l.toArray a'.tmps)then o.wp P a' w' (fun a w=>Q .normal a w) Q else Q .normal (a'.put o.dst undef) w') [o] a:=by
 rintro _ ⟨n,rfl⟩;rw[if_pos (by simp[Region.wanted,hg])];exact h n
end Go
namespace Go.Proofs.YtmfpiodlecapiaaGreatDoor
open Go.Proofs.Tryz
section
open Go.RowKit Go.Deep
attribute [local go_sem↓] Go.wp_at_zero Go.wp_at_succ
theorem Xu(a b c a' b' c':Nat)(h:¬(a=a'/\b=b'/\c=c'))(w:World):(binOp .eql 35 (.agg #[.int .i64 a,.int .i64 b,.int .i64 c]) (.agg #[.int .i64 a',.int .i64 b',.int .i64 c'])).run prog w= .ok (.bool false) w:=by
 have ht:prog.underlying 35=some (.struct (prog.fieldsOf 35)):=by kernel_rfl
 have hp:prog.stoodInHeld 35=false:=by kernel_rfl
 rw[run_eql_struct,run_equalIn_agg _ 9999 _ _ _ ht hp];have hf:(prog.fieldsOf 35).toList.map (fun f=>(f.type,f.offset,f.name== "_"))= [(3,0,false),(3,1,false),(3,2,false)]:=by kernel_rfl
 clear ht;generalize (prog.fieldsOf 35).toList=L at hf;rcases L with _|⟨f1,_|⟨f2,_|⟨f3,_|⟨f4,L⟩⟩⟩⟩<;>simp only[List.map_cons,List.map_nil,List.cons.injEq,Prod.mk.injEq,beq_eq_false_iff_ne,ne_eq,and_true,reduceCtorEq,and_false]at hf;obtain⟨⟨e1,e2,e3⟩,⟨e4,e5,e6⟩,⟨e7,e8,e9⟩⟩:=hf;simp only[Op.eqFields,e1,e2,e3,e4,e5,e6,e7,e8,e9,not_false_eq_true,if_true,ne_eq];go_simp;omega
theorem RN(ob len sz ms V bb N cap id len' sz' ms' V' z n gb go s g_:Nat)(bd:¬(len'=len/\sz'=sz/\ms'=ms/\V'=V))(w:World)(fH:dP w ob len sz ms V bb N cap):
  Calls prog 83 #[.pointer (some ⟨ob,0,none⟩),dU id len' sz' ms' V' z n,.slice (some ⟨gb,go,none⟩) s g_] w fun e w'=>
   e= .panicked [{v:=bq 4,recovered:=false}]/\Below w.heap.size w w':=by
 unfold dU;have Jh:w.cell? ⟨ob,0,none⟩=some (.int .i64 len):=by unfold dP at fH;simp[World.cell?,fH]
 have Jg:w.cell? ⟨ob,1,none⟩=some (.int .i64 sz):=by unfold dP at fH;simp[World.cell?,fH]
 have Jf:w.cell? ⟨ob,2,none⟩=some (.int .i64 ms):=by unfold dP at fH;simp[World.cell?,fH]
 have Je:w.cell? ⟨ob,3,none⟩=some (.int .i64 V):=by unfold dP at fH;simp[World.cell?,fH]
 clear fH;go_enter func83,ntmps83;have fa:Below w.heap.size w (w.alloc (.cells #[.int .i64 id,.int .i64 len',.int .i64 sz',.int .i64 ms',.int .i64 V',.int .i64 z,.int .i64 n] 76)):=(Below.refl _ _).alloc (Nat.le_refl _) _;have hH:=aK w #[.int .i64 id,.int .i64 len',.int .i64 sz',.int .i64 ms',.int .i64 V',.int .i64 z,.int .i64 n] 76;go_wp2;obtain⟨w1,dm⟩:∃w1,w1=w.alloc (.cells #[.int .i64 id,.int .i64 len',.int .i64 sz',.int .i64 ms',.int .i64 V',.int .i64 z,.int .i64 n] 76):=⟨_,rfl⟩;rw[<-dm]at fa hH⊢;clear dm;obtain⟨hb,WI⟩:∃hb,hb=w.heap.size:=⟨_,rfl⟩;have keep:∀(a:Addr) (v:Value),w.cell? a=some v->w1.cell? a=some v:=fun a v h=>by
  rw[fa.cell (by exact bR h)];exact h
 have k0:=keep _ _ Jh;have k1:=keep _ _ Jg;have k2:=keep _ _ Jf;have k3:=keep _ _ Je
 have dk:=hide fa;rw[<-WI]at hH⊢;have h1:=hH.cell 1 _ rfl;have h2:=hH.cell 2 _ rfl;have h3:=hH.cell 3 _ rfl;have h4:=hH.cell 4 _ rfl
 clear keep fa hH Jh Jg Jf Je WI;by_cases hlen:len'=len
 .subst hlen;have eI:=fun w=>Xu sz' ms' V' sz ms V (fun h=>bd ⟨rfl,h⟩) w;have k_:∀w,(eqGuard .eql 35 (.tmp 18) (.tmp 22) (.agg #[.int .i64 sz',.int .i64 ms',.int .i64 V']) (.agg #[.int .i64 sz,.int .i64 ms,.int .i64 V])).run prog w= .ok () w:=fun w=>run_eqGuard_agg w _ _ _ _ _ _ (by kernel_rfl);clear bd;refine oO (by kernel_rfl) (by kernel_rfl) (by kernel_rfl) (by kernel_rfl) (by kernel_rfl) ?_;repeat (refine CP (fun K hK=>?_);go_simp;refine hK _ ?_;clear hK K)
  refine Gn rfl fun nq=>?_;go_simp;go_at_call 81
  refine(jr _ _).mono ?_;rintro _ _ ⟨rfl,rfl⟩;exact⟨rfl,rfl,dk.out.os,dk.out.tape,dk.out.output,dk.out.size,dk.out.block⟩
 .have ju:¬(len':Int)=(len:Int):=by omega
  clear bd;refine oO (by kernel_rfl) (by kernel_rfl) (by kernel_rfl) (by kernel_rfl) (by kernel_rfl) ?_;repeat (refine CP (fun K hK=>?_);go_simp;refine hK _ ?_;clear hK K)
  refine Gn rfl fun nq=>?_;go_simp;go_at_call 81
  refine(jr _ _).mono ?_;rintro _ _ ⟨rfl,rfl⟩;exact⟨rfl,rfl,dk.out.os,dk.out.tape,dk.out.output,dk.out.size,dk.out.block⟩
end
section
open Go.RowKit Go.Deep
structure nZ(w:World)(hd:List Value)(len sz ms V g:Nat)(c:Nat->Nat)(L:List Value)(wr:World)(q:Nat)(vB:Value)(pb:Nat->Nat):Prop where
 below:Below w.heap.size w wr
 head:aB wr w.heap.size 76 hd
 obj:aB wr (w.heap.size+1) 101 [.int .i64 len,.int .i64 sz,.int .i64 ms,.int .i64 V,vB]
 cnt:aB wr g 3 L
 own:bK wr 25 vB ((List.range q).map fun i=>Value.slice (some ⟨pb i,0,none⟩) (c i+V) (c i+V))
 far:∀k,vB.ownBlock=some k->w.heap.size+2<=k
 row:∀i,i<q->w.heap.size+2<=pb i/\aB wr (pb i) 28 (List.replicate (c i+V) (.slice none 0 0))/\vB.ownBlock≠some (pb i)
 inj:∀i j,i<q->j<q->pb i=pb j->i=j
theorem nZ.step{w:World}{hd L:List Value}{len sz ms V g q:Nat}{c:Nat->Nat}{wr w2:World}{vB v':Value}{pb:Nat->Nat}(hg:w.heap.size+2<=g)(h:nZ w hd len sz ms V g c L wr q vB pb)
  (ha:gD ((wr.drew.alloc (.cells (madeCells #[.slice none 0 0] (c q+V)) 28)).alloc (.cells #[.slice (some ⟨wr.heap.size,0,none⟩) (c q+V) (c q+V)] 25)) w2 25 vB v' ((List.range q).map fun i=>Value.slice (some ⟨pb i,0,none⟩) (c i+V) (c i+V)) [.slice (some ⟨wr.heap.size,0,none⟩) (c q+V) (c q+V)]):
  nZ w hd len sz ms V g c L (w2.setCell ⟨w.heap.size+1,4,none⟩ v') (q+1) v' (fun i=>if i=q then wr.heap.size else pb i):=by
 have hW1:=jA wr.drew (.slice none 0 0) (c q+V) 28;have hs:((wr.drew.alloc (.cells (madeCells #[.slice none 0 0] (c q+V)) 28)).alloc (.cells #[.slice (some ⟨wr.heap.size,0,none⟩) (c q+V) (c q+V)] 25)).heap.size=wr.heap.size+2:=by simp
 have keep:∀g t (l:List Value),aB wr g t l->vB.ownBlock≠some g->aB w2 g t l:=fun g t l hr bd=>ha.other ((hr.drew.alloc _).alloc _) bd;have cC:=h.below.size;have fH:=h.obj.lt;have UE:∀k,vB.ownBlock=some k->k<wr.heap.size:=fun k hk=>h.own.lt hk;have far':∀k,v'.ownBlock=some k->w.heap.size+2<=k:=ha.from (by rw[hs];omega) h.far;refine⟨?_,?_,?_,?_,?_,far',?_,?_⟩
 .have hb:=(h.below.drew.alloc cC (.cells (madeCells #[.slice none 0 0] (c q+V)) 28)).alloc (by simp;omega) (.cells #[.slice (some ⟨wr.heap.size,0,none⟩) (c q+V) (c q+V)] 25);exact(ha.below hb (by rw[hs];omega) (fun k hk=>by have:=h.far k hk;omega)).setCell (show w.heap.size<=w.heap.size+1 by omega) _
 .exact(keep _ _ _ h.head (fun e=>by have:=h.far _ e;omega)).other (show w.heap.size≠w.heap.size+1 by omega) _
 .have:=(keep _ _ _ h.obj (fun e=>by have:=h.far _ e;omega)).set 4 v';exact this
 .exact(keep _ _ _ h.cnt (h.own.lU h.cnt (by decide))).other (show g≠w.heap.size+1 by omega) _
 .have:=ha.own;rw[List.range_succ,List.map_append,List.map_cons,List.map_nil];have e1:((List.range q).map fun i=>Value.slice (some ⟨if i=q then wr.heap.size else pb i,0,none⟩) (c i+V) (c i+V))=(List.range q).map fun i=>Value.slice (some ⟨pb i,0,none⟩) (c i+V) (c i+V):=by
   refine List.map_congr_left fun i hi=>?_;rw[if_neg (by rw[List.mem_range]at hi;omega)]
  simp only[e1,if_true];exact this.of_block fun k hk=>Below.heap_setCell _ _ _ _ (show k≠w.heap.size+1 from fun e=>by have:=far' k hk;omega)
 .intro i hi;by_cases e:i=q
  .subst e;simp only[if_true];refine⟨by omega,?_,fun hv=>?_⟩
   .refine(aB.other ?_ (show wr.heap.size≠w.heap.size+1 by omega) _);exact ha.other (hW1.alloc _) (fun hv=>by have:=UE _ hv;simp at this)
   .rcases ha.block with h1|h1
    .rw[h1]at hv;have:=UE _ hv;omega
    .rw[h1,hs]at hv;have:=Option.some.inj hv;omega
  .simp only[if_neg e];obtain⟨a1,a2,a3⟩:=h.row i (by omega);refine⟨a1,(keep _ _ _ a2 a3).other (show pb i≠w.heap.size+1 by omega) _,fun hv=>?_⟩;rcases ha.block with h1|h1
   .rw[h1]at hv;exact a3 hv
   .rw[h1,hs]at hv;have:=Option.some.inj hv;have:=a2.lt;omega
 .intro i j hi hj e;have lt:∀i,i<q->pb i<wr.heap.size:=fun i hi=>(h.row i hi).2.1.lt;by_cases e1:i=q<;>by_cases e2:j=q
  .omega
  .simp only[if_pos e1,if_neg e2]at e;have:=lt j (by omega);omega
  .simp only[if_neg e1,if_pos e2]at e;have:=lt i (by omega);omega
  .simp only[if_neg e1,if_neg e2]at e;exact h.inj i j (by omega) (by omega) e
attribute [local go_sem↓] Go.wp_at_zero Go.wp_at_succ
theorem zR{c:Prop}[Decidable c]{p q:Prop}(hc:c)(h:p):if c then p else q:=by rw[if_pos hc];exact h
theorem wp_append_run{P:Program}{o:Oper}{a:Act}{w w':World}{K:Act->World->Prop}{Q:Exit->Act->World->Prop}(s x:Operand)(t:TypeId)(u y v:Value)
  (ho:o.op= .call {callee:=.builtin .append,args:=#[s,x],argTypes:=#[t,t]})(hs:a.eval s=u)(hx:a.eval x=y)(hr:(Builtin.append_ #[t,t] o.type #[u,y]).run P w= .ok v w')(h:K (a.put o.dst v) w'):o.wp P a w K Q:=by
 unfold Oper.wp execOp;simp only[ho,resolve,invoke,builtin,Sem.run_bind,Sem.run_pure,Result.andThen_ok,List.map_toArray,List.map_cons,List.map_nil,hs,hx,hr];exact h
theorem Tryz.infoLists:(prog.info? 25).map (fun i=>(i.zero,i.size,i.bytes))=some (some (.slice none 0 0),1,24):=by kernel_rfl
set_option linter.unusedSimpArgs false in
theorem zH(id len sz ms V z n N:Nat)(hl:len<=2000)(h1:1<=sz)(h2:sz<=16)(h3:1<=ms)(h4:ms<=20)(h5:V<=20)(hN:Hid (Cut.blocks (Cut.pieces len sz) ms=N))(Aa:N<=256)(w:World):
  Calls prog 82 #[dU id len sz ms V z n] w fun e w'=>
   ∃(g:Nat) (vB:Value) (pb:Nat->Nat),e= .returned (.pointer (some ⟨w.heap.size+1,0,none⟩))/\nZ w [.int .i64 id,.int .i64 len,.int .i64 sz,.int .i64 ms,.int .i64 V,.int .i64 z,.int .i64 n] len sz ms V g (fun i=>(Cut.sizes len sz ms)[i]?.getD 0) (dF (Cut.sizes len sz ms)) w' N vB pb:=by
 obtain⟨i0,ix,ep,cJ,cW⟩:=info_parts Tryz.infoBytes;obtain⟨i1,MU,hy0,sA,sx⟩:=info_parts Tryz.infoLists;unfold dU;have hC:Hid (∀w,Calls prog 29 #[.int .i64 len,.agg #[.int .i64 sz,.int .i64 ms,.int .i64 V]] w fun e w'=>∃g,w.heap.size<=g/\e= .returned (.tuple #[.slice (some ⟨g,0,none⟩) N N,.bool true])/\Below w.heap.size w w'/\aB w' g 3 (dF (Cut.sizes len sz ms))):=fun w=>by
  have:=(cO len sz ms V hl h1 h2 h3 h4 h5 w).1 (by rw[hN.out];exact Aa);rw[hN.out]at this;exact this
 have N5:Hid ((Cut.sizes len sz ms).length=N):=by show _=_;rw[Cut.iV,hN.out]
 have hSb:Hid (∀x∈Cut.sizes len sz ms,x<=20):=fun x hx=>by have:=(Cut.kE h3 x hx).2;omega
 have fa:Below w.heap.size w (w.alloc (.cells #[.int .i64 id,.int .i64 len,.int .i64 sz,.int .i64 ms,.int .i64 V,.int .i64 z,.int .i64 n] 76)):=(Below.refl _ _).alloc (Nat.le_refl _) _;have hH:=aK w #[.int .i64 id,.int .i64 len,.int .i64 sz,.int .i64 ms,.int .i64 V,.int .i64 z,.int .i64 n] 76;have T5:(w.alloc (.cells #[.int .i64 id,.int .i64 len,.int .i64 sz,.int .i64 ms,.int .i64 V,.int .i64 z,.int .i64 n] 76)).heap.size=w.heap.size+1:=by simp
 go_enter func82,ntmps82;go_wp2_with (go_at_call 29;refine(hC.out _).mono ?_;rintro _ w2 ⟨g,hg,rfl,cq,dE⟩;replace cq:=hide cq;replace dE:=hide dE)
 obtain⟨Sg,OK⟩:w.heap.size+2<=g/\nZ w [.int .i64 id,.int .i64 len,.int .i64 sz,.int .i64 ms,.int .i64 V,.int .i64 z,.int .i64 n] len sz ms V g (fun i=>(Cut.sizes len sz ms)[i]?.getD 0) (dF (Cut.sizes len sz ms)) w2 0 (.slice none 0 0) (fun _=>0):=by
  have e1:((w.alloc (.cells #[.int .i64 id,.int .i64 len,.int .i64 sz,.int .i64 ms,.int .i64 V,.int .i64 z,.int .i64 n] 76)).alloc (.cells #[.int .i64 len,.int .i64 sz,.int .i64 ms,.int .i64 V,.slice none 0 0] 101)).heap.size=w.heap.size+2:=by simp
  have hO:=aK (w.alloc (.cells #[.int .i64 id,.int .i64 len,.int .i64 sz,.int .i64 ms,.int .i64 V,.int .i64 z,.int .i64 n] 76)) #[.int .i64 len,.int .i64 sz,.int .i64 ms,.int .i64 V,.slice none 0 0] 101;rw[e1]at hg;have hB:=cq.out;rw[e1]at hB;rw[T5]at hO;refine⟨hg,?_,?_,?_,dE.out,by simpa using h_ _ _,fun k hk=>by simp[Value.ownBlock]at hk,fun i hi=>by omega,fun i j hi=>by omega⟩
  .exact(fa.alloc (by rw[T5];omega) _).trans (hB.mono (by omega))
  .exact(hH.alloc _).below hB (by omega)
  .exact hO.below hB (by omega)
 have HI0:=hide OK;clear OK cq dE hg T5 hH fa hC;go_loopw [24] (fun x wr=>∃(q:Nat) (vB:Value) (pb:Nat->Nat),q<=N/\x= .int .i64 q/\nZ w [.int .i64 id,.int .i64 len,.int .i64 sz,.int .i64 ms,.int .i64 V,.int .i64 z,.int .i64 n] len sz ms V g (fun i=>(Cut.sizes len sz ms)[i]?.getD 0) (dF (Cut.sizes len sz ms)) wr q vB pb) (fun x _=>leftOf N (intOf x).toNat)
 case atStart=>exact⟨0,_,_,by omega,rfl,HI0.out⟩
 case round=>
  obtain⟨q,vB,pb,hq,rfl,hI⟩:=hrel;by_cases ai:q<N
  .have Q3:q<(Cut.sizes len sz ms).length:=by rw[N5.out];exact ai
   have tj:wr.cell? ⟨g,q,none⟩=some (.int .i64 (((Cut.sizes len sz ms)[q]?.getD 0:Nat):Int)):=hI.cnt.cell q _ (qM Q3);have hc20:(Cut.sizes len sz ms)[q]?.getD 0<=20:=hSb.out _ (by rw[List.getElem?_eq_getElem Q3];exact List.getElem_mem Q3);obtain⟨nz,Mv⟩:∃nz,nz=(Cut.sizes len sz ms)[q]?.getD 0+V:=⟨_,rfl⟩;have hnz40:nz<=40:=by omega
   have Mi:Hid (∀v' w2,gD ((wr.drew.alloc (.cells (madeCells #[.slice none 0 0] nz) 28)).alloc (.cells #[.slice (some ⟨wr.heap.size,0,none⟩) nz nz] 25)) w2 25 vB v' ((List.range q).map fun i=>Value.slice (some ⟨pb i,0,none⟩) ((Cut.sizes len sz ms)[i]?.getD 0+V) ((Cut.sizes len sz ms)[i]?.getD 0+V)) [.slice (some ⟨wr.heap.size,0,none⟩) nz nz]->nZ w [.int .i64 id,.int .i64 len,.int .i64 sz,.int .i64 ms,.int .i64 V,.int .i64 z,.int .i64 n] len sz ms V g (fun i=>(Cut.sizes len sz ms)[i]?.getD 0) (dF (Cut.sizes len sz ms)) (w2.setCell ⟨w.heap.size+1,4,none⟩ v') (q+1) v' (fun i=>if i=q then wr.heap.size else pb i)):=fun v' w2 ha=>by
    rw[Mv]at ha;exact hI.step Sg ha
   generalize di:(Cut.sizes len sz ms)[q]?.getD 0=cc at tj hc20 Mv;replace di:=hide di;have hh4:wr.drew.cell? ⟨w.heap.size,4,none⟩=some (.int .i64 V):=hI.head.cell 4 _ rfl;have ho4:wr.drew.cell? ⟨w.heap.size+1,4,none⟩=some vB:=hI.obj.cell 4 _ rfl;have fi:(wr.drew.alloc (.cells (madeCells #[.slice none 0 0] nz) 28)).cell? ⟨w.heap.size,4,none⟩=some (.int .i64 V):=(hI.head.drew.alloc _).cell 4 _ rfl;have Bu:((wr.drew.alloc (.cells (madeCells #[.slice none 0 0] nz) 28)).alloc (.cells #[.slice (some ⟨wr.heap.size,0,none⟩) nz nz] 25)).cell? ⟨w.heap.size,4,none⟩=some (.int .i64 V):=((hI.head.drew.alloc _).alloc _).cell 4 _ rfl;have ho5:(wr.drew.alloc (.cells (madeCells #[.slice none 0 0] nz) 28)).cell? ⟨w.heap.size+1,4,none⟩=some vB:=(hI.obj.drew.alloc _).cell 4 _ rfl;have ho6:((wr.drew.alloc (.cells (madeCells #[.slice none 0 0] nz) 28)).alloc (.cells #[.slice (some ⟨wr.heap.size,0,none⟩) nz nz] 25)).cell? ⟨w.heap.size+1,4,none⟩=some vB:=((hI.obj.drew.alloc _).alloc _).cell 4 _ rfl;have hHI:=hide hI;have ll:Hid (((List.range q).map fun i=>Value.slice (some ⟨pb i,0,none⟩) ((Cut.sizes len sz ms)[i]?.getD 0+V) ((Cut.sizes len sz ms)[i]?.getD 0+V)).length=q):=by show _=_;simp
   have pP:=hide ((hI.own.drew.alloc (.cells (madeCells #[.slice none 0 0] nz) 28)).alloc (.cells #[.slice (some ⟨wr.heap.size,0,none⟩) nz nz] 25));obtain⟨v',w3,ag,bt⟩:=NS (P:=prog) ((wr.drew.alloc (.cells (madeCells #[.slice none 0 0] nz) 28)).alloc (.cells #[.slice (some ⟨wr.heap.size,0,none⟩) nz nz] 25)) 26 26 25 i1 (.slice none 0 0) 24 underlying26 MU hy0 sA sx rfl vB _ pP.out ⟨wr.heap.size+1,0,none⟩ 1 1 [.slice (some ⟨wr.heap.size,0,none⟩) nz nz] rfl (by have:=cell_one_new (wr.drew.alloc (.cells (madeCells #[.slice none 0 0] nz) 28)) (.slice (some ⟨wr.heap.size,0,none⟩) nz nz) 25;simpa using this) (by intro u hu;simp at hu;subst hu;rfl) (by rw[ll.out];simp[maxLen];omega) (by rw[ll.out];omega);obtain⟨av,lv,cv,rfl⟩:∃av lv cv,v'=Value.slice av lv cv:=by obtain⟨a,c,e⟩:=bt.own.shape;exact⟨a,_,c,e⟩
   have ho5':(wr.alloc (.cells (madeCells #[.slice none 0 0] nz) 28)).drew.cell? ⟨w.heap.size+1,4,none⟩=some vB:=ho5;have ho6':((wr.alloc (.cells (madeCells #[.slice none 0 0] nz) 28)).alloc (.cells #[.slice (some ⟨wr.heap.size,0,none⟩) nz nz] 25)).drew.cell? ⟨w.heap.size+1,4,none⟩=some vB:=ho6;have zd:=hide (Mi.out _ w3 bt);have r3:aB w3 w.heap.size 76 _:=bt.other ((hI.head.drew.alloc _).alloc _) (fun e=>by have:=hI.far _ e;omega);have o3:aB w3 (w.heap.size+1) 101 _:=bt.other ((hI.obj.drew.alloc _).alloc _) (fun e=>by have:=hI.far _ e;omega);have Tp:w3.cell? ⟨w.heap.size,4,none⟩=some (.int .i64 V):=r3.cell 4 _ rfl;have ho7:w3.cell? ⟨w.heap.size+1,4,none⟩=some vB:=o3.cell 4 _ rfl;have hf7:w3.frozen? ⟨w.heap.size+1,4,none⟩=false:=o3.frozen 4;have To:(w3.setCell ⟨w.heap.size+1,4,none⟩ (.slice av lv cv)).cell? ⟨w.heap.size,4,none⟩=some (.int .i64 V):=(r3.other (show w.heap.size≠w.heap.size+1 by omega) _).cell 4 _ rfl;replace bt:=hide bt;have mo:IntKind.i64.wrap ((cc:Int)+(V:Int))=(cc:Int)+(V:Int):=aH _ (by omega) (by omega);have Sw:(cc:Int)+(V:Int)=(nz:Int):=by omega
   have Ek:(Instr.makeSlice 25 (.int .i64 ((cc:Int)+(V:Int))) (.int .i64 ((cc:Int)+(V:Int)))).run prog wr.drew= .ok (.slice (some ⟨wr.heap.size,0,none⟩) nz nz) (wr.drew.alloc (.cells (madeCells #[.slice none 0 0] nz) 28)):=by
    rw[Sw];have hr:=run_make (P:=prog) wr.drew 25 28 i0 (.slice none 0 0) underlying25 ix ep .i64 .i64 nz nz (by omega) (by omega) (by rw[cW];omega) (by omega);simp only[Int.toNat_natCast,cJ,Nat.mul_one]at hr;exact hr
   replace Sw:=hide Sw;replace Mv:=hide Mv;replace r3:=hide r3;replace o3:=hide o3;have p_:(0:Int)<=(q:Int):=by omega
   have km:(q:Int)<(N:Int):=by omega
   clear hI pP;go_wp2_with fail
   refine wp_region_held_drew (S:=fun w'=>w'.cell? ⟨w.heap.size,4,none⟩=some (.int .i64 V)) (by kernel_rfl) hh4 (fun kh=>?_);refine wpAnyH_take (i:=0) (v:=?v1) rfl (by kernel_rfl) (by kernel_rfl) (by kernel_rfl) (fun _ _ _ h=>h) (Or.inl ⟨by rfl,?sA⟩) (by assumption) ?rest1
   case sA=>(intro wz bz;go_simp;try (with_reducible rfl))
   try go_frame
   refine wpAnyH_take (i:=1) (v:=?v2) rfl (by kernel_rfl) (by kernel_rfl) (by kernel_rfl) (fun _ _ _ h=>h) (Or.inl ⟨by rfl,?sx⟩) (by assumption) ?rest2
   case sx=>(intro wz bz;go_simp;try (with_reducible rfl))
   try go_frame
   refine wpAnyH_take (i:=2) (v:=?v3) rfl (by kernel_rfl) (by kernel_rfl) (by kernel_rfl) (fun _ _ _ h=>h) (Or.inl ⟨by rfl,?CI⟩) (by assumption) ?rest3
   case CI=>(intro wz bz;go_simp;try (with_reducible rfl))
   try go_frame
   refine wpAnyH_take (i:=3) (v:=?v4) rfl (by kernel_rfl) (by kernel_rfl) (by kernel_rfl) (fun _ _ _ h=>h) (Or.inl ⟨by rfl,?CE⟩) (by assumption) ?rest4
   case CE=>(intro wz bz;go_simp;try (with_reducible rfl))
   try go_frame
   refine wpAnyH_take (i:=5) (v:=?v5) rfl (by kernel_rfl) (by kernel_rfl) (by kernel_rfl) (fun _ _ _ h=>h) (Or.inl ⟨by rfl,?CC⟩) (by assumption) ?rest5
   case CC=>(intro wz bz;go_simp;try (with_reducible rfl))
   try go_frame
   refine wpAnyH_take (i:=6) (v:=?v6) rfl (by kernel_rfl) (by kernel_rfl) (by kernel_rfl) (fun _ _ _ h=>h) (Or.inl ⟨by rfl,?Cz⟩) (by assumption) ?rest6
   case Cz=>(intro wz bz;go_simp;try (with_reducible rfl))
   try go_frame
   refine wpAnyH_take (i:=7) (v:=?v7) rfl (by kernel_rfl) (by kernel_rfl) (by kernel_rfl) (fun _ _ _ h=>h) (Or.inl ⟨by rfl,?Cy⟩) (by assumption) ?rest7
   case Cy=>(intro wz bz;go_simp;try (with_reducible rfl))
   try go_frame
   refine wpAnyH_take (i:=8) (v:=?v8) rfl (by kernel_rfl) (by kernel_rfl) (by kernel_rfl) (fun _ _ _ h=>h) (Or.inl ⟨by rfl,?Cw⟩) (by assumption) ?rest8
   case Cw=>(intro wz bz;have eR:=bz;go_simp;try (with_reducible rfl))
   try go_frame
   refine wpAnyH_take (i:=9) (v:=?v9) rfl (by kernel_rfl) (by kernel_rfl) (by kernel_rfl) (fun _ _ _ h=>h) (Or.inl ⟨by rfl,?Cv⟩) (by assumption) ?rest9
   case Cv=>(intro wz bz;go_simp;try (with_reducible rfl))
   try go_frame
   refine wpAnyH_ready (rs:= [4,10]) (by kernel_rfl) (by simp) ?_;refine AllReadyH.cons rfl (fun K hK=>?_) ?_
   .go_simp;refine hK.out _ _ kh (fun oX=>?_);clear hK K;try go_frame
    refine wpAnyH_ready (rs:= [10]) (by kernel_rfl) (by simp) ?_;refine AllReadyH.cons rfl (fun K hK=>?_) ?_
    .go_simp;refine hK.out _ _ fi (fun ur=>?_);clear hK K;try go_frame
     refine wpAnyH_ready (rs:= [11]) (by kernel_rfl) (by simp) ?_;refine AllReadyH.cons rfl (fun K hK=>?_) ?_
     .go_simp;refine hK.out _ _ Bu (fun Ts=>?_);clear hK K;try go_frame
      refine wpAnyH_ready (rs:= [12]) (by kernel_rfl) (by simp) ?_;refine AllReadyH.cons rfl (fun K hK=>?_) ?_
      .refine zR rfl ?_;refine wp_append_run (.tmp 32) (.tmp 39) 26 _ _ _ rfl rfl rfl ag ?_;refine hK.out _ _ Tp (fun hS4=>?_);clear hK K;try go_frame
       refine wpAnyH_take (i:=13) (v:=?v10) rfl (by kernel_rfl) (by kernel_rfl) (by kernel_rfl) (fun _ _ _ h=>h) (Or.inl ⟨by rfl,?qS⟩) (by assumption) ?rest10
       case qS=>(intro wz bz;go_simp;try (with_reducible rfl))
       try go_frame
       refine wpAnyH_take (i:=14) (v:=?v11) rfl (by kernel_rfl) (by kernel_rfl) (by kernel_rfl) (fun _ _ _ h=>h) (Or.inl ⟨by rfl,?qv⟩) (by assumption) ?rest11
       case qv=>(intro wz bz;go_simp;try (with_reducible rfl))
       try go_frame
       refine wpAnyH_ready (rs:= [15]) (by kernel_rfl) (by simp) ?_;refine AllReadyH.cons rfl (fun K hK=>?_) ?_
       .go_simp;refine hK.out _ _ To (fun Bx=>?_);clear hK K;try go_frame
        refine wpAnyH_done (by kernel_rfl) ?_ _;go_wp2;go_roundw
        case rel=>exact⟨q+1,_,_,by omega,by go_num,zd.out⟩
        case measure=>refine aW ?_ ?_<;>simp only[intOf]<;>omega
       exact AllReadyH.nil
      exact AllReadyH.nil
     exact AllReadyH.nil
    exact AllReadyH.nil
   refine AllReadyH.cons rfl (fun K hK=>?_) ?_
   .go_simp;refine hK.out _ _ fi (fun oX=>?_);clear hK K;try go_frame
    refine wpAnyH_ready (rs:= [4,11]) (by kernel_rfl) (by simp) ?_;refine AllReadyH.cons rfl (fun K hK=>?_) ?_
    .go_simp;refine hK.out _ _ oX (fun ur=>?_);clear hK K;try go_frame
     refine wpAnyH_ready (rs:= [11]) (by kernel_rfl) (by simp) ?_;refine AllReadyH.cons rfl (fun K hK=>?_) ?_
     .go_simp;refine hK.out _ _ Bu (fun Ts=>?_);clear hK K;try go_frame
      refine wpAnyH_ready (rs:= [12]) (by kernel_rfl) (by simp) ?_;refine AllReadyH.cons rfl (fun K hK=>?_) ?_
      .refine zR rfl ?_;refine wp_append_run (.tmp 32) (.tmp 39) 26 _ _ _ rfl rfl rfl ag ?_;refine hK.out _ _ Tp (fun hS4=>?_);clear hK K;try go_frame
       refine wpAnyH_take (i:=13) (v:=?v12) rfl (by kernel_rfl) (by kernel_rfl) (by kernel_rfl) (fun _ _ _ h=>h) (Or.inl ⟨by rfl,?qu⟩) (by assumption) ?rest12
       case qu=>(intro wz bz;go_simp;try (with_reducible rfl))
       try go_frame
       refine wpAnyH_take (i:=14) (v:=?v13) rfl (by kernel_rfl) (by kernel_rfl) (by kernel_rfl) (fun _ _ _ h=>h) (Or.inl ⟨by rfl,?xr⟩) (by assumption) ?rest13
       case xr=>(intro wz bz;go_simp;try (with_reducible rfl))
       try go_frame
       refine wpAnyH_ready (rs:= [15]) (by kernel_rfl) (by simp) ?_;refine AllReadyH.cons rfl (fun K hK=>?_) ?_
       .go_simp;refine hK.out _ _ To (fun Bx=>?_);clear hK K;try go_frame
        refine wpAnyH_done (by kernel_rfl) ?_ _;go_wp2;go_roundw
        case rel=>exact⟨q+1,_,_,by omega,by go_num,zd.out⟩
        case measure=>refine aW ?_ ?_<;>simp only[intOf]<;>omega
       exact AllReadyH.nil
      exact AllReadyH.nil
     exact AllReadyH.nil
    refine AllReadyH.cons rfl (fun K hK=>?_) ?_
    .go_simp;refine hK.out _ _ Bu (fun ur=>?_);clear hK K;try go_frame
     refine wpAnyH_ready (rs:= [4]) (by kernel_rfl) (by simp) ?_;refine AllReadyH.cons rfl (fun K hK=>?_) ?_
     .go_simp;refine hK.out _ _ ur (fun Ts=>?_);clear hK K;try go_frame
      refine wpAnyH_ready (rs:= [12]) (by kernel_rfl) (by simp) ?_;refine AllReadyH.cons rfl (fun K hK=>?_) ?_
      .refine zR rfl ?_;refine wp_append_run (.tmp 32) (.tmp 39) 26 _ _ _ rfl rfl rfl ag ?_;refine hK.out _ _ Tp (fun hS4=>?_);clear hK K;try go_frame
       refine wpAnyH_take (i:=13) (v:=?v14) rfl (by kernel_rfl) (by kernel_rfl) (by kernel_rfl) (fun _ _ _ h=>h) (Or.inl ⟨by rfl,?xp⟩) (by assumption) ?rest14
       case xp=>(intro wz bz;go_simp;try (with_reducible rfl))
       try go_frame
       refine wpAnyH_take (i:=14) (v:=?v15) rfl (by kernel_rfl) (by kernel_rfl) (by kernel_rfl) (fun _ _ _ h=>h) (Or.inl ⟨by rfl,?xo⟩) (by assumption) ?rest15
       case xo=>(intro wz bz;go_simp;try (with_reducible rfl))
       try go_frame
       refine wpAnyH_ready (rs:= [15]) (by kernel_rfl) (by simp) ?_;refine AllReadyH.cons rfl (fun K hK=>?_) ?_
       .go_simp;refine hK.out _ _ To (fun Bx=>?_);clear hK K;try go_frame
        refine wpAnyH_done (by kernel_rfl) ?_ _;go_wp2;go_roundw
        case rel=>exact⟨q+1,_,_,by omega,by go_num,zd.out⟩
        case measure=>refine aW ?_ ?_<;>simp only[intOf]<;>omega
       exact AllReadyH.nil
      exact AllReadyH.nil
     exact AllReadyH.nil
    exact AllReadyH.nil
   exact AllReadyH.nil
  .have e:q=N:=by omega
   subst e;have hHI:=hide hI;clear hI;go_wp2;go_ret;exact⟨g,vB,pb,rfl,hHI.out⟩
end
