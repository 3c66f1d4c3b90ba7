import Derived.Test.YtmfpiodlecapiaaGreatDoorJ23
import Derived.Shelf.Strings.Builder1
import Derived.Lib.OthersKept
set_option maxHeartbeats 4000000
set_option maxRecDepth 100000
namespace Go.Proofs.YtmfpiodlecapiaaGreatDoor
open Go.Proofs.Tryz
section
open Go.RowKit Go.Deep
attribute [local go_sem↓] Go.wp_at_zero Go.wp_at_succ
variable{R:Bool->World->Prop}{R4:World->Prop}
theorem tV(w:World){r:Nat}{es:Array MapEntry}{clock:Nat}(hr:w.heap[r]? =some (.map es clock))(ty:TypeId):(Builtin.len_ #[80] ty #[.map (some r)]).run prog w= .ok (.int .i64 es.size) w:=by
 have hg:(getObj r).run prog w= .ok (.map es clock) w:=by simp[getObj,Sem.run,hr]
 simp[Builtin.len_,run_underlying underlying80,hg,goInt]
theorem zJ{es:Array MapEntry}{l:List (Nat×Nat)}(h:kD es.toList l):es.size=l.length:=by
 have:=congrArg List.length h;simpa using this
def iI(w:World)(mr:Nat)(es:Array MapEntry)(clock id ob:Nat):World:= {w with heap:=w.heap.setIfInBounds mr (.map (es.push ⟨.int .i64 (id:Int),.pointer (some ⟨ob,0,none⟩),clock⟩) (clock+1))}
theorem YG(mr ob id len sz ms V z n s gb go g_ clock:Nat)(es:Array MapEntry)(l:List (Nat×Nat))(w:World)(cA:w.heap[mr]? =some (.map es clock))(hm:kD es.toList l)(hg:getM l id=some ob)
  (pj:∀w1,Below w.heap.size w w1->Calls prog 83 #[.pointer (some ⟨ob,0,none⟩),dU id len sz ms V z n,.slice (some ⟨gb,go,none⟩) s g_] w1 fun e w'=>(∃b,e= .returned (.bool b)/\R b w')\/(e= .panicked [{v:=bq 4,recovered:=false}]/\R4 w')):
  Calls prog 41 #[.map (some mr),dU id len sz ms V z n,.slice (some ⟨gb,go,none⟩) s g_] w fun e w'=>(∃b,e= .returned (.bool b)/\R b w')\/(e= .panicked [{v:=bq 4,recovered:=false}]/\R4 w'):=by
 unfold dU at*;have HA:=hide pj;clear pj;have pA:mr<w.heap.size:=(Array.getElem?_eq_some_iff.1 cA).1;have fa:Hid (Below w.heap.size w (w.alloc (.cells #[.int .i64 id,.int .i64 len,.int .i64 sz,.int .i64 ms,.int .i64 V,.int .i64 z,.int .i64 n] 76))):=(Below.refl _ _).alloc (Nat.le_refl _) _;have hl:(Instr.lookup 80 (.map (some mr)) (.int .i64 (id:Int)) false).run prog (w.alloc (.cells #[.int .i64 id,.int .i64 len,.int .i64 sz,.int .i64 ms,.int .i64 V,.int .i64 z,.int .i64 n] 76))= .ok (.pointer (some ⟨ob,0,none⟩)) (w.alloc (.cells #[.int .i64 id,.int .i64 len,.int .i64 sz,.int .i64 ms,.int .i64 V,.int .i64 z,.int .i64 n] 76)):=by
  have:=tT (w.alloc (.cells #[.int .i64 id,.int .i64 len,.int .i64 sz,.int .i64 ms,.int .i64 V,.int .i64 z,.int .i64 n] 76)) (r:=mr) (es:=es) (clock:=clock) (id:=id) (l:=l) (by rw[blk_alloc_lt _ _ _ pA];exact cA) hm;rw[hg]at this;exact this
 clear cA hm hg;go_enter func41,ntmps41;go_wp2_with fail
 go_at_call 83
 refine(HA.out _ fa.out).mono ?_;rintro _ w3 (⟨b,rfl,hR⟩|⟨rfl,hR⟩)
 .replace hR:=hide hR;go_wp2;go_ret;exact .inl ⟨b,rfl,hR.out⟩
 .exact⟨rfl,.inr ⟨rfl,hR⟩⟩
theorem RX(mr id len sz ms V z n s gb go g_ clock N:Nat)(hl:len<=2000)(h1:1<=sz)(h2:sz<=16)(h3:1<=ms)(h4:ms<=20)(h5:V<=20)(hN:Hid (Cut.blocks (Cut.pieces len sz) ms=N))(Aa:N<=256)(es:Array MapEntry)(l:List (Nat×Nat))(w:World)(cA:w.heap[mr]? =some (.map es clock))(hm:kD es.toList l)(hg:getM l id=none)(hl8:l.length<8)
  (pj:∀wA wB g vB pb,Below w.heap.size w wA->nZ wA [.int .i64 id,.int .i64 len,.int .i64 sz,.int .i64 ms,.int .i64 V,.int .i64 z,.int .i64 n] len sz ms V g (fun i=>(Cut.sizes len sz ms)[i]?.getD 0) (dF (Cut.sizes len sz ms)) wB N vB pb->wB.heap[mr]? =some (.map es clock)->Calls prog 83 #[.pointer (some ⟨wA.heap.size+1,0,none⟩),dU id len sz ms V z n,.slice (some ⟨gb,go,none⟩) s g_] (iI wB mr es clock id (wA.heap.size+1)) fun e w'=>(∃b,e= .returned (.bool b)/\R b w')\/(e= .panicked [{v:=bq 4,recovered:=false}]/\R4 w')):
  Calls prog 41 #[.map (some mr),dU id len sz ms V z n,.slice (some ⟨gb,go,none⟩) s g_] w fun e w'=>(∃b,e= .returned (.bool b)/\R b w')\/(e= .panicked [{v:=bq 4,recovered:=false}]/\R4 w'):=by
 have HA:=hide pj;clear pj;have pA:mr<w.heap.size:=(Array.getElem?_eq_some_iff.1 cA).1;have fa:Hid (Below w.heap.size w (w.alloc (.cells #[.int .i64 id,.int .i64 len,.int .i64 sz,.int .i64 ms,.int .i64 V,.int .i64 z,.int .i64 n] 76))):=(Below.refl _ _).alloc (Nat.le_refl _) _;have hH:=aK w #[.int .i64 id,.int .i64 len,.int .i64 sz,.int .i64 ms,.int .i64 V,.int .i64 z,.int .i64 n] 76;have YZ:(w.alloc (.cells #[.int .i64 id,.int .i64 len,.int .i64 sz,.int .i64 ms,.int .i64 V,.int .i64 z,.int .i64 n] 76)).heap[mr]? =some (.map es clock):=by rw[blk_alloc_lt _ _ _ pA];exact cA
 have ua:(Instr.lookup 80 (.map (some mr)) (.int .i64 (id:Int)) false).run prog (w.alloc (.cells #[.int .i64 id,.int .i64 len,.int .i64 sz,.int .i64 ms,.int .i64 V,.int .i64 z,.int .i64 n] 76))= .ok (.pointer none) (w.alloc (.cells #[.int .i64 id,.int .i64 len,.int .i64 sz,.int .i64 ms,.int .i64 V,.int .i64 z,.int .i64 n] 76)):=by
  have:=tT (w.alloc (.cells #[.int .i64 id,.int .i64 len,.int .i64 sz,.int .i64 ms,.int .i64 V,.int .i64 z,.int .i64 n] 76)) (r:=mr) (es:=es) (clock:=clock) (id:=id) (l:=l) YZ hm;rw[hg]at this;exact this
 have hln:=tV (w.alloc (.cells #[.int .i64 id,.int .i64 len,.int .i64 sz,.int .i64 ms,.int .i64 V,.int .i64 z,.int .i64 n] 76)) YZ 3;have mL:(es.size:Int)<8:=by rw[zJ hm];omega
 have hC:Hid (∃g,True):=⟨0,trivial⟩;have hNw:=hide (zH id len sz ms V z n N hl h1 h2 h3 h4 h5 hN Aa (w.alloc (.cells #[.int .i64 id,.int .i64 len,.int .i64 sz,.int .i64 ms,.int .i64 V,.int .i64 z,.int .i64 n] 76)));have eV:(w.alloc (.cells #[.int .i64 id,.int .i64 len,.int .i64 sz,.int .i64 ms,.int .i64 V,.int .i64 z,.int .i64 n] 76)).heap.size=w.heap.size+1:=by simp
 have Hlay:Hid (∀wB:World,wB.heap[mr]? =some (.map es clock)->(Instr.mapUpdate 80 (.map (some mr)) (.int .i64 (id:Int)) (.pointer (some ⟨w.heap.size+1+1,0,none⟩))).run prog wB= .ok () (iI wB mr es clock id (w.heap.size+1+1))):=fun wB hB=>Xq wB _ hB hm hg;have Hhd:Hid (∀wB:World,Below (w.alloc (.cells #[.int .i64 id,.int .i64 len,.int .i64 sz,.int .i64 ms,.int .i64 V,.int .i64 z,.int .i64 n] 76)).heap.size (w.alloc (.cells #[.int .i64 id,.int .i64 len,.int .i64 sz,.int .i64 ms,.int .i64 V,.int .i64 z,.int .i64 n] 76)) wB->aB wB w.heap.size 76 [.int .i64 id,.int .i64 len,.int .i64 sz,.int .i64 ms,.int .i64 V,.int .i64 z,.int .i64 n]):=fun wB hB=>hH.below hB (by rw[eV];omega);have Hmp:Hid (∀wB:World,Below (w.alloc (.cells #[.int .i64 id,.int .i64 len,.int .i64 sz,.int .i64 ms,.int .i64 V,.int .i64 z,.int .i64 n] 76)).heap.size (w.alloc (.cells #[.int .i64 id,.int .i64 len,.int .i64 sz,.int .i64 ms,.int .i64 V,.int .i64 z,.int .i64 n] 76)) wB->wB.heap[mr]? =some (.map es clock)):=fun wB hB=>by rw[hB.block mr (by rw[eV];omega)];exact YZ
 have Hrw:Hid (∀wB:World,aB wB w.heap.size 76 [.int .i64 id,.int .i64 len,.int .i64 sz,.int .i64 ms,.int .i64 V,.int .i64 z,.int .i64 n]->aB (iI wB mr es clock id (w.heap.size+1+1)) w.heap.size 76 [.int .i64 id,.int .i64 len,.int .i64 sz,.int .i64 ms,.int .i64 V,.int .i64 z,.int .i64 n]):=fun wB hr=>by
  refine hr.of_block ?_;simp only[iI];rw[Array.getElem?_setIfInBounds_ne (by omega)]
 unfold dU at*;clear cA YZ;go_enter func41,ntmps41;go_wp2_with first|(go_at_call 81;refine(kK _ _).mono ?_;rintro _ _ ⟨rfl,rfl⟩)|(go_at_call 82;refine hNw.out.mono ?_;rintro _ w2 ⟨g,vB,pb,rfl,hI⟩;have Rs:=Hmp.out w2 hI.below;have hrB:=Hhd.out w2 hI.below;have hly:=Hlay.out w2 Rs;have c0:=hrB.cell 0 _ rfl;have WH:=Hrw.out w2 hrB;have d0:=WH.cell 0 _ rfl;have d1:=WH.cell 1 _ rfl;have d2:=WH.cell 2 _ rfl;have d3:=WH.cell 3 _ rfl;have d4:=WH.cell 4 _ rfl;have d5:=WH.cell 5 _ rfl;have d6:=WH.cell 6 _ rfl;have hAd:=hide (HA.out _ w2 g vB pb fa.out hI Rs);rw[eV]at hAd;replace hI:=hide hI;rw[eV])
 go_at_call 83
 refine hAd.out.mono ?_;rintro _ w3 (⟨b,rfl,hR⟩|⟨rfl,hR⟩)
 .replace hR:=hide hR;go_wp2;go_ret;exact .inl ⟨b,rfl,hR.out⟩
 .exact⟨rfl,.inr ⟨rfl,hR⟩⟩
theorem WA(mr id len sz ms V z n s gb go g_ clock:Nat)(es:Array MapEntry)(l:List (Nat×Nat))(w:World)(cA:w.heap[mr]? =some (.map es clock))(hm:kD es.toList l)(hg:getM l id=none)(hl8:8<=l.length):
  Calls prog 41 #[.map (some mr),dU id len sz ms V z n,.slice (some ⟨gb,go,none⟩) s g_] w fun e w'=>e= .panicked [{v:=bq 5,recovered:=false}]/\Below w.heap.size w w':=by
 unfold dU;have pA:mr<w.heap.size:=(Array.getElem?_eq_some_iff.1 cA).1;have fa:Hid (Below w.heap.size w (w.alloc (.cells #[.int .i64 id,.int .i64 len,.int .i64 sz,.int .i64 ms,.int .i64 V,.int .i64 z,.int .i64 n] 76))):=(Below.refl _ _).alloc (Nat.le_refl _) _;have YZ:(w.alloc (.cells #[.int .i64 id,.int .i64 len,.int .i64 sz,.int .i64 ms,.int .i64 V,.int .i64 z,.int .i64 n] 76)).heap[mr]? =some (.map es clock):=by rw[blk_alloc_lt _ _ _ pA];exact cA
 have ua:(Instr.lookup 80 (.map (some mr)) (.int .i64 (id:Int)) false).run prog (w.alloc (.cells #[.int .i64 id,.int .i64 len,.int .i64 sz,.int .i64 ms,.int .i64 V,.int .i64 z,.int .i64 n] 76))= .ok (.pointer none) (w.alloc (.cells #[.int .i64 id,.int .i64 len,.int .i64 sz,.int .i64 ms,.int .i64 V,.int .i64 z,.int .i64 n] 76)):=by
  have:=tT (w.alloc (.cells #[.int .i64 id,.int .i64 len,.int .i64 sz,.int .i64 ms,.int .i64 V,.int .i64 z,.int .i64 n] 76)) (r:=mr) (es:=es) (clock:=clock) (id:=id) (l:=l) YZ hm;rw[hg]at this;exact this
 have hln:=tV (w.alloc (.cells #[.int .i64 id,.int .i64 len,.int .i64 sz,.int .i64 ms,.int .i64 V,.int .i64 z,.int .i64 n] 76)) YZ 3;have mL:¬(es.size:Int)<8:=by rw[zJ hm];omega
 clear cA YZ;go_enter func41,ntmps41;go_wp2_with (go_at_call 81;refine(jr _ _).mono ?_;rintro _ _ ⟨rfl,rfl⟩)
 exact⟨rfl,rfl,fa.out⟩
end
section
open Go.RowKit Go.Deep
variable{b ob g:Nat}{v:Value}
structure OD where
 bb:Nat
 cap:Nat
 pb:Nat->Nat
 pa:Nat->Nat->Option Addr
 pl:Nat->Nat->Nat
 pc:Nat->Nat->Nat
def slices(d:OD)(z n:Nat):List Value:=(List.range n).map fun i=>Value.slice (d.pa z i) (d.pl z i) (d.pc z i)
structure jU(w:World)(F:Nat->Prop)(ob:Nat)(o:gy)(d:OD):Prop where
 row:dP w ob o.len o.sz o.ms o.V d.bb o.oj.N d.cap
 bbr:∃L,aB w d.bb 25 L
 cell:∀z,z<o.oj.N->w.cell? ⟨d.bb,z,none⟩=some (.slice (some ⟨d.pb z,0,none⟩) (o.oj.K z+o.V) (o.oj.K z+o.V))
 mY:∀z,z<o.oj.N->aB w (d.pb z) 28 (slices d z (o.oj.K z+o.V))
 no:∀z n,z<o.oj.N->n<o.oj.K z+o.V->o.ct z n=none->d.pa z n=none/\d.pl z n=0/\d.pc z n=0
 has:∀z n q,z<o.oj.N->n<o.oj.K z+o.V->o.ct z n=some q->∃g l,d.pa z n=some ⟨g,0,none⟩/\aB w g 5 (bO l)/\d.pl z n=o.sz/\l.length=d.pc z n/\o.sz<=d.pc z n/\l.take o.sz=q/\(∀x∈l,x<256)/\F g
 inj:∀z z',z<o.oj.N->z'<o.oj.N->d.pb z=d.pb z'->z=z'
 fo:F ob
 fb:F d.bb
 fp:∀z,z<o.oj.N->F (d.pb z)
theorem dz{w w':World}{i:Nat}(h:w.cell? ⟨b,i,none⟩=some v)(e:w'.heap[b]? =w.heap[b]?):w'.cell? ⟨b,i,none⟩=some v:=by
 rw[<-h];exact World.cell?_of_block e
theorem jU.same{w w':World}{F:Nat->Prop}{o:gy}{d:OD}(h:jU w F ob o d)(hk:∀b,F b->w'.heap[b]? =w.heap[b]?):jU w' F ob o d:=by
 obtain⟨L,hL⟩:=h.bbr;refine⟨?_,⟨L,hL.of_block (hk _ h.fb)⟩,fun z hz=>dz (h.cell z hz) (hk _ h.fb),fun z hz=>(h.mY z hz).of_block (hk _ (h.fp z hz)),h.no,fun z n q hz hn hq=>?_,h.inj,h.fo,h.fb,h.fp⟩
 .have:=h.row;unfold dP at*;rw[hk _ h.fo];exact this
 .obtain⟨g,l,e1,e2,e3⟩:=h.has z n q hz hn hq;exact⟨g,l,e1,e2.of_block (hk _ e3.2.2.2.2.2),e3⟩
theorem jU.wide{w:World}{F F':Nat->Prop}{o:gy}{d:OD}(h:jU w F ob o d)(hf:∀b,F b->F' b):jU w F' ob o d:=
 ⟨h.row,h.bbr,h.cell,h.mY,h.no,fun z n q hz hn hq=>by
  obtain⟨g,l,e1,e2,e3,e4,e5,e6,e7,e8⟩:=h.has z n q hz hn hq;exact⟨g,l,e1,e2,e3,e4,e5,e6,e7,hf _ e8⟩,h.inj,hf _ h.fo,hf _ h.fb,fun z hz=>hf _ (h.fp z hz)⟩
def OD.put(d:OD)(z n g s c:Nat):OD:= {d with pa:=fun z' n'=>if z'=z/\n'=n then some ⟨g,0,none⟩else d.pa z' n',pl:=fun z' n'=>if z'=z/\n'=n then s else d.pl z' n',pc:=fun z' n'=>if z'=z/\n'=n then c else d.pc z' n'}
theorem jU.more{w w':World}{F:Nat->Prop}{o:gy}{d:OD}(h:jU w F ob o d){z n c:Nat}{q:List Nat}(hz:z<o.oj.N)(hn:n<o.oj.K z+o.V)(hq:q.length=o.sz)(Mq:∀x∈q,x<256)(hc:o.sz<=c)
  (cj:aB w' g 5 (bO (q++List.replicate (c-o.sz) 0)))(Mt:aB w' (d.pb z) 28 ((slices d z (o.oj.K z+o.V)).set n (.slice (some ⟨g,0,none⟩) o.sz c)))
  (hk:Kp (fun b=>b=d.pb z) w w'):jU w' (fun b=>F b\/b=g) ob (o.put z n q) (d.put z n g o.sz c):=by
 have hpr:=h.mY z hz;have nX:∀{b:Nat} {e:TypeId} {L:List Value},aB w b e L->e≠28->¬b=d.pb z:=fun h1 h2 h3=>by
  subst h3;exact h2 (h1.unique hpr).1
 have keep:∀{b:Nat} {e:TypeId} {L:List Value},aB w b e L->e≠28->w'.heap[b]? =w.heap[b]? :=fun h1 h2=>hk.block _ h1.lt (nX h1 h2);obtain⟨L,hL⟩:=h.bbr;have fH:aB w ob 101 [.int .i64 o.len,.int .i64 o.sz,.int .i64 o.ms,.int .i64 o.V,.slice (some ⟨d.bb,0,none⟩) o.oj.N d.cap]:=h.row;refine⟨?_,⟨L,hL.of_block (keep hL (by decide))⟩,fun z' js=>dz (h.cell z' js) (keep hL (by decide)),fun z' js=>?_,fun z' n' js kv e=>?_,fun z' n' q' js kv e=>?_,h.inj,.inl h.fo,.inl h.fb,fun z' js=>.inl (h.fp z' js)⟩
 .have:=keep fH (by decide);have h0:=h.row;unfold dP at*;rw[this];exact h0
 .by_cases e:z'=z
  .subst e;refine Eq.trans Mt ?_;congr 2
   congr 1
   apply List.ext_getElem?;intro i;unfold slices;by_cases hi:n=i
   .subst hi;rw[List.getElem?_set_self (by simpa using hn)];have kq:n<(o.put z' n q).oj.K z'+(o.put z' n q).V:=hn;simp[kq,OD.put]
   .rw[List.getElem?_set_ne hi];by_cases EE:i<o.oj.K z'+o.V
    .have Sf:i<(o.put z' n q).oj.K z'+(o.put z' n q).V:=EE;simp[EE,Sf,OD.put,Ne.symm hi]
    .have Sf:¬i<(o.put z' n q).oj.K z'+(o.put z' n q).V:=EE;simp[EE,Sf]
  .have h1:=(h.mY z' js).of_block (hk.block _ (h.mY z' js).lt (fun e2=>e (h.inj _ _ js hz e2)));have e2:slices (d.put z n g o.sz c) z' ((o.put z n q).oj.K z'+(o.put z n q).V)=slices d z' (o.oj.K z'+o.V):=by
    unfold slices;refine List.map_congr_left fun i _=>?_;simp[OD.put,e]
   show aB w' (d.pb z') _ _;rw[e2];exact h1
 .simp only[gy.put,OD.put]at e⊢;by_cases e2:z'=z/\n'=n
  .rw[if_pos e2]at e;cases e
  .rw[if_neg e2]at e;simp only[if_neg e2];exact h.no z' n' js kv e
 .simp only[gy.put,OD.put]at e⊢;by_cases e2:z'=z/\n'=n
  .rw[if_pos e2]at e;obtain rfl:=Option.some.inj e;simp only[if_pos e2];refine⟨g,_,rfl,cj,trivial,?_,hc,?_,fun x hx=>?_,.inr rfl⟩
   .simp[hq];omega
   .rw[List.take_append_of_le_length (by omega),List.take_of_length_le (by omega)]
   .rcases List.mem_append.1 hx with hx|hx
    .exact Mq x hx
    .rw[(List.mem_replicate.1 hx).2];omega
  .rw[if_neg e2]at e;simp only[if_neg e2];obtain⟨g',l,e1,e3,e4,e5,e6,e7,e8,e9⟩:=h.has z' n' q' js kv e;exact⟨g',l,e1,e3.of_block (keep e3 (by decide)),e4,e5,e6,e7,e8,.inl e9⟩
def foot(ob N:Nat)(d:OD)(b:Nat):Prop:=b=ob\/b=d.bb\/∃z,z<N/\b=d.pb z
theorem jU.fresh{w wB:World}{len sz ms V:Nat}(ok:(gy.bare len sz ms V).oj.Ok){So L:List Value}{vB:Value}{pb:Nat->Nat}(h:nZ w So len sz ms V g (fun i=>(Cut.sizes len sz ms)[i]?.getD 0) L wB (gy.bare len sz ms V).oj.N vB pb):
  ∃d,jU wB (foot (w.heap.size+1) (gy.bare len sz ms V).oj.N d) (w.heap.size+1) (gy.bare len sz ms V) d/\∀b,foot (w.heap.size+1) (gy.bare len sz ms V).oj.N d b->w.heap.size<=b:=by
 have TX:=ok.N1;obtain⟨bb,cap,cur,rfl,hr,_,_,_,ht⟩:=h.own.open' (by simp;omega);have hlen:((List.range (gy.bare len sz ms V).oj.N).map fun i=>Value.slice (some ⟨pb i,0,none⟩) ((Cut.sizes len sz ms)[i]?.getD 0+V) ((Cut.sizes len sz ms)[i]?.getD 0+V)).length=(gy.bare len sz ms V).oj.N:=by simp
 refine⟨⟨bb,cap,pb,fun _ _=>none,fun _ _=>0,fun _ _=>0⟩,⟨?_,⟨cur,hr⟩,fun z hz=>hr.cell _ _ (take_at ht ?_),fun z hz=>?_,fun _ _ _ _ _=>⟨rfl,rfl,rfl⟩,fun z n q _ _ e=>(by cases e),h.inj,.inl rfl,.inr (.inl rfl),fun z hz=>.inr (.inr ⟨z,hz,rfl⟩)⟩,?_⟩
 .have:=h.obj;rw[hlen]at this;exact this
 .rw[List.getElem?_map,List.getElem?_range hz];rfl
 .have:=(h.row z hz).2.1;have e:slices ⟨bb,cap,pb,fun _ _=>none,fun _ _=>0,fun _ _=>0⟩ z ((gy.bare len sz ms V).oj.K z+V)=List.replicate ((Cut.sizes len sz ms)[z]?.getD 0+V) (.slice none 0 0):=by
   unfold slices;show(List.range _).map (fun _=>Value.slice none 0 0)=_;rw[List.map_const',List.length_range];rfl
  show aB wB (pb z) _ (slices _ z ((gy.bare len sz ms V).oj.K z+V));rw[e];exact this
 .rintro b (e|e|⟨z,hz,e⟩)
  .omega
  .have:=h.far bb rfl;have e:b=bb:=e;omega
  .have:=(h.row z hz).1;have e:b=pb z:=e;omega
theorem jU.aside{w w':World}{F:Nat->Prop}{o:gy}{d:OD}(h:jU w F ob o d){X mr clock:Nat}{es:Array MapEntry}{L0:List Value}(hX:aB w X 28 L0)(hm:w.heap[mr]? =some (.map es clock))(hx:∀z,z<o.oj.N->d.pb z≠X)(hk:∀b,F b->b≠X->b≠mr->w'.heap[b]? =w.heap[b]?):jU w' F ob o d:=by
 have nm:∀{b:Nat} {e:TypeId} {L:List Value},aB w b e L->b≠mr:=fun h1 e=>by
  subst e;rw[h1]at hm;cases hm
 have nX:∀{b:Nat} {e:TypeId} {L:List Value},aB w b e L->e≠28->b≠X:=fun h1 h2 h3=>by
  subst h3;exact h2 (h1.unique hX).1
 obtain⟨L,hL⟩:=h.bbr;have fH:aB w ob 101 [.int .i64 o.len,.int .i64 o.sz,.int .i64 o.ms,.int .i64 o.V,.slice (some ⟨d.bb,0,none⟩) o.oj.N d.cap]:=h.row;have kb:=hk _ h.fb (nX hL (by decide)) (nm hL);refine⟨?_,⟨L,hL.of_block kb⟩,fun z hz=>dz (h.cell z hz) kb,fun z hz=>(h.mY z hz).of_block (hk _ (h.fp z hz) (hx z hz) (nm (h.mY z hz))),h.no,fun z n q hz hn hq=>?_,h.inj,h.fo,h.fb,h.fp⟩
 .have h0:=h.row;unfold dP at*;rw[hk _ h.fo (nX fH (by decide)) (nm fH)];exact h0
 .obtain⟨g,l,e1,e2,e3⟩:=h.has z n q hz hn hq;exact⟨g,l,e1,e2.of_block (hk _ e3.2.2.2.2.2 (nX e2 (by decide)) (nm e2)),e3⟩
def IK(e:Nat)(v:Value):Ending:=if e=0 then .returned v else .panicked [{v:=bq e,recovered:=false}]
theorem XC(v:Value):IK 0 v= .returned v:=rfl
theorem XD{e:Nat}(h:e≠0)(v:Value):IK e v= .panicked [{v:=bq e,recovered:=false}]:=by unfold IK;rw[if_neg h]
def Lv0(o:Obj):Prop:=∀e fz,o≠.cells #[] e fz
theorem aB.lv{w:World}{e:TypeId}{L:List Value}(h:aB w b e L)(hL:L≠ []):∃o,w.heap[b]? =some o/\Lv0 o:=
 ⟨_,h,fun e' fz he=>by
  simp only[Obj.cells.injEq]at he;exact hL (by simpa using he.1)⟩
def uS(w:World)(mr:Nat):Prop:=∃es clock,w.heap[mr]? =some (.map es clock)/\es.toList.map (·.born)=List.range clock
theorem uS.same{w w':World}{mr:Nat}(h:uS w mr)(e:w'.heap[mr]? =w.heap[mr]?):uS w' mr:=by
 unfold uS at*;rw[e];exact h
theorem uS.push{w w':World}{mr clock:Nat}{es:Array MapEntry}{k:Value}(h:uS w mr)(hm:w.heap[mr]? =some (.map es clock))(vz:w'.heap[mr]? =some (.map (es.push ⟨k,v,clock⟩) (clock+1))):uS w' mr:=by
 obtain⟨es',clock',h1,h2⟩:=h;rw[hm]at h1;simp only[Option.some.injEq,Obj.map.injEq]at h1;obtain⟨rfl,rfl⟩:=h1;refine⟨_,_,vz,?_⟩;rw[Array.toList_push,List.map_append,h2,List.range_succ];rfl
structure LG(w:World)(F:Nat->Prop)(lb mr:Nat)(st:bC.St)(l:List (Nat×Nat))(A:Nat->OD):Prop where
 XZ:aB w lb 82 [.map (some mr)]
 map:∃es clock,w.heap[mr]? =some (.map es clock)/\kD es.toList l
 ids:l.map (·.1)=st.map (·.1)
 nd:(st.map (·.1)).Nodup
 obj:∀id ob o,getM l id=some ob->bC.get st id=some o->jU w F ob o (A id)
 ok:∀id o,bC.get st id=some o->o.Ok
 sep:∀id id' o o',id≠id'->bC.get st id=some o->bC.get st id'=some o'->∀z z',z<o.oj.N->z'<o'.oj.N->(A id).pb z≠(A id').pb z'
 fl:F lb
 fm:F mr
 lt:∀b,F b->b<w.heap.size
 live:∀b,F b->∃o,w.heap[b]? =some o/\Lv0 o
 born:uS w mr
section
variable {w w':World} {F:Nat->Prop} {lb mr:Nat} {st:bC.St} {l:List (Nat×Nat)} {A:Nat->OD}
theorem LG.same(h:LG w F lb mr st l A)(hk:∀b,F b->w'.heap[b]? =w.heap[b]?):LG w' F lb mr st l A:=
 ⟨h.XZ.of_block (hk _ h.fl),by rw[hk _ h.fm];exact h.map,h.ids,h.nd,fun id ob o h1 h2=>(h.obj id ob o h1 h2).same hk,h.ok,h.sep,h.fl,h.fm,fun b hb=>by
  obtain⟨o,ho,_⟩:=h.live b hb;rw[<-hk b hb]at ho;exact(Array.getElem?_eq_some_iff.1 ho).1,fun b hb=>by rw[hk b hb];exact h.live b hb,h.born.same (hk _ h.fm)⟩
theorem LG.later(h:LG w F lb mr st l A)(hb:Below w.heap.size w w'):LG w' F lb mr st l A:=h.same fun b hF=>hb.block b (h.lt b hF)
theorem Fz:∀{l:List (Nat×Nat)} {st:bC.St},l.map (·.1)=st.map (·.1)->∀id,(getM l id).isSome=(bC.get st id).isSome
 | [],[],_,_=>rfl
 | [],_::_,h,_=>by simp at h
 |_::_,[],h,_=>by simp at h
 |a::l,b::st,h,id=>by
  simp only[List.map_cons,List.cons.injEq]at h;have ih:=Fz h.2 id;unfold getM bC.get at*;simp only[List.find?_cons,h.1];cases (b.1==id)with
  |true=>rfl
  |false=>exact ih
theorem LG.both(h:LG w F lb mr st l A){id:Nat}{o:gy}(ho:bC.get st id=some o):∃ob,getM l id=some ob:=by
 have:=Fz h.ids id;rw[ho]at this;exact Option.isSome_iff_exists.1 this
theorem LG.unk(h:LG w F lb mr st l A){id:Nat}(ho:bC.get st id=Option.none):getM l id=Option.none:=by
 have:=Fz h.ids id;rw[ho]at this;simpa using this
end
end
section
open Go.RowKit Go.Deep
variable{pk:List Nat}
theorem Q_{l:List (Nat×Nat)}{o b:Nat}(h:getM l o=none)(id:Nat):getM (l++ [(o,b)]) id=if id=o then some b else getM l id:=by
 unfold getM at*;rw[List.find?_append];by_cases e:id=o
 .subst e;have h':l.find? (fun x=>x.1==id)=none:=by simpa using h
  simp[h']
 .have h2:(o==id)=false:=by simpa using Ne.symm e
  cases hf:l.find? (fun x=>x.1==id)<;>simp[h2,e]
def jE(pk:List Nat):gy:=gy.bare (bC.lenOf pk) (pk[5]?.getD 0) (pk[6]?.getD 0) (pk[7]?.getD 0)
theorem RB(h:Tx.bT pk):(jE pk).oj.Ok/\pk[8]?.getD 0<(jE pk).oj.N/\pk[9]?.getD 0<(jE pk).oj.K (pk[8]?.getD 0)+pk[7]?.getD 0/\(pk.drop 10).length=pk[5]?.getD 0:=by
 obtain⟨h1,h2,h3,h4,h5,h6,h7,h8,h9,h10⟩:=h;refine⟨⟨h3,h4.1,h4.2,h5.1,h5.2,h6,h7,by simp[jE,gy.oj,gy.bare],fun x hx=>?_⟩,?_,h9,by simp;omega⟩
 .simp only[jE,gy.oj,gy.bare]at hx;rw[(List.mem_replicate.1 hx).2];omega
 .rw[Oj.Wm];exact h8
theorem oj_of{o:gy}(h:bC.lenOf pk=o.len/\pk[5]?.getD 0=o.sz/\pk[6]?.getD 0=o.ms/\pk[7]?.getD 0=o.V):(jE pk).oj=o.oj:=by
 obtain⟨h1,h2,h3,h4⟩:=h;simp[jE,gy.bare,gy.oj,h1,h2,h3,h4]
section
variable {w w':World} {F F':Nat->Prop} {lb mr:Nat} {st:bC.St} {l:List (Nat×Nat)} {A:Nat->OD}
theorem LG.upd(h:LG w F lb mr st l A){id ob X clock clock0:Nat}{es es0:Array MapEntry}{o':gy}{d':OD}{st':bC.St}{l':List (Nat×Nat)}{L0:List Value}(tb:w.heap[mr]? =some (.map es0 clock0))(hm:w'.heap[mr]? =some (.map es clock))(sd:kD es.toList l')(hids:l'.map (·.1)=st'.map (·.1))(vx:(st'.map (·.1)).Nodup)
  (yp:∀i,bC.get st' i=if i=id then some o' else bC.get st i)(hl:∀i,getM l' i=if i=id then some ob else getM l i)(hO:jU w' F' ob o' d')(gw:o'.Ok)(hF:∀b,F b->F' b)
  (hX:aB w X 28 L0\/w.heap.size<=X)(hk:∀b,F b->b≠X->b≠mr->w'.heap[b]? =w.heap[b]?)(hsX:∀i o,i≠id->bC.get st i=some o->∀z,z<o.oj.N->(A i).pb z≠X)(IN:∀i o,i≠id->bC.get st i=some o->∀z z',z<o.oj.N->z'<o'.oj.N->(A i).pb z≠d'.pb z')
  (ai:∀b,F' b->b<w'.heap.size)(lj:∀b,F' b->∃o,w'.heap[b]? =some o/\Lv0 o)(Fp:uS w' mr):LG w' F' lb mr st' l' (fun i=>if i=id then d' else A i):=by
 have Ji:lb≠X/\lb≠mr:=by
  refine⟨fun e=>?_,fun e=>?_⟩
  .rcases hX with hX|hX
   .subst e;exact absurd (h.XZ.unique hX).1 (by decide)
   .have:=h.XZ.lt;omega
  .subst e;have:=h.XZ;unfold aB at this;rw[this]at tb;cases tb
 have hasd:∀i o oi,i≠id->bC.get st i=some o->getM l i=some oi->jU w' F oi o (A i):=fun i o oi hi ho hg=>by
  have h1:=h.obj i oi o hg ho;rcases hX with hX|hX
  .exact h1.aside hX tb (hsX i o hi ho) hk
  .have nm:∀{b:Nat} {e:TypeId} {L:List Value},aB w b e L->b≠mr:=fun h1 e=>by
    subst e;rw[h1]at tb;cases tb
   have key:∀{b:Nat} {e:TypeId} {L:List Value},aB w b e L->F b->w'.heap[b]? =w.heap[b]? :=fun h1 hb=>hk _ hb (by have:=h1.lt;omega) (nm h1);obtain⟨L,hL⟩:=h1.bbr;have fH:aB w oi 101 [.int .i64 o.len,.int .i64 o.sz,.int .i64 o.ms,.int .i64 o.V,.slice (some ⟨(A i).bb,0,none⟩) o.oj.N (A i).cap]:=h1.row;refine⟨?_,⟨L,hL.of_block (key hL h1.fb)⟩,fun z hz=>dz (h1.cell z hz) (key hL h1.fb),fun z hz=>(h1.mY z hz).of_block (key (h1.mY z hz) (h1.fp z hz)),h1.no,fun z n q hz hn hq=>?_,h1.inj,h1.fo,h1.fb,h1.fp⟩
   .have h0:=h1.row;unfold dP at*;rw[key fH h1.fo];exact h0
   .obtain⟨g,l,e1,e2,e3⟩:=h1.has z n q hz hn hq;exact⟨g,l,e1,e2.of_block (key e2 e3.2.2.2.2.2),e3⟩
 refine⟨h.XZ.of_block (hk _ h.fl Ji.1 Ji.2),⟨es,clock,hm,sd⟩,hids,vx,fun i oi o hg ho=>?_,fun i o ho=>?_,fun i i' o1 o2 bd h1 h2 z1 z2 k1 k2=>?_,hF _ h.fl,hF _ h.fm,ai,lj,Fp⟩
 .rw[hl]at hg;rw[yp]at ho;by_cases e:i=id
  .simp only[if_pos e]at hg ho⊢;obtain rfl:=Option.some.inj hg;obtain rfl:=Option.some.inj ho;exact hO
  .simp only[if_neg e]at hg ho⊢;exact(hasd i o oi e ho hg).wide hF
 .rw[yp]at ho;by_cases e:i=id
  .rw[if_pos e]at ho;obtain rfl:=Option.some.inj ho;exact gw
  .rw[if_neg e]at ho;exact h.ok i o ho
 .rw[yp]at h1 h2;by_cases e:i=id
  .have e':i'≠id:=fun e'=>bd (e.trans e'.symm);rw[if_neg e']at h2;rw[if_pos e]at h1;obtain rfl:=Option.some.inj h1;simp only[if_pos e,if_neg e'];exact Ne.symm (IN i' o2 e' h2 z2 z1 k2 k1)
  .rw[if_neg e]at h1;simp only[if_neg e];by_cases e':i'=id
   .rw[if_pos e']at h2;obtain rfl:=Option.some.inj h2;simp only[if_pos e'];exact IN i o1 e h1 z1 z2 k1 k2
   .rw[if_neg e']at h2;simp only[if_neg e'];exact h.sep i i' o1 o2 bd h1 h2 z1 z2 k1 k2
def gF(F:Nat->Prop)(w w':World)(lb mr:Nat)(st:bC.St):Prop:=∃F' l' A',LG w' F' lb mr st l' A'/\(∀b,F' b->F b\/w.heap.size<=b)/\Kp F w w'
theorem add_LG(h:LG w F lb mr st l A)(hp:Tx.bT pk)(eI:∀x∈pk,x<256){gb go g_:Nat}(hc:∀j,j<pk[5]?.getD 0->w.cell? ⟨gb,go+j,none⟩=some (.int .u8 (((pk.drop 10)[j]?.getD 0:Nat):Int))):
  Calls prog 41 #[.map (some mr),zX pk,.slice (some ⟨gb,go,none⟩) (pk[5]?.getD 0) g_] w fun e w'=>
   e=IK (bC.dY st pk).2.2 (.bool (decide ((bC.dY st pk).2.1=1)))/\gF F w w' lb mr (bC.dY st pk).1:=by
 obtain⟨es,clock,cA,sd⟩:=h.map;obtain⟨ok0,hz,hn,hlen⟩:=RB hp;have Fs:∀x∈pk.drop 10,x<256:=fun x hx=>eI x (List.mem_of_mem_drop hx);have dC:1<=pk[5]?.getD 0:=ok0.s1;have eM:pk[5]?.getD 0<=16:=ok0.s2;have stay:∀{w':World},Below w.heap.size w w'->∃F' l' A',LG w' F' lb mr st l' A'/\(∀b,F' b->F b\/w.heap.size<=b)/\Kp F w w':=fun {w'} hb=>⟨F,l,A,h.later hb,fun b hb=>.inl hb,hb.os,hb.tape,hb.output,hb.size,fun k hk _=>hb.block k hk⟩;generalize hr:bC.dY st pk=r;unfold bC.dY at hr;rw[if_pos hp]at hr;cases hg:bC.get st (bC.jg pk)with
 |some o=>
  rw[hg]at hr;obtain⟨ob,fH⟩:=h.both hg;have gw:=h.ok _ o hg;refine(YG (R:=fun b w'=>IK r.2.2 (.bool (decide (r.2.1=1)))= .returned (.bool b)/\∃F' l' A',LG w' F' lb mr r.1 l' A'/\(∀b,F' b->F b\/w.heap.size<=b)/\Kp F w w') (R4:=fun w'=>IK r.2.2 (.bool (decide (r.2.1=1)))= .panicked [{v:=bq 4,recovered:=false}]/\∃F' l' A',LG w' F' lb mr r.1 l' A'/\(∀b,F' b->F b\/w.heap.size<=b)/\Kp F w w') mr ob (bC.jg pk) (bC.lenOf pk) (pk[5]?.getD 0) (pk[6]?.getD 0) (pk[7]?.getD 0) (pk[8]?.getD 0) (pk[9]?.getD 0) (pk[5]?.getD 0) gb go g_ clock es l w cA sd fH (fun w1 hb=>?_)).mono ?_
  .have h1:=h.later hb;have hO:=h1.obj _ ob o fH hg;have cC:=hb.size;have dr:∀j,j<pk[5]?.getD 0->w1.cell? ⟨gb,go+j,none⟩=some (.int .u8 (((pk.drop 10)[j]?.getD 0:Nat):Int)):=fun j hj=>by rw[<-hc j hj];exact hb.cell (bR (hc j hj))
   by_cases mz:bC.lenOf pk=o.len/\pk[5]?.getD 0=o.sz/\pk[6]?.getD 0=o.ms/\pk[7]?.getD 0=o.V
   .simp only[if_pos mz]at hr;have hoj:=oj_of mz;obtain⟨e1,e2,e3,e4⟩:=mz;rw[hoj]at hz hn ok0;rw[e1,e2,e3,e4];rw[e2]at dr hlen dC eM;rw[e4]at hn;cases oy:o.ct (pk[8]?.getD 0) (pk[9]?.getD 0)with
    |none=>
     rw[oy]at hr;obtain⟨n1,n2,n3⟩:=hO.no _ _ hz hn oy;have nF:(slices (A (bC.jg pk)) (pk[8]?.getD 0) (o.oj.K (pk[8]?.getD 0)+o.V))[pk[9]?.getD 0]? =some (.slice none 0 0):=by
      unfold slices;rw[List.getElem?_map,List.getElem?_range hn];simp only[Option.map_some,n1,n2,n3]
     refine(OG ob o.len o.sz o.ms o.V _ o.oj.N _ _ _ _ _ _ o.sz gb go g_ _ (pk.drop 10) hz hn dC (by omega) hlen w1 hO.row (hO.cell _ hz) (hO.mY _ hz) nF dr).mono ?_;rintro e w' ⟨rfl,g,c,k1,k2,_,k4,k5,k6⟩;subst hr;refine .inl ⟨true,rfl,rfl,fun b=>F b\/b=g,l,fun i=>if i=bC.jg pk then(A (bC.jg pk)).put (pk[8]?.getD 0) (pk[9]?.getD 0) g o.sz c else A i,?_⟩;have oe:w1.heap[mr]? =some (.map es clock):=by rw[hb.block mr (Array.getElem?_eq_some_iff.1 cA).1];exact cA
     have Mz:mr≠(A (bC.jg pk)).pb (pk[8]?.getD 0):=fun e=>by
      have:=hO.mY _ hz;rw[<-e]at this;unfold aB at this;rw[this]at oe;cases oe
     have ae:Kp F w w':=⟨k6.os.trans hb.os,k6.tape.trans hb.tape,k6.output.trans hb.output,Nat.le_trans hb.size k6.size,fun b bp cq=>by
      rw[k6.block b (by omega) (fun e=>cq (by rw[e];exact hO.fp _ hz)),hb.block b bp]⟩
     have bd:bO (pk.drop 10++List.replicate (c-o.sz) 0)≠ []:=fun e=>by
      have:=congrArg List.length e;simp[bO]at this;omega
     refine⟨h1.upd (X:=(A (bC.jg pk)).pb (pk[8]?.getD 0)) oe (by rw[k6.block mr (Array.getElem?_eq_some_iff.1 oe).1 Mz];exact oe) sd (by rw[bC.NQ];exact h.ids) (by rw[bC.NQ];exact h.nd) (bC.Yp hg) (fun i=>?_) (hO.more hz hn hlen Fs k2 k4 k5 k6) (gw.put hz hn hlen Fs) (fun b hb=>.inl hb) (.inl (hO.mY _ hz)) (fun b bp cq _=>k6.block b (h1.lt b bp) cq) (fun i o' hi gz z' js=>h1.sep i _ o' o hi gz hg z' _ js hz) (fun i o' hi gz z1 z2 cJ cW=>h1.sep i _ o' o hi gz hg z1 z2 cJ cW) (fun b cU=>?_) (fun b cU=>?_) (h1.born.same (k6.block mr (Array.getElem?_eq_some_iff.1 oe).1 Mz)),fun b cU=>?_,ae⟩
     .by_cases e:i=bC.jg pk
      .rw[if_pos e,e];exact fH
      .rw[if_neg e]
     .rcases cU with cU|rfl
      .have:=h1.lt b cU;have:=k6.size;omega
      .exact k4.lt
     .rcases cU with cU|rfl
      .by_cases e:b=(A (bC.jg pk)).pb (pk[8]?.getD 0)
       .rw[e];refine k5.lv fun e2=>?_;have:=congrArg List.length e2;simp[slices]at this;omega
       .rw[k6.block b (h1.lt b cU) e];exact h1.live b cU
      .exact k4.lv bd
     .rcases cU with cU|rfl
      .exact .inl cU
      .exact .inr (by omega)
    |some q=>
     rw[oy]at hr;obtain⟨g,lq,q1,q2,q3,q4,q5,q6,q7,q8⟩:=hO.has _ _ q hz hn oy;have Mq:=(gw.pc _ _ q oy).2.2;have nF:(slices (A (bC.jg pk)) (pk[8]?.getD 0) (o.oj.K (pk[8]?.getD 0)+o.V))[pk[9]?.getD 0]? =some (.slice (some ⟨g,0,none⟩) o.sz ((A (bC.jg pk)).pc (pk[8]?.getD 0) (pk[9]?.getD 0))):=by
      unfold slices;rw[List.getElem?_map,List.getElem?_range hn];simp only[Option.map_some,q1,q3]
     refine(V5 g _ ob o.len o.sz o.ms o.V _ o.oj.N _ _ _ _ _ _ o.sz gb go g_ _ (pk.drop 10) q hz hn hlen Mq.1 Fs Mq.2 w1 hO.row (hO.cell _ hz) (hO.mY _ hz) nF (fun j hj=>?_) dr).mono ?_
     .rw[Nat.zero_add];have e7:q[j]?.getD 0=lq[j]?.getD 0:=by rw[<-q6,List.getElem?_take_of_lt hj]
      rw[e7];exact q2.cell _ _ (gX (by omega))
     .rintro e w' ⟨rfl,cq⟩;have oE:Below w.heap.size w w':=hb.trans (cq.mono hb.size);by_cases hq:pk.drop 10=q
      .simp only[if_pos hq]at hr⊢;subst hr;exact .inl ⟨false,rfl,rfl,stay oE⟩
      .simp only[if_neg hq]at hr⊢;subst hr;exact .inr ⟨trivial,rfl,stay oE⟩
   .simp only[if_neg mz]at hr;subst hr;refine(RN ob o.len o.sz o.ms o.V _ o.oj.N _ _ _ _ _ _ _ _ gb go _ g_ mz w1 hO.row).mono ?_;rintro e w' ⟨rfl,cq⟩;exact .inr ⟨rfl,rfl,stay (hb.trans (cq.mono hb.size))⟩
  .rintro e w' (⟨b,rfl,h1,h2⟩|⟨rfl,h1,h2⟩)
   iterate 2 (·exact⟨h1.symm,h2⟩)
 |none=>
  rw[hg]at hr;have v_:=h.unk hg;have hll:l.length=st.length:=by have:=congrArg List.length h.ids;simpa using this
  by_cases h8:st.length<8
  .simp only[if_pos h8]at hr;refine(RX (R:=fun b w'=>IK r.2.2 (.bool (decide (r.2.1=1)))= .returned (.bool b)/\∃F' l' A',LG w' F' lb mr r.1 l' A'/\(∀b,F' b->F b\/w.heap.size<=b)/\Kp F w w') (R4:=fun _=>False) mr (bC.jg pk) (bC.lenOf pk) (pk[5]?.getD 0) (pk[6]?.getD 0) (pk[7]?.getD 0) (pk[8]?.getD 0) (pk[9]?.getD 0) (pk[5]?.getD 0) gb go g_ clock (jE pk).oj.N ok0.len ok0.s1 ok0.s2 ok0.m1 ok0.m2 ok0.v (hide (Oj.Wm (jE pk).oj).symm) ok0.N2 es l w cA sd v_ (by omega) (fun wA wB g vB pb hb pd Rs=>?_)).mono ?_
   .obtain⟨d,hO,eJ⟩:=jU.fresh ok0 pd;have hsA:=hb.size;have hsB:=pd.below.size;have pA:mr<w.heap.size:=(Array.getElem?_eq_some_iff.1 cA).1;have hLm:∀b,b≠mr->(iI wB mr es clock (bC.jg pk) (wA.heap.size+1)).heap[b]? =wB.heap[b]? :=fun b h2=>by simp[iI,Ne.symm h2]
    have lP:(iI wB mr es clock (bC.jg pk) (wA.heap.size+1)).heap.size=wB.heap.size:=by simp[iI]
    have hmL:(iI wB mr es clock (bC.jg pk) (wA.heap.size+1)).heap[mr]? =some (.map (es.push ⟨.int .i64 (bC.jg pk:Int),.pointer (some ⟨wA.heap.size+1,0,none⟩),clock⟩) (clock+1)):=by simp[iI,show mr<wB.heap.size by omega]
    have QU:=hO.same (w':=iI wB mr es clock (bC.jg pk) (wA.heap.size+1)) fun b hf=>hLm b (by have:=eJ b hf;omega);have ee:∀b,b<w.heap.size->b≠mr->(iI wB mr es clock (bC.jg pk) (wA.heap.size+1)).heap[b]? =w.heap[b]? :=fun b h1 h2=>by rw[hLm b h2,pd.below.block b (by omega),hb.block b h1]
    obtain⟨n1,n2,n3⟩:=QU.no _ _ hz hn rfl;have nF:(slices d (pk[8]?.getD 0) ((jE pk).oj.K (pk[8]?.getD 0)+pk[7]?.getD 0))[pk[9]?.getD 0]? =some (.slice none 0 0):=by
     unfold slices;rw[List.getElem?_map,List.getElem?_range hn];simp only[Option.map_some,n1,n2,n3]
    have Bb:∀j,j<pk[5]?.getD 0->(iI wB mr es clock (bC.jg pk) (wA.heap.size+1)).cell? ⟨gb,go+j,none⟩=some (.int .u8 (((pk.drop 10)[j]?.getD 0:Nat):Int)):=fun j hj=>by
     have Su:=hc j hj;refine dz Su (ee gb (bR Su) fun e=>?_);subst e;simp[World.cell?,cA]at Su
    refine(OG (wA.heap.size+1) _ _ _ _ _ (jE pk).oj.N _ _ _ _ _ _ (pk[5]?.getD 0) gb go g_ _ (pk.drop 10) hz hn dC (by omega) hlen _ QU.row (QU.cell _ hz) (QU.mY _ hz) nF Bb).mono ?_;rintro e w' ⟨rfl,g2,c,k1,k2,_,k4,k5,k6⟩;subst hr;have hX:=eJ (d.pb (pk[8]?.getD 0)) (.inr (.inr ⟨_,hz,rfl⟩));have Mz:mr≠d.pb (pk[8]?.getD 0):=by omega
    have vy:w'.heap[mr]? =some (.map (es.push ⟨.int .i64 (bC.jg pk:Int),.pointer (some ⟨wA.heap.size+1,0,none⟩),clock⟩) (clock+1)):=by rw[k6.block mr (by omega) Mz];exact hmL
    have bd:bO (pk.drop 10++List.replicate (c-pk[5]?.getD 0) 0)≠ []:=fun e=>by
     have:=congrArg List.length e;simp[bO]at this;omega
    have gA:bC.jg pk∉st.map (·.1):=fun hx=>by
     obtain⟨⟨a,b⟩,hy,e⟩:=List.mem_map.1 hx;have eQ:∀(a:Nat) (b:gy),(a,b)∈st->¬a=bC.jg pk:=by simpa[bC.get]using hg
     exact eQ a b hy e
    have okb:(jE pk).Ok:=⟨ok0,fun z n q e=>by cases e⟩;have AE:∀z2,z2<(gy.bare (bC.lenOf pk) (pk[5]?.getD 0) (pk[6]?.getD 0) (pk[7]?.getD 0)).oj.N->1<=(gy.bare (bC.lenOf pk) (pk[5]?.getD 0) (pk[6]?.getD 0) (pk[7]?.getD 0)).oj.K z2:=fun z2 h2=>(ok0.jm h2).1;have hN0:0<(gy.bare (bC.lenOf pk) (pk[5]?.getD 0) (pk[6]?.getD 0) (pk[7]?.getD 0)).oj.N:=ok0.N1;have te:=k6.size;refine .inl ⟨true,rfl,rfl,fun b=>F b\/foot (wA.heap.size+1) (jE pk).oj.N d b\/b=g2,l++ [(bC.jg pk,wA.heap.size+1)],_,h.upd (X:=d.pb (pk[8]?.getD 0)) (L0:= []) cA vy (Me sd _ _ _) (by rw[List.map_append,List.map_append,h.ids];rfl) ?_ (bC.Vm hg) (Q_ v_) ((QU.more hz hn hlen Fs k2 k4 k5 k6).wide fun b hb=>.inr hb) (okb.put hz hn hlen Fs) (fun b hb=>.inl hb) (.inr (by omega)) (fun b bp cq cQ=>?_) (fun i o' hi gz z' js=>?_) (fun i o' hi gz z1 z2 cJ cW=>?_) (fun b cU=>?_) (fun b cU=>?_) (h.born.push cA vy),fun b cU=>?_,?_⟩
    .rw[List.map_append];refine List.nodup_append.2 ⟨h.nd,by simp,fun a ha b hb=>?_⟩;simp only[List.map_cons,List.map_nil,List.mem_singleton]at hb;subst hb;exact fun e=>gA (e▸ha)
    .have:=h.lt b bp;rw[k6.block b (by omega) cq,ee b this cQ]
    .obtain⟨oi,qa⟩:=h.both gz;have:=((h.obj i oi o' qa gz).mY z' js).lt;omega
    .obtain⟨oi,qa⟩:=h.both gz;have:=((h.obj i oi o' qa gz).mY z1 cJ).lt;have h3:=eJ (d.pb z2) (.inr (.inr ⟨_,cW,rfl⟩));show(A i).pb z1≠d.pb z2;omega
    .rcases cU with cU|cU|rfl
     .have:=h.lt b cU;omega
     .rcases cU with rfl|rfl|⟨z2,cW,rfl⟩
      .have fH:aB _ (wA.heap.size+1) 101 _:=QU.row;have:=fH.lt;omega
      .obtain⟨L,hL⟩:=QU.bbr;have:=hL.lt;omega
      .have:=(QU.mY z2 cW).lt;omega
     .exact k4.lt
    .by_cases e:b=d.pb (pk[8]?.getD 0)
     .rw[e];refine k5.lv fun e2=>?_;have:=congrArg List.length e2;have h9:=AE _ hz;simp[slices]at this;omega
     rcases cU with cU|cU|rfl
     .by_cases em:b=mr
      .rw[em,vy];exact⟨_,rfl,fun _ _ e=>by cases e⟩
      .have:=h.lt b cU;rw[k6.block b (by omega) e,ee b this em];exact h.live b cU
     .have ai:b<(iI wB mr es clock (bC.jg pk) (wA.heap.size+1)).heap.size/\∃o,(iI wB mr es clock (bC.jg pk) (wA.heap.size+1)).heap[b]? =some o/\Lv0 o:=by
       rcases cU with rfl|rfl|⟨z2,cW,rfl⟩
       .have fH:aB _ (wA.heap.size+1) 101 [_,_,_,_,_]:=QU.row;exact⟨fH.lt,fH.lv (by simp)⟩
       .obtain⟨L,hL⟩:=QU.bbr;refine⟨hL.lt,hL.lv fun e2=>?_⟩;have:=QU.cell 0 hN0;subst e2;unfold aB at hL;simp[World.cell?,hL]at this
       .refine⟨(QU.mY z2 cW).lt,(QU.mY z2 cW).lv fun e2=>?_⟩;have:=congrArg List.length e2;have h9:=AE _ cW;simp[slices]at this;omega
      rw[k6.block b ai.1 e];exact ai.2
     .exact k4.lv bd
    .rcases cU with cU|cU|rfl
     .exact .inl cU
     .exact .inr (by have:=eJ b cU;omega)
     .exact .inr (by omega)
    .refine⟨k6.os.trans (pd.below.os.trans hb.os),k6.tape.trans (pd.below.tape.trans hb.tape),k6.output.trans (pd.below.output.trans hb.output),by omega,fun b bp cq=>?_⟩;rw[k6.block b (by omega) (by omega),ee b bp fun e=>cq (by rw[e];exact h.fm)]
   .rintro e w' (⟨b,rfl,h1,h2⟩|⟨rfl,h1⟩)
    .exact⟨h1.symm,h2⟩
    .exact h1.elim
  .simp only[if_neg h8]at hr;subst hr;refine(WA mr _ _ _ _ _ _ _ _ gb go g_ clock es l w cA sd v_ (by omega)).mono ?_;rintro e w' ⟨rfl,hb⟩;exact⟨rfl,stay hb⟩
end
end
section
open Go.RowKit
open Go.RowKit Go.Deep
variable{w w':World}{b i:Nat}{bs:List Value}
theorem bK.setCell{e t:TypeId}{v:Value}{xs L:List Value}(h:bK w e v xs)(hb:aB w b t L)(ht:t≠e)(u:Value):bK (w.setCell ⟨b,i,none⟩ u) e v xs:=
 h.of_block (fun g hg=>blk_setCell_other _ _ _ _ (fun e'=>h.lU hb ht (by rw[hg];exact congrArg some e')))
def Nr(w:World)(b:Nat)(bs:List Value):Prop:=
 ∃p v,aB w b 122 [p,v]/\(p= .pointer none\/p= .pointer (some ⟨b,0,none⟩))/\bK w 5 v bs/\∀k,v.ownBlock=some k->b<k
theorem Yy(w:World):Nr (w.alloc (.cells #[.pointer none,.slice none 0 0] 122)) w.heap.size []:=
 ⟨_,_,aK w _ _,Or.inl rfl,h_ _ _,fun k hk=>by simp[Value.ownBlock]at hk⟩
theorem Nr.lt(h:Nr w b bs):b<w.heap.size:=by
 obtain⟨p,v,hr,_⟩:=h;exact hr.lt
theorem Nr.is(h:Nr w b bs):Lib.IsBuilder 122 5 b b bs w:=by
 obtain⟨p,v,hr,hp,ho,hk⟩:=h;have br:w.ownsRow b 5 1 v bs.length bs:=by
  refine⟨by omega,?_⟩;rcases ho with⟨h1,h2⟩|⟨g,cap,cur,h1,h2,h3,h4,h5,h6⟩
  .left;exact⟨h1,by rw[h2];rfl⟩
  .right;refine⟨g,cap,cur.toArray,h1,?_,h2,h3,h4,by simp[h5],by simpa using h6⟩;have:=hk g (by rw[h1];rfl);omega
 have bd:v.ownBlock≠some b:=fun e=>by have:=hk b e;omega
 rcases hp with rfl|rfl
 .exact Or.inl ⟨Nat.le_refl _,v,hr,br,bd⟩
 .exact Or.inr ⟨Nat.le_refl _,v,hr,br,bd⟩
def bren:Go.Shelf.Ren:=⟨fun|169=>72|n=>n,fun|70=>120|9=>9|0=>0|72=>122|37=>28|127=>193|3=>3|5=>5|n=>n,fun|n=>n⟩
theorem bLays:Go.Proofs.Lays.n169 prog bren:= {
 mixed:=by kernel_rfl
 f169:=func72.trans (congrArg some (by kernel_rfl))
 t0:=underlying0
 a0:=isAgg0
 z0:=sizeOf0
 v0:=zeroValue0
 t3:=underlying3
 a3:=isAgg3
 z3:=sizeOf3
 v3:=zeroValue3
 t9:=underlying9
 a9:=isAgg9
 z9:=sizeOf9
 v9:=zeroValue9
 t37:=underlying28
 a37:=isAgg28
 z37:=sizeOf28
 v37:=zeroValue28
 t70:=underlying120
 a70:=isAgg120
 z70:=sizeOf120
 v70:=zeroValue120
 t72:=underlying122
 a72:=isAgg122
 z72:=sizeOf122
 v72:=zeroValue122
 t127:=underlying193
 a127:=isAgg193
 z127:=sizeOf193
 v127:=zeroValue193}
theorem bExtra:Builder.Extra prog bren:= {
 sizeBuilder:=by kernel_rfl
 liesBuilder:=by kernel_rfl
 t5:=underlying5
 a5:=isAgg5
 z5:=sizeOf5
 v5:=zeroValue5
 infoByte:=by kernel_rfl
 cellsByte:=by kernel_rfl
 sizeByte:=by kernel_rfl
 neB5:=by decide}
theorem Bo{bs:List Nat}(h:∀x∈bs,x<256):bO bs=Lib.byteCells (bs.map UInt8.ofNat):=by
 unfold bO Lib.byteCells;rw[List.map_map];apply List.map_congr_left;intro x hx;have:=h x hx;simp;omega
theorem FP(b:Nat)(bs:List Nat)(oB:∀x∈bs,x<256)(w:World)(h:Nr w b (bO bs)):
  Calls prog 72 #[.pointer (some ⟨b,0,none⟩)] w fun e w'=>e= .returned (.string (strOf bs))/\Below b w w':=by
 have h1:=h.is;rw[Bo oB]at h1;refine(Any.Builder_String_any bLays bExtra b b (bs.map UInt8.ofNat) w h1 (Nat.le_of_lt h.lt)).mono ?_;rintro _ w' ⟨rfl,hb⟩;refine⟨?_,hb⟩;rw[tL]
theorem ji:(prog.info? 122).map (·.size)=some 2:=by kernel_rfl
theorem aB.shape{w:World}{g:Nat}{t:TypeId}{L:List Value}(h:aB w g t L):w.shape? g=some (t,L.length):=by
 unfold aB at h;simp[World.shape?,h]
theorem Xc{L:List Value}(h:aB w b 122 L)(hL:L.length=2):(convert 120 205 (.pointer (some ⟨b,0,none⟩))).run prog w= .ok (.pointer (some ⟨b,0,none⟩)) w:=by
 obtain⟨j,hj,hjs⟩:=Option.map_eq_some_iff.1 ji;have gm:=h.shape;rw[hL]at gm;have hs:=run_underlying (P:=prog) underlying120;have hd:=run_underlying (P:=prog) underlying205;simp only[convert,Sem.run_bind,hs,hd,Result.andThen_ok];refine Eq.trans (b:=Sem.run prog (bind (underlying 120) _) w) rfl ?_;simp[hs,hd,Conv.seenAt,viewAt,cellsIn,gm,sizeOf,typeInfo,hj,hjs]
theorem XJ{L:List Value}(h:aB w b 122 L)(hL:L.length=2):(convert 205 120 (.pointer (some ⟨b,0,none⟩))).run prog w= .ok (.pointer (some ⟨b,0,none⟩)) w:=by
 obtain⟨j,hj,hjs⟩:=Option.map_eq_some_iff.1 ji;have gm:=h.shape;rw[hL]at gm;have hs:=run_underlying (P:=prog) underlying205;have hd:=run_underlying (P:=prog) underlying120;have hl:liesAt prog prog.depth 122 (2/prog.cellsOf 122) 0 122 1=true:=by kernel_rfl
 simp only[convert,Sem.run_bind,hs,hd,Result.andThen_ok];refine Eq.trans (b:=Sem.run prog (bind (underlying 205) _) w) rfl ?_;simp[hs,hd,Conv.seenAt,viewAt,gm,variablesAt,hl,sizeOf,typeInfo,hj]
theorem qy(r N:Nat)(hr:r<128)(v:Value)(xs:List Value)(hN:Hid (xs.length=N))(Aa:N<=1000000000)(w:World)(ho:bK w 5 v xs):
  Calls prog 120 #[v,.int .i32 r] w fun e w'=>∃v' o,e= .returned v'/\gD (w.alloc o) w' 5 v v' xs [.int .u8 r]:=by
 obtain⟨i0,hi,ep,cJ,cW⟩:=info_parts Tryz.infoByte;have u1:IntKind.u32.wrap (r:Int)=r:=by simp[IntKind.wrap,IntKind.bits,IntKind.signed];omega
 have u2:=dw (r:Int) (by omega) (by omega);have u3:(r:Int)<=127:=by omega
 have HO:=hide ho;clear ho;go_enter func120,ntmps120;go_wp2_with (at_builtin;(refine dG _ rfl (.tmp 8) (.tmp 11) 28 rfl 5 i0 (.int .u8 0) 1 underlying28 hi ep cJ cW rfl _ xs rfl (HO.out.alloc _) ⟨w.heap.size,0,none⟩ 1 1 [.int .u8 r] rfl rfl (nK _ _ _ _ rfl) (by intro u hu;simp at hu;subst hu;rfl) (by rw[hN.out];unfold maxLen;omega) (by rw[hN.out];omega) ?_))
 intro v' w1 bt;replace bt:=hide bt;go_wp2;go_ret;exact⟨_,_,rfl,bt.out⟩
theorem RF(r N:Nat)(h1:945<=r)(h2:r<=956)(v:Value)(xs:List Value)(hN:Hid (xs.length=N))(Aa:N<=1000000000)(w:World)(ho:bK w 5 v xs):
  Calls prog 173 #[v,.int .i32 r] w fun e w'=>∃v' o,e= .returned v'/\gD (w.alloc o) w' 5 v v' xs [.int .u8 (192+(r:Int)/64),.int .u8 (128+(r:Int)%64)]:=by
 obtain⟨i0,hi,ep,cJ,cW⟩:=info_parts Tryz.infoByte;have u1:IntKind.u32.wrap (r:Int)=r:=by simp[IntKind.wrap,IntKind.bits,IntKind.signed];omega
 have u3:(r:Int)<=2047:=by omega
 have HO:=hide ho;clear ho;go_enter func173,ntmps173;go_wp2_with (at_builtin;(refine dG _ rfl (.tmp 14) (.tmp 23) 28 rfl 5 i0 (.int .u8 0) 1 underlying28 hi ep cJ cW rfl _ xs rfl (HO.out.alloc _) ⟨w.heap.size,0,none⟩ 2 2 [.int .u8 (192+(r:Int)/64),.int .u8 (128+(r:Int)%64)] rfl rfl (nK _ _ _ _ rfl) (by intro u hu;simp at hu;rcases hu with rfl|rfl<;>rfl) (by rw[hN.out];unfold maxLen;omega) (by rw[hN.out];omega) ?_))
 intro v' w1 bt;replace bt:=hide bt;go_wp2;go_ret;exact⟨_,_,rfl,bt.out⟩
theorem AV(r N:Nat)(h1:945<=r)(h2:r<=956)(v:Value)(xs:List Value)(hN:Hid (xs.length=N))(Aa:N<=1000000000)(w:World)(ho:bK w 5 v xs):
  Calls prog 120 #[v,.int .i32 r] w fun e w'=>∃v' o,e= .returned v'/\gD (w.alloc o) w' 5 v v' xs [.int .u8 (192+(r:Int)/64),.int .u8 (128+(r:Int)%64)]:=by
 have u1:IntKind.u32.wrap (r:Int)=r:=by simp[IntKind.wrap,IntKind.bits,IntKind.signed];omega
 have u3:¬(r:Int)<=127:=by omega
 have HO:=hide ho;clear ho;go_enter func120,ntmps120;go_wp2_with (go_at_call 173;refine(RF r N h1 h2 v xs hN Aa _ HO.out).mono ?_;rintro _ w1 ⟨v',o,rfl,bt⟩;replace bt:=hide bt)
 go_ret;exact⟨_,_,rfl,bt.out⟩
theorem xZ(n N:Nat)(hn:n<64)(v:Value)(xs:List Value)(hN:Hid (xs.length=N))(Aa:N<=1000000000)(w:World)(ho:bK w 5 v xs):
  Calls prog 120 #[v,.int .i32 (Tx.rn n:Nat)] w fun e w'=>∃v' o,e= .returned v'/\gD (w.alloc o) w' 5 v v' xs (bO (Tx.dM n)):=by
 unfold Tx.rn Tx.dM;by_cases h1:n<26
 .rw[if_pos h1,if_pos h1];exact qy (65+n) N (by omega) v xs hN Aa w ho
 .rw[if_neg h1,if_neg h1];by_cases h2:n<52
  .rw[if_pos h2,if_pos h2];exact qy (71+n) N (by omega) v xs hN Aa w ho
  .rw[if_neg h2,if_neg h2];have h:=AV (893+n) N (by omega) (by omega) v xs hN Aa w ho;have e1:(192:Int)+((893+n:Nat):Int)/64=((206:Nat):Int):=by omega
   have e2:(128:Int)+((893+n:Nat):Int)%64=((125+n:Nat):Int):=by omega
   rw[e1,e2]at h;exact h
def Alpha(w:World):Prop:=∀i,i<64->w.cell? ⟨0,i,none⟩=some (.int .i32 (Tx.rn i:Nat))
theorem Alpha.later(h:Alpha w)(hb:Below w.heap.size w w'):Alpha w':=fun i hi=>cell_later hb (h i hi)
theorem Alpha.size(h:Alpha w):0<w.heap.size:=World.block_lt_of_cell? w _ (h 0 (by omega))
theorem Alpha.below{B:Nat}(h:Alpha w)(hb:Below B w w')(hB:0<B):Alpha w':=fun i hi=>by
 have e:=hb.block 0 hB;have:=h i hi;unfold World.cell? at this⊢;rw[e];exact this
theorem Ur(x c:Nat)(hx:x<1048576)(hc:c<=13):bits .and .i64 (x:Int) (wrap64 (wrap64 ((2:Int)^c)-1))=((x%2^c:Nat):Int):=by
 have hp:2^c<=2^13:=Nat.pow_le_pow_right (by decide) hc;have hp0:0<2^c:=Nat.two_pow_pos c;have e1:wrap64 ((2:Int)^c)=((2^c:Nat):Int):=by
  have:((2:Int)^c)=((2^c:Nat):Int):=by simp
  rw[this];unfold wrap64;omega
 have e2:wrap64 (((2^c:Nat):Int)-1)=((2^c-1:Nat):Int):=by
  rw[show((2^c:Nat):Int)-1=((2^c-1:Nat):Int) by omega];unfold wrap64;omega
 rw[e1,e2,Ol x (2^c-1) (by omega) (by omega),Nat.and_two_pow_sub_one_eq_mod]
theorem xu(x c:Nat)(hx:x<1048576)(hc:c<=13)(w:World):
  Calls prog 71 #[.int .i64 x,.int .i64 c] w fun e w'=>e= .returned (.int .i64 ((x%2^c:Nat):Int))/\w'=w:=by
 have hb:=Ur x c hx hc;go_enter func71,ntmps71;go_wp2;go_ret;exact⟨by show Ending.returned (.int .i64 ((x:Int)%2^c))=_;simp,rfl⟩
def vV:List Value:=(List.range 64).map (fun i=>Value.int .i32 (Tx.rn i:Nat))
theorem RI(h:i<64):vV[i]? =some (.int .i32 (Tx.rn i:Nat)):=by simp[vV,h]
theorem AZ(ha:Alpha w):(Instr.loadAt 128 (.pointer (some ⟨0,0,none⟩))).run prog w= .ok (.agg vV.toArray) w:=by
 have h:=run_loadCells (P:=prog) w ⟨0,0,none⟩ 64 (fun i=>Value.int .i32 (Tx.rn i:Nat)) (fun j hj=>by rw[Addr.add_lit];simpa using ha j hj);unfold Instr.loadAt loadVar;simp only[Instr.sureAddr,Sem.run_bind,Sem.run_pure,Result.andThen_ok,isAgg128,sizeOf128,if_true,h];rfl
theorem oP{P:Program}{ops:Array Oper}{rest:List Oper}{o:Oper}{a:Act}{Q:Exit->Act->World->Prop}(k_:o.guard=none)(t:TypeId)(x:Operand)
  (ho:o.op= .load t x)(v r:Value)(hv:a.eval x=v)(hr:(Instr.loadAt t v).run P w= .ok r w)(h:wpList P ops Q rest (a.put o.dst r) w):wpList P ops Q (o::rest) a w:=by
 refine wpList_plain k_ fun K hK=>?_;unfold Oper.wp execOp;simp only[ho,hv,Sem.run_bind,hr,Result.andThen_ok];exact hK _ _ h
theorem xJ(w:World)(k:Nat)(hk:k<64):(Instr.index 128 (.agg vV.toArray) (.int .i64 (k:Nat))).run prog w= .ok (.int .i32 (Tx.rn k:Nat)) w:=by
 have h:=RI hk;have hu:=run_underlying (P:=prog) underlying128 w;have hs:=sizeOf21 w;unfold Instr.index;simp only[asIntOf,Sem.run_bind,Sem.run_pure,Result.andThen_ok,hu];rw[if_pos (by omega)];simp[Sem.run_bind,hs,part,h]
theorem Qr(n:Nat)(hn:n<64)(w:World)(ha:Alpha w):
  Calls prog 85 #[.int .i32 (Tx.rn n:Nat)] w fun e w'=>e= .returned (.int .i64 n)/\w'=w:=by
 have HA:=hide (AZ ha);have HX:=hide (xJ w);have HI:Hid (∀k,k<64->Tx.rn k=Tx.rn n->k=n):=fun k hk e=>Tx.ZP hk hn e;generalize vV.toArray=A at HA HX;clear ha;go_enter func85,ntmps85;go_wp2_with (refine oP rfl 128 (.global 0) rfl _ _ rfl HA.out ?_)
 go_loopw [6] (fun x wr=>∃k:Nat,k<=n/\x= .int .i64 k/\wr=w) (fun x _=>leftOf 64 (intOf x).toNat)
 case atStart=>exact⟨0,by omega,rfl,rfl⟩
 case round=>
  obtain⟨k,hk,rfl,rfl⟩:=hrel;have hx:=HX.out k (by omega);have k1:(k:Int)<64:=by omega
  by_cases mB:k=n
  .subst mB;have e1:(((Tx.rn k:Nat):Int)==((Tx.rn k:Nat):Int))=true:=by simp
   go_wp2_with fail
   go_ret;exact⟨rfl,rfl⟩
  .have bd:(((Tx.rn k:Nat):Int)==((Tx.rn n:Nat):Int))=false:=by
    simp only[beq_eq_false_iff_ne,ne_eq];intro e;exact mB (HI.out k (by omega) (by omega))
   go_wp2_with fail
   go_roundw
   case rel=>exact⟨k+1,by omega,by go_num,by simp⟩
   case measure=>refine aW ?_ ?_<;>simp only[intOf]<;>omega
theorem Qs(r:Nat)(hr:∀n,n<64->Tx.rn n≠r)(w:World)(ha:Alpha w):
  Calls prog 85 #[.int .i32 r] w fun e w'=>e= .panicked [{v:=bq 3,recovered:=false}]/\w'=w:=by
 have HA:=hide (AZ ha);have HX:=hide (xJ w);generalize vV.toArray=A at HA HX;clear ha;have HR:=hide hr;clear hr;go_enter func85,ntmps85;go_wp2_with (refine oP rfl 128 (.global 0) rfl _ _ rfl HA.out ?_)
 go_loopw [6] (fun x wr=>∃k:Nat,k<=64/\x= .int .i64 k/\wr=w) (fun x _=>leftOf 64 (intOf x).toNat)
 case atStart=>exact⟨0,by omega,rfl,rfl⟩
 case round=>
  obtain⟨k,hk,rfl,rfl⟩:=hrel;by_cases hk6:k<64
  .have hx:=HX.out k hk6;have k1:(k:Int)<64:=by omega
   have bd:(((Tx.rn k:Nat):Int)==(r:Int))=false:=by
    simp only[beq_eq_false_iff_ne,ne_eq];intro e;exact HR.out k hk6 (by omega)
   go_wp2_with fail
   go_roundw
   case rel=>exact⟨k+1,by omega,by go_num,by simp⟩
   case measure=>refine aW ?_ ?_<;>simp only[intOf]<;>omega
  .have k1:¬(k:Int)<64:=by omega
   go_wp2_with fail
   exact⟨rfl,rfl,rfl⟩
end
