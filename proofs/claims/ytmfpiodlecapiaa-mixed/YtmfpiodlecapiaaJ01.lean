import Derived.Laws.BitsAllLaws
import Derived.Test.YtmfpiodlecapiaaRows
import Derived.WalkKit
import Derived.WalkSpells
import Derived.WalkLawsBesides
import Derived.Deep.OwnRows
namespace Go.Proofs.Ytmfpiodlecapiaa.Gf
def dbl(a:Nat):Nat:=bif Nat.ble 256 (2*a)then Nat.xor (2*a) 285 else 2*a
def mulAux:Nat->Nat->Nat->Nat->Nat
 |0,_,_,p=>p
 |n+1,a,b,p=>mulAux n (dbl a) (b/2) (bif Nat.beq (b%2) 1 then Nat.xor p a else p)
def mul(a b:Nat):Nat:=mulAux 8 a b 0
def E:Nat:=0x8e47add86c361b83cfe9fa7db0582c160b8bcbebfbf3f7f5f47a3d90482412098a45ac562b9bc3eff9f279b259a251a653a7dde070381c0e078dc86432198241ae57a5dc6e3795c46231964babdbe3fff1f67bb3d7e5fc7e3f91c663bfd1e673b7d5e472399249aa55a452299a4da8542a158442219e4fa9da6db85c2e1785cc663397c5ec763b93c7edf87c3e1f81ce67bdd068341a0d884422118643afd9e271b65ba3dfe1fe7fb1d66bbbd3e7fdf0783c1e0f89ca65bc5e2f99c261be5fa1de6fb9d269ba5da05028140a058c46239fc1ee77b5d46a35944a259c4e279dc06030180c06038fc9ea75b45a2d984c261387cde8743a1d8040201008040201
def L:Nat:=0xaf5850a8eaf4d674e8ade7e6e9d5ae4fd72c757aeb16f50b51a0a99cb05f59cb5a3eccbbb18660fbaa559d29523ba16cf66f0c7fec4917c476a47bb7d8432d1fa2416d4753393c849e5d2a14abd356f261befcdcb2978790cdcfbc955bd13f372e892023d99244117cb4b8267799a5e318fec531edde4a670d63808cf7c0700757a7f373ace5d44e2b79150a9f9b5eca3dba85fa54283a6b6e7e48c3a3b6421e404638835c13d2f1bddb968fce94d03688229110b32598e2fd30dd66628bbf06a672e44d78099ac9b9f9276a7dc2b51d458212f0da8e9335210f24e12f658a05714c08c8f869c11c81ef8d340ee064044bc7681bee33df03c61a320219010000
def ex(i:Nat):Nat:=(E >>> (8*i))%256
def lg(a:Nat):Nat:=(L >>> (8*a))%256
def allB:Nat->(Nat->Bool)->Bool
 |0,_=>true
 |n+1,f=>bif f n then allB n f else false
theorem allB_spec{n:Nat}{f:Nat->Bool}(h:allB n f=true):∀i,i<n->f i=true:=by
 induction n with
 |zero=>intro i hi;omega
 |succ n ih=>
  intro i hi;simp only[allB]at h;cases hf:f n with
  |false=>rw[hf]at h;simp at h
  |true=>
   rw[hf]at h;by_cases hin:i=n
   ·subst hin;exact hf
   ·exact ih h i (by omega)
theorem exps:allB 255 (fun i=>Nat.ble 1 (ex i)&&Nat.beq (lg (ex i)) i&&Nat.beq (dbl (ex i)) (ex ((i+1)%255)))=true:=by decide+kernel
theorem logs:allB 256 (fun a=>Nat.beq a 0||(Nat.beq (ex (lg a)) a&&Nat.ble (lg a) 254))=true:=by decide+kernel
theorem muls:allB 256 (fun a=>allB 256 (fun b=>Nat.beq (mul a b) (bif Nat.beq a 0||Nat.beq b 0 then 0 else ex ((lg a+lg b)%255))))=true:=by decide+kernel
theorem beq_no{a b:Nat}(h:a≠b):Nat.beq a b=false:=by
 cases hb:Nat.beq a b with
 |false=>rfl
 |true=>exact absurd (Nat.beq_eq.mp hb) h
theorem ex_lt(i:Nat):ex i<256:=Nat.mod_lt _ (by decide)
theorem ex_pos{i:Nat}(h:i<255):ex i≠0:=by
 have:=allB_spec exps i h;simp only[Bool.and_eq_true,Nat.ble_eq]at this;omega
theorem lg_ex{i:Nat}(h:i<255):lg (ex i)=i:=by
 have:=allB_spec exps i h;simp only[Bool.and_eq_true,Nat.ble_eq,Nat.beq_eq]at this;exact this.1.2
theorem ex_lg{a:Nat}(h:a<256)(h0:a≠0):ex (lg a)=a:=by
 have:=allB_spec logs a h;simp only[Bool.and_eq_true,Bool.or_eq_true,Nat.ble_eq,Nat.beq_eq]at this;omega
theorem lg_lt'{a:Nat}(h:a<256)(h0:a≠0):lg a<255:=by
 have:=allB_spec logs a h;simp only[Bool.and_eq_true,Bool.or_eq_true,Nat.ble_eq,Nat.beq_eq]at this;omega
theorem mul_tab{a b:Nat}(ha:a<256)(hb:b<256):mul a b=if a=0\/b=0 then 0 else ex ((lg a+lg b)%255):=by
 have:=allB_spec (allB_spec muls a ha) b hb;simp only[Nat.beq_eq]at this;rw[this];by_cases h0:a=0\/b=0
 ·have:(Nat.beq a 0||Nat.beq b 0)=true:=by simp[h0]
  rw[this,if_pos h0];rfl
 ·have:(Nat.beq a 0||Nat.beq b 0)=false:=by
   rw[beq_no (fun x=>h0 (Or.inl x)),beq_no (fun x=>h0 (Or.inr x))];rfl
  rw[this,if_neg h0];rfl
theorem mul_zero{a:Nat}(ha:a<256):mul a 0=0:=by rw[mul_tab ha (by decide)];simp
theorem zero_mul{b:Nat}(hb:b<256):mul 0 b=0:=by rw[mul_tab (by decide) hb];simp
theorem mul_lt{a b:Nat}(ha:a<256)(hb:b<256):mul a b<256:=by
 rw[mul_tab ha hb];split
 ·decide
 ·exact ex_lt _
theorem mul_comm{a b:Nat}(ha:a<256)(hb:b<256):mul a b=mul b a:=by
 rw[mul_tab ha hb,mul_tab hb ha,Nat.add_comm];by_cases h:a=0\/b=0
 ·rw[if_pos h,if_pos h.symm]
 ·rw[if_neg h,if_neg (fun x=>h x.symm)]
theorem mul_ne{a b:Nat}(ha:a<256)(hb:b<256)(h1:a≠0)(h2:b≠0):mul a b≠0:=by
 rw[mul_tab ha hb,if_neg (by omega)];exact ex_pos (Nat.mod_lt _ (by decide))
theorem lg_mul{a b:Nat}(ha:a<256)(hb:b<256)(h1:a≠0)(h2:b≠0):lg (mul a b)=(lg a+lg b)%255:=by
 rw[mul_tab ha hb,if_neg (by omega)];exact lg_ex (Nat.mod_lt _ (by decide))
theorem eq_of_lg{a b:Nat}(ha:a<256)(hb:b<256)(h1:a≠0)(h2:b≠0)(h:lg a=lg b):a=b:=by
 rw[<-ex_lg ha h1,<-ex_lg hb h2,h]
theorem mul_assoc{a b c:Nat}(ha:a<256)(hb:b<256)(hc:c<256):mul (mul a b) c=mul a (mul b c):=by
 by_cases h1:a=0
 ·subst h1;rw[zero_mul hb,zero_mul hc,zero_mul (mul_lt hb hc)]
 by_cases h2:b=0
 ·subst h2;rw[mul_zero ha,zero_mul hc,mul_zero ha]
 by_cases h3:c=0
 ·subst h3;rw[mul_zero (mul_lt ha hb),mul_zero hb,mul_zero ha]
 apply eq_of_lg (mul_lt (mul_lt ha hb) hc) (mul_lt ha (mul_lt hb hc)) (mul_ne (mul_lt ha hb) hc (mul_ne ha hb h1 h2) h3) (mul_ne ha (mul_lt hb hc) h1 (mul_ne hb hc h2 h3));rw[lg_mul (mul_lt ha hb) hc (mul_ne ha hb h1 h2) h3,lg_mul ha (mul_lt hb hc) h1 (mul_ne hb hc h2 h3),lg_mul ha hb h1 h2,lg_mul hb hc h2 h3];omega
theorem lg_one:lg 1=0:=by decide+kernel
theorem mul_one{a:Nat}(ha:a<256):mul a 1=a:=by
 by_cases h:a=0
 ·subst h;exact zero_mul (by decide)
 apply eq_of_lg (mul_lt ha (by decide)) ha (mul_ne ha (by decide) h (by decide)) h;rw[lg_mul ha (by decide) h (by decide),lg_one];have:=lg_lt' ha h;omega
theorem one_mul{a:Nat}(ha:a<256):mul 1 a=a:=by rw[mul_comm (by decide) ha,mul_one ha]
def invAux:Nat->Nat->Nat->Nat
 |0,_,r=>r
 |n+1,a,r=>invAux n (mul a a) (mul r (mul a a))
def inv(a:Nat):Nat:=invAux 7 a 1
theorem invs:allB 256 (fun a=>Nat.beq a 0||(Nat.beq (mul a (inv a)) 1&&Nat.ble (inv a) 255&&Nat.ble 1 (inv a)))=true:=by decide+kernel
theorem mul_inv{a:Nat}(ha:a<256)(h:a≠0):mul a (inv a)=1:=by
 have:=allB_spec invs a ha;simp only[Bool.and_eq_true,Bool.or_eq_true,Nat.ble_eq,Nat.beq_eq]at this;omega
theorem inv_lt{a:Nat}(ha:a<256)(h:a≠0):inv a<256:=by
 have:=allB_spec invs a ha;simp only[Bool.and_eq_true,Bool.or_eq_true,Nat.ble_eq,Nat.beq_eq]at this;omega
theorem xor_lt{a b:Nat}(ha:a<256)(hb:b<256):a ^^^ b<256:=Nat.xor_lt_two_pow (n:=8) ha hb
theorem dbl_eq(a:Nat):dbl a=if 256<=2*a then(2*a) ^^^ 285 else 2*a:=by
 unfold dbl;by_cases h:256<=2*a
 ·have:Nat.ble 256 (2*a)=true:=by simp[h]
  rw[this,if_pos h];rfl
 ·have:Nat.ble 256 (2*a)=false:=by
   cases hb:Nat.ble 256 (2*a)with
   |false=>rfl
   |true=>exact absurd (Nat.ble_eq.mp hb) h
  rw[this,if_neg h];rfl
theorem dbls:allB 256 (fun a=>Nat.ble (dbl a) 255)=true:=by decide+kernel
theorem dbl_lt{a:Nat}(ha:a<256):dbl a<256:=by
 have:=allB_spec dbls a ha;simp only[Nat.ble_eq]at this;omega
theorem mulAux_succ(n a b p:Nat):mulAux (n+1) a b p=mulAux n (dbl a) (b/2) (if b%2=1 then p ^^^ a else p):=by
 show mulAux n (dbl a) (b/2) _=_;by_cases h:b%2=1
 ·have:Nat.beq (b%2) 1=true:=by simp[h]
  rw[this,if_pos h];rfl
 ·have:Nat.beq (b%2) 1=false:=by
   cases hb:Nat.beq (b%2) 1 with
   |false=>rfl
   |true=>exact absurd (Nat.beq_eq.mp hb) h
  rw[this,if_neg h];rfl
theorem mulAux_zero(n a p:Nat):mulAux n a 0 p=p:=by
 induction n generalizing a p with
 |zero=>rfl
 |succ n ih=>rw[mulAux_succ];simpa using ih (dbl a) p
theorem mulAux_more(n a b p:Nat)(h:b<2^n):mulAux (n+1) a b p=mulAux n a b p:=by
 induction n generalizing a b p with
 |zero=>
  have:b=0:=by simpa using h
  subst this;rw[mulAux_zero];rfl
 |succ n ih=>
  rw[Nat.pow_succ]at h;rw[mulAux_succ (n+1) a b p,ih _ _ _ (by omega),<-mulAux_succ]
def rest(a b p:Nat):Nat:=mulAux 8 a b p
theorem rest_zero(a p:Nat):rest a 0 p=p:=mulAux_zero 8 a p
theorem rest_step{a b p:Nat}(hb:b<256):rest a b p=rest (dbl a) (b/2) (if b%2=1 then p ^^^ a else p):=by
 unfold rest;rw[<-mulAux_more 8 a b p hb,mulAux_succ]
theorem mulAux_xor(n a b p:Nat):mulAux n a b p=p ^^^ mulAux n a b 0:=by
 induction n generalizing a b p with
 |zero=>simp[mulAux]
 |succ n ih=>
  rw[mulAux_succ,mulAux_succ,ih (dbl a) (b/2) (if b%2=1 then p ^^^ a else p),ih (dbl a) (b/2) (if b%2=1 then 0 ^^^ a else 0)];split
  ·rw[Nat.zero_xor,Nat.xor_assoc]
  ·rw[Nat.zero_xor]
theorem xor_swap(a b c d:Nat):(a ^^^ b) ^^^ (c ^^^ d)=(a ^^^ c) ^^^ (b ^^^ d):=by
 rw[Nat.xor_assoc,<-Nat.xor_assoc b,Nat.xor_comm b c,Nat.xor_assoc c,<-Nat.xor_assoc]
theorem mulAux_add(n a b c:Nat):mulAux n a (b ^^^ c) 0=mulAux n a b 0 ^^^ mulAux n a c 0:=by
 induction n generalizing a b c with
 |zero=>simp[mulAux]
 |succ n ih=>
  rw[mulAux_succ,mulAux_succ n a b,mulAux_succ n a c,mulAux_xor n (dbl a) _ (if(b ^^^ c)%2=1 then _ else _),mulAux_xor n (dbl a) (b/2),mulAux_xor n (dbl a) (c/2),Nat.xor_div_two,ih,xor_swap];congr 1
  have hx:(b ^^^ c)%2=(b%2+c%2)%2:=by
   have:=Nat.xor_mod_two_pow (a:=b) (b:=c) (n:=1);rw[Nat.pow_one]at this;rw[this];rcases Nat.mod_two_eq_zero_or_one b with h|h<;>rcases Nat.mod_two_eq_zero_or_one c with h'|h'<;>rw[h,h']<;>rfl
  rw[hx];rcases Nat.mod_two_eq_zero_or_one b with h|h<;>rcases Nat.mod_two_eq_zero_or_one c with h'|h'<;>rw[h,h']<;>simp
theorem mul_add(a b c:Nat):mul a (b ^^^ c)=mul a b ^^^ mul a c:=mulAux_add 8 a b c
theorem add_mul{a b c:Nat}(ha:a<256)(hb:b<256)(hc:c<256):mul (a ^^^ b) c=mul a c ^^^ mul b c:=by
 rw[mul_comm (xor_lt ha hb) hc,mul_add,mul_comm hc ha,mul_comm hc hb]
end Go.Proofs.Ytmfpiodlecapiaa.Gf
namespace Go.Proofs.Ytmfpiodlecapiaa
theorem qB(n:Int)(h0:0<=n)(h1:n<9223372036854775808):IntKind.i64.wrap n=n:=by
 simp[IntKind.wrap,IntKind.bits,IntKind.signed];omega
theorem wrap_u8_in(n:Int)(h0:0<=n)(h1:n<256):IntKind.u8.wrap n=n:=by
 simp[IntKind.wrap,IntKind.bits,IntKind.signed];omega
theorem i64_xor(a b:Nat)(ha:a<4294967296)(hb:b<4294967296):bits .xor .i64 (a:Int) (b:Int)=((a ^^^ b:Nat):Int):=by
 have hx:a ^^^ b<2^32:=Nat.xor_lt_two_pow (by omega) (by omega);show IntKind.i64.wrap ((BitVec.ofInt 64 (a:Int) ^^^ BitVec.ofInt 64 (b:Int)).toNat:Int)=_;rw[BitVec.toNat_xor,ofInt_u64 a (by omega),ofInt_u64 b (by omega),qB _ (by omega) (by omega)]
theorem i64_and(a b:Nat)(ha:a<4294967296)(hb:b<4294967296):bits .and .i64 (a:Int) (b:Int)=((a &&& b:Nat):Int):=by
 have hx:a &&& b<2^32:=Nat.and_lt_two_pow _ (by omega);show IntKind.i64.wrap ((BitVec.ofInt 64 (a:Int) &&& BitVec.ofInt 64 (b:Int)).toNat:Int)=_;rw[BitVec.toNat_and,ofInt_u64 a (by omega),ofInt_u64 b (by omega),qB _ (by omega) (by omega)]
theorem i64_and_one(a:Nat)(ha:a<4294967296):bits .and .i64 (a:Int) 1=((a%2:Nat):Int):=by
 have:=i64_and a 1 ha (by omega);rw[nat_mask1]at this;exact this
open Go.RowKit
theorem add_walk(a b:Nat)(ha:a<4294967296)(hb:b<4294967296)(w:World):
  Calls Try.prog 54 #[.int .i64 a,.int .i64 b] w fun e w'=>e= .returned (.int .i64 ((a ^^^ b:Nat):Int))/\w'=w:=by
 have hx:=i64_xor a b ha hb;go_enter Try.func54,Try.ntmps54;go_wp2;go_ret;exact⟨rfl,rfl⟩
theorem double_walk(a:Nat)(ha:a<256)(w:World):
  Calls Try.prog 55 #[.int .i64 a] w fun e w'=>e= .returned (.int .i64 (Gf.dbl a:Nat))/\w'=w:=by
 have hd:=Gf.dbl_eq a;by_cases h:256<=2*a
 ·have hx:bits .xor .i64 ((a:Int)*2) 285=((Gf.dbl a:Nat):Int):=by
   rw[hd,if_pos h];have:=i64_xor (2*a) 285 (by omega) (by omega);rw[<-this];congr 1;omega
  clear hd;go_enter Try.func55,Try.ntmps55;go_wp2;go_ret;exact⟨rfl,rfl⟩
 ·rw[hd,if_neg h];clear hd;have e2:((2*a:Nat):Int)=(a:Int)*2:=by omega
  rw[e2];clear e2;go_enter Try.func55,Try.ntmps55;go_wp2;go_ret;exact⟨rfl,rfl⟩
theorem has_walk(n:Int)(w:World):
  Calls Try.prog 31 #[.int .i64 n] w fun e w'=>e= .returned (.bool (decide (0<=n)&&decide (n<=255)))/\w'=w:=by
 by_cases h:0<=n
 ·go_enter Try.func31,Try.ntmps31;go_wp2;go_ret;exact⟨by simp[h],rfl⟩
 ·go_enter Try.func31,Try.ntmps31;go_wp2;go_ret
  exact⟨by have:¬(0<=n):=by omega
           simp[this],rfl⟩
theorem mul_walk(a b:Nat)(ha:a<256)(hb:b<256)(w:World):
  Calls Try.prog 32 #[.int .i64 a,.int .i64 b] w fun e w'=>e= .returned (.int .i64 (Gf.mul a b:Nat))/\w'=w:=by
 go_enter Try.func32,Try.ntmps32;go_wp2;go_loop [0,1,5] (fun x y z=>∃a' b' p:Nat,a'<256/\b'<256/\p<256/\x= .int .i64 a'/\y= .int .i64 b'/\z= .int .i64 p/\Gf.rest a' b' p=Gf.mul a b)
  (fun _ y _=>(intOf y).toNat)
 case atStart=>exact⟨a,b,0,ha,hb,by decide,rfl,rfl,rfl,rfl⟩
 case round=>
  obtain⟨a',b',p,ha',hb',hp,rfl,rfl,rfl,hr⟩:=hrel;have hand:=i64_and_one b' (by omega);have hR:Hid (Gf.rest a' b' p=Gf.mul a b):=hr;clear hr;go_wp2_with first|(go_at_call 54;refine(add_walk _ _ (by omega) (by omega) _).mono ?_;rintro _ _ ⟨rfl,rfl⟩)|(go_at_call 55;refine(double_walk _ (by omega) _).mono ?_;rintro _ _ ⟨rfl,rfl⟩)
  ·have hpos:0<b':=by assumption
   have h1:((b':Int)%2==1)=true:=by assumption
   have h2:b'%2=1:=by simp at h1;omega
   go_round
   case rel=>
    refine⟨Gf.dbl a',b'/2,p ^^^ a',Gf.dbl_lt ha',by omega,Gf.xor_lt hp ha',rfl,by go_num,rfl,?_⟩;rw[<-hR.out,Gf.rest_step hb',if_pos h2]
   case measure=>simp[intOf];omega
  ·have hpos:0<b':=by assumption
   have h1:((b':Int)%2==1)=false:=by assumption
   have h2:¬b'%2=1:=by simp at h1;omega
   go_round
   case rel=>
    refine⟨Gf.dbl a',b'/2,p,Gf.dbl_lt ha',by omega,hp,rfl,by go_num,rfl,?_⟩;rw[<-hR.out,Gf.rest_step hb',if_neg h2]
   case measure=>simp[intOf];omega
  ·have h0:b'=0:=by omega
   subst h0;have e:p=Gf.mul a b:=by rw[<-hR.out,Gf.rest_zero]
   rw[<-e];go_ret;exact⟨rfl,rfl⟩
theorem inverse_walk(a:Nat)(ha:a<256)(w:World):
  Calls Try.prog 33 #[.int .i64 a] w fun e w'=>e= .returned (.int .i64 (Gf.inv a:Nat))/\w'=w:=by
 go_enter Try.func33,Try.ntmps33;go_wp2;go_loop [0,3,4] (fun x y z=>∃a' r i:Nat,a'<256/\r<256/\i<=7/\x= .int .i64 a'/\y= .int .i64 r/\z= .int .i64 i/\Gf.invAux (7-i) a' r=Gf.inv a)
  (fun _ _ z=>7-(intOf z).toNat)
 case atStart=>exact⟨a,1,0,ha,by decide,by decide,rfl,rfl,rfl,rfl⟩
 case round=>
  obtain⟨a',r,i,ha',hr',hi,rfl,rfl,rfl,hr⟩:=hrel;have hm:=Gf.mul_lt ha' ha';have hm2:=Gf.mul_lt hr' hm;have hR:Hid (Gf.invAux (7-i) a' r=Gf.inv a):=hr;clear hr;go_wp2_with (go_at_call 32;refine(mul_walk _ _ (by omega) (by omega) _).mono ?_;rintro _ _ ⟨rfl,rfl⟩)
  ·have hlt:i<7:=by omega
   go_round
   case rel=>
    refine⟨Gf.mul a' a',Gf.mul r (Gf.mul a' a'),i+1,hm,hm2,by omega,rfl,rfl,by go_num,?_⟩;rw[<-hR.out];have:7-i=(7-(i+1))+1:=by omega
    rw[this];rfl
   case measure=>simp[intOf];omega
  ·have h0:i=7:=by omega
   subst h0;have e:r=Gf.inv a:=by rw[<-hR.out];rfl
   rw[<-e];go_ret;exact⟨rfl,rfl⟩
theorem fMul_walk(a b:Nat)(ha:a<256)(hb:b<256)(w:World):
  Calls Try.prog 10 #[.int .i64 a,.int .i64 b] w fun e w'=>e= .returned (.tuple #[.int .i64 (Gf.mul a b:Nat),.int .i64 0])/\w'=w:=by
 have h1:(decide ((0:Int)<=(a:Int))&&decide ((a:Int)<=255))=true:=by simp;omega
 have h2:(decide ((0:Int)<=(b:Int))&&decide ((b:Int)<=255))=true:=by simp;omega
 go_enter Try.func10,Try.ntmps10;go_wp2_with first|(go_at_call 31;refine(has_walk _ _).mono ?_;rintro _ _ ⟨rfl,rfl⟩;simp only[h1,h2])|(go_at_call 32;refine(mul_walk _ _ (by omega) (by omega) _).mono ?_;rintro _ _ ⟨rfl,rfl⟩)
 go_ret2
 exact⟨rfl,rfl⟩
theorem fInverse_walk(a:Nat)(ha:a<256)(h0:a≠0)(w:World):
  Calls Try.prog 11 #[.int .i64 a] w fun e w'=>e= .returned (.tuple #[.int .i64 (Gf.inv a:Nat),.int .i64 0])/\w'=w:=by
 have h1:(decide ((0:Int)<=(a:Int))&&decide ((a:Int)<=255))=true:=by simp;omega
 have h2:((a:Int)==0)=false:=by simp;omega
 go_enter Try.func11,Try.ntmps11;go_wp2_with first|(go_at_call 31;refine(has_walk _ _).mono ?_;rintro _ _ ⟨rfl,rfl⟩;simp only[h1])|(go_at_call 33;refine(inverse_walk _ (by omega) _).mono ?_;rintro _ _ ⟨rfl,rfl⟩)
 go_ret2
 exact⟨rfl,rfl⟩
open Go.RowKit Go.Deep
theorem hide{p:Prop}(h:p):Hid p:=h
def qS(w:World)(g:Nat)(t:TypeId)(L:List Value):Prop:=w.heap[g]? =some (.cells L.toArray t (0,0))
theorem qS.cell{w:World}{g:Nat}{t:TypeId}{L:List Value}(h:qS w g t L)(i:Nat)(v:Value)(hv:L[i]? =some v):w.cell? ⟨g,i,none⟩=some v:=by
 unfold qS at h;simp[World.cell?,h,hv]
theorem qS.frozen{w:World}{g:Nat}{t:TypeId}{L:List Value}(h:qS w g t L)(i:Nat):w.frozen? ⟨g,i,none⟩=false:=by
 unfold qS at h;simp[World.frozen?,h]
theorem qS.lt{w:World}{g:Nat}{t:TypeId}{L:List Value}(h:qS w g t L):g<w.heap.size:=
 (Array.getElem?_eq_some_iff.1 h).1
theorem qS.of_block{w w':World}{g:Nat}{t:TypeId}{L:List Value}(h:qS w g t L)(e:w'.heap[g]? =w.heap[g]?):qS w' g t L:=e.trans h
theorem qS.below{w w':World}{g B:Nat}{t:TypeId}{L:List Value}(h:qS w g t L)(hb:Below B w w')(hg:g<B):qS w' g t L:=h.of_block (hb.block g hg)
theorem qS.later{w w':World}{g:Nat}{t:TypeId}{L:List Value}(h:qS w g t L)(hb:Below w.heap.size w w'):qS w' g t L:=h.below hb h.lt
theorem qS.set{w:World}{g:Nat}{t:TypeId}{L:List Value}(h:qS w g t L)(i:Nat)(v:Value):qS (w.setCell ⟨g,i,none⟩ v) g t (L.set i v):=by
 unfold qS at*;simp[World.setCell,Array.getElem?_modify,h]
theorem qS.other{w:World}{g:Nat}{t:TypeId}{L:List Value}(h:qS w g t L){a:Addr}(ha:g≠a.block)(v:Value):qS (w.setCell a v) g t L:=
 h.of_block (blk_setCell_other _ _ _ _ ha)
theorem qS.alloc{w:World}{g:Nat}{t:TypeId}{L:List Value}(h:qS w g t L)(o:Obj):qS (w.alloc o) g t L:=h.of_block (blk_alloc_lt _ _ _ h.lt)
theorem qS.drew{w:World}{g:Nat}{t:TypeId}{L:List Value}(h:qS w g t L):qS w.drew g t L:=h
theorem qS.drewN{w:World}{g:Nat}{t:TypeId}{L:List Value}(h:qS w g t L)(n:Nat):qS (w.drewN n) g t L:=h
theorem rowL_alloc(w:World)(L:List Value)(t:TypeId):qS (w.alloc (.cells L.toArray t)) w.heap.size t L:=blk_alloc_new _ _
theorem rowL_alloc'(w:World)(c:Array Value)(t:TypeId):qS (w.alloc (.cells c t)) w.heap.size t c.toList:=by
 have:=blk_alloc_new w (.cells c t);unfold qS;simpa using this
theorem rowL_made(w:World)(z:Value)(n:Nat)(t:TypeId):qS (w.alloc (.cells (madeCells #[z] n) t)) w.heap.size t (List.replicate n z):=by
 have:=rowL_alloc' w (madeCells #[z] n) t;rwa [toList_madeCells_one]at this
theorem qS.unique{w:World}{g:Nat}{t t':TypeId}{L L':List Value}(h:qS w g t L)(h':qS w g t' L'):t=t'/\L=L':=by
 unfold qS at h h';rw[h]at h';simp at h';exact⟨h'.2,h'.1⟩
theorem qS.ne_of_type{w:World}{g g':Nat}{t t':TypeId}{L L':List Value}(h:qS w g t L)(h':qS w g' t' L')(ht:t≠t'):g≠g':=
 fun e=>ht ((by subst e;exact h.unique h':t=t'/\L=L').1)
def i64s(l:List Nat):List Value:=l.map (fun n:Nat=>Value.int .i64 (n:Int))
def u8s(l:List Nat):List Value:=l.map (fun n:Nat=>Value.int .u8 (n:Int))
theorem i64s_at{l:List Nat}{i:Nat}(h:i<l.length):(i64s l)[i]? =some (.int .i64 ((l[i]?.getD 0:Nat):Int)):=by simp[i64s,h]
theorem u8s_at{l:List Nat}{i:Nat}(h:i<l.length):(u8s l)[i]? =some (.int .u8 ((l[i]?.getD 0:Nat):Int)):=by simp[u8s,h]
theorem i64s_length(l:List Nat):(i64s l).length=l.length:=by simp[i64s]
theorem u8s_length(l:List Nat):(u8s l).length=l.length:=by simp[u8s]
def fill{α:Type}(L:List α)(d:α)(k:Nat):List α:=L.take k++List.replicate (L.length-k) d
theorem fill_length{α:Type}(L:List α)(d:α)(k:Nat)(h:k<=L.length):(fill L d k).length=L.length:=by simp[fill];omega
theorem fill_zero{α:Type}(L:List α)(d:α):fill L d 0=List.replicate L.length d:=by simp[fill]
theorem fill_all{α:Type}(L:List α)(d:α):fill L d L.length=L:=by simp[fill]
theorem fill_at{α:Type}(L:List α)(d:α)(k:Nat)(h:k<L.length):(fill L d k)[k]? =some d:=by
 unfold fill;rw[List.getElem?_append_right (by simp;omega),List.getElem?_replicate,if_pos (by simp;omega)]
theorem fill_set{α:Type}(L:List α)(d:α)(k:Nat)(v:α)(h:L[k]? =some v):(fill L d k).set k v=fill L d (k+1):=by
 have hk:k<L.length:=(List.getElem?_eq_some_iff.1 h).1;apply List.ext_getElem?;intro i;unfold fill;rw[List.getElem?_set];by_cases e:k=i
 ·subst e;rw[if_pos rfl,if_pos (by simp;omega),List.getElem?_append_left (by simp;omega),List.getElem?_take,if_pos (by omega),h]
 ·rw[if_neg e];by_cases hi:i<k
  ·rw[List.getElem?_append_left (by simp;omega),List.getElem?_append_left (by simp;omega),List.getElem?_take,List.getElem?_take,if_pos hi,if_pos (by omega)]
  ·rw[List.getElem?_append_right (by simp;omega),List.getElem?_append_right (by simp;omega)];simp only[List.length_take,List.getElem?_replicate];have e1:min k L.length=k:=by omega
   have e2:min (k+1) L.length=k+1:=by omega
   rw[e1,e2];by_cases hl:i<L.length
   ·rw[if_pos (by omega),if_pos (by omega)]
   ·rw[if_neg (by omega),if_neg (by omega)]
theorem cell3_0(w:World)(a b c:Value)(t:TypeId):(w.alloc (.cells #[a,b,c] t)).cell? ⟨w.heap.size,0,none⟩=some a:=(rowL_alloc' w #[a,b,c] t).cell 0 _ rfl
theorem cell3_1(w:World)(a b c:Value)(t:TypeId):(w.alloc (.cells #[a,b,c] t)).cell? ⟨w.heap.size,1,none⟩=some b:=(rowL_alloc' w #[a,b,c] t).cell 1 _ rfl
theorem cell3_2(w:World)(a b c:Value)(t:TypeId):(w.alloc (.cells #[a,b,c] t)).cell? ⟨w.heap.size,2,none⟩=some c:=(rowL_alloc' w #[a,b,c] t).cell 2 _ rfl
def leftOf(m n:Nat):Nat:=m-n
theorem qD{b x y:Nat}(h:x<y)(hb:x<b):leftOf b y<leftOf b x:=by unfold leftOf;omega
def mix{α:Type}(P S:List α)(k:Nat):List α:=P.take k++S.drop k
theorem mix_zero{α:Type}(P S:List α):mix P S 0=S:=by simp[mix]
theorem mix_all{α:Type}(P S:List α)(h:P.length=S.length):mix P S S.length=P:=by simp[mix,<-h]
theorem mix_at{α:Type}(P S:List α)(k:Nat)(h:P.length=S.length)(hk:k<S.length):(mix P S k)[k]? =S[k]? :=by
 unfold mix;rw[List.getElem?_append_right (by simp;omega)];simp;congr 1;omega
theorem mix_set{α:Type}(P S:List α)(k:Nat)(v:α)(h:P.length=S.length)(hv:P[k]? =some v):(mix P S k).set k v=mix P S (k+1):=by
 have hk:k<P.length:=(List.getElem?_eq_some_iff.1 hv).1;apply List.ext_getElem?;intro i;unfold mix;rw[List.getElem?_set];by_cases e:k=i
 ·subst e;rw[if_pos rfl,if_pos (by simp;omega),List.getElem?_append_left (by simp;omega),List.getElem?_take,if_pos (by omega),hv]
 ·rw[if_neg e];by_cases hi:i<k
  ·rw[List.getElem?_append_left (by simp;omega),List.getElem?_append_left (by simp;omega),List.getElem?_take,List.getElem?_take,if_pos hi,if_pos (by omega)]
  ·rw[List.getElem?_append_right (by simp;omega),List.getElem?_append_right (by simp;omega)];simp only[List.length_take,List.getElem?_drop];congr 1;omega
theorem getD_lt{l:List Nat}{k b:Nat}(h:∀x∈l,x<b)(hk:k<l.length):l[k]?.getD 0<b:=by
 have:l[k]? =some l[k]:=by simp[hk]
 rw[this];exact h _ (List.getElem_mem hk)
theorem getD_some{l:List Nat}{k:Nat}(hk:k<l.length):l[k]? =some (l[k]?.getD 0):=by simp[hk]
theorem grownBy_setCell{w w':World}{g:Nat}(h:w.grownBy w' (some g))(i:Nat)(v:Value):w.grownBy (w'.setCell ⟨g,i,none⟩ v) (some g):=
 ⟨h.os,h.tape,h.output,by simpa[World.setCell]using h.size,fun k hk hne=>by
  rw[blk_setCell_other _ _ _ _ (fun e=>hne (by rw[e]))];exact h.block k hk hne⟩
theorem grownBy_drew{w w':World}{r:Option Nat}(h:w.grownBy w' r):w.grownBy w'.drew r:=⟨h.os,h.tape,h.output,h.size,h.block⟩
theorem grownBy_trans{w w' w'':World}{r:Option Nat}(h:w.grownBy w' r)(h':w'.grownBy w'' r):w.grownBy w'' r:=
 ⟨h'.os.trans h.os,h'.tape.trans h.tape,h'.output.trans h.output,Nat.le_trans h.size h'.size,fun k hk hne=>(h'.block k (Nat.lt_of_lt_of_le hk h.size) hne).trans (h.block k hk hne)⟩
theorem news_at(w:World)(L:List Value)(t:TypeId)(n:Nat)(h:n=w.heap.size):∀j u,L[j]? =some u->(w.alloc (.cells L.toArray t)).cell? ((⟨n,0,none⟩:Addr).add j)=some u:=by
 subst h;intro j u hu;rw[Addr.add_lit];have:=(rowL_alloc w L t).cell j u hu;simpa using this
end Go.Proofs.Ytmfpiodlecapiaa
namespace Go.Proofs.Ytmfpiodlecapiaa.Cut
def pieces(len s:Nat):Nat:=max 1 ((len+s-1)/s)
def blocks(n m:Nat):Nat:=(n+m-1)/m
def shareL(n z:Nat):List Nat:=(List.range z).map (fun i=>n/z+if i<n%z then 1 else 0)
def sizes(len s m:Nat):List Nat:=shareL (pieces len s) (blocks (pieces len s) m)
theorem shareL_length(n z:Nat):(shareL n z).length=z:=by simp[shareL]
theorem pieces_pos(len s:Nat):1<=pieces len s:=by unfold pieces;omega
theorem pieces_le{len s:Nat}(hl:len<=2000)(hs:1<=s):pieces len s<=2000:=by
 unfold pieces;have:(len+s-1)/s<=2000:=by
  rw[Nat.div_le_iff_le_mul (by omega)];have:2000*1<=2000*s:=Nat.mul_le_mul_left _ hs;have h2:1999*1<=1999*s:=Nat.mul_le_mul_left _ hs;omega
 omega
theorem blocks_pos{n m:Nat}(hn:1<=n)(hm:1<=m):1<=blocks n m:=by
 unfold blocks;rw[Nat.le_div_iff_mul_le (by omega)];omega
theorem blocks_le{n m:Nat}(hn:1<=n)(hm:1<=m):blocks n m<=n:=by
 unfold blocks;rw[Nat.div_le_iff_le_mul (by omega)];have:n*1<=n*m:=Nat.mul_le_mul_left _ hm;obtain⟨k,rfl⟩:∃k,n=k+1:=⟨n-1,by omega⟩;have:k*1<=k*m:=Nat.mul_le_mul_left _ hm;rw[Nat.succ_mul];omega
theorem share_sum(q r:Nat):∀k,((List.range k).map (fun i=>q+if i<r then 1 else 0)).sum=k*q+min k r:=by
 intro k;induction k with
 |zero=>simp
 |succ k ih=>
  rw[List.range_succ,List.map_append,List.sum_append,ih,Nat.succ_mul];simp;split<;>omega
theorem shareL_sum{n z:Nat}(hz:1<=z):(shareL n z).sum=n:=by
 unfold shareL;rw[share_sum];have:=Nat.mod_lt n (show 0<z by omega);have h2:=Nat.div_add_mod n z;have e:min z (n%z)=n%z:=by omega
 rw[e];exact h2
theorem shareL_bounds{n z m:Nat}(hz:1<=z)(hzn:z<=n)(hm:n<=z*m):∀k∈shareL n z,1<=k/\k<=m:=by
 intro k hk;simp only[shareL,List.mem_map,List.mem_range]at hk;obtain⟨i,hi,rfl⟩:=hk;have h1:1<=n/z:=by rw[Nat.le_div_iff_mul_le (by omega)];omega
 have h2:=Nat.div_add_mod n z;have h3:=Nat.mod_lt n (show 0<z by omega);refine⟨by omega,?_⟩;split
 ·rename_i h;rcases Nat.lt_or_ge (n/z) m with h4|h4
  ·omega
  ·have:=Nat.mul_le_mul_left z h4;omega
 ·rcases Nat.lt_or_ge m (n/z)with h4|h4
  ·have:=Nat.mul_le_mul_left z h4;rw[Nat.mul_succ]at this;omega
  ·omega
theorem blocks_cover{n m:Nat}(hm:1<=m):n<=blocks n m*m:=by
 unfold blocks;have:=Nat.div_add_mod (n+m-1) m;have h2:=Nat.mod_lt (n+m-1) (show 0<m by omega);rw[Nat.mul_comm];omega
theorem pieces_cover{len s:Nat}(hs:1<=s):len<=pieces len s*s:=by
 have h:=blocks_cover (n:=len) (m:=s) hs;unfold blocks at h;unfold pieces;have:(len+s-1)/s*s<=max 1 ((len+s-1)/s)*s:=Nat.mul_le_mul_right _ (by omega);omega
theorem sizes_sum{len s m:Nat}(hm:1<=m):(sizes len s m).sum=pieces len s:=shareL_sum (blocks_pos (pieces_pos _ _) hm)
theorem sizes_length(len s m:Nat):(sizes len s m).length=blocks (pieces len s) m:=shareL_length _ _
theorem sizes_bounds{len s m:Nat}(hm:1<=m):∀k∈sizes len s m,1<=k/\k<=m:=
 shareL_bounds (blocks_pos (pieces_pos _ _) hm) (blocks_le (pieces_pos _ _) hm) (blocks_cover hm)
end Go.Proofs.Ytmfpiodlecapiaa.Cut
namespace Go.Proofs.Ytmfpiodlecapiaa
open Go.RowKit
theorem Try.infoInt:(Try.prog.info? 3).map (fun i=>(i.zero,i.size,i.bytes))=some (some (.int .i64 0),1,8):=by kernel_rfl
theorem within_walk(n l m:Int)(w:World):
  Calls Try.prog 78 #[.int .i64 n,.int .i64 l,.int .i64 m] w fun e w'=>e= .returned (.bool (decide (l<=n)&&decide (n<=m)))/\w'=w:=by
 by_cases h:l<=n
 ·go_enter Try.func78,Try.ntmps78;go_wp2;go_ret;exact⟨by simp[h],rfl⟩
 ·go_enter Try.func78,Try.ntmps78;go_wp2;go_ret
  exact⟨by have:¬(l<=n):=by omega
           simp[this],rfl⟩
theorem isLength_walk(n:Int)(w:World):
  Calls Try.prog 61 #[.int .i64 n] w fun e w'=>e= .returned (.bool (decide (0<=n)&&decide (n<=2000)))/\w'=w:=by
 go_enter Try.func61,Try.ntmps61;go_wp2_with (go_at_call 78;refine(within_walk _ _ _ _).mono ?_;rintro _ _ ⟨rfl,rfl⟩)
 go_ret;exact⟨rfl,rfl⟩
theorem divideUp_walk(a b:Nat)(ha:a<4294967296)(hb:b<4294967296)(hb0:0<b)(w:World):
  Calls Try.prog 63 #[.int .i64 a,.int .i64 b] w fun e w'=>e= .returned (.int .i64 (((a+b-1)/b:Nat):Int))/\w'=w:=by
 have e:(((a+b-1)/b:Nat):Int)=((a:Int)+(b:Int)-1)/(b:Int):=by
  rw[Int.natCast_ediv];congr 1;omega
 rw[e];clear e;go_enter Try.func63,Try.ntmps63;go_wp2;go_ret;exact⟨rfl,rfl⟩
def planOk(s m p:Int):Prop:=1<=s/\s<=16/\1<=m/\m<=20/\0<=p/\p<=20
def planB(s m p:Int):Bool:=decide (1<=s/\s<=16/\1<=m/\m<=20/\0<=p/\p<=20)
theorem planB_true{s m p:Int}(h:planOk s m p):planB s m p=true:=decide_eq_true h
theorem planB_false{s m p:Int}(h:¬planOk s m p):planB s m p=false:=decide_eq_false h
theorem isPlan_walk(s m p:Int)(w:World):
  Calls Try.prog 62 #[.agg #[.int .i64 s,.int .i64 m,.int .i64 p]] w fun e w'=>e= .returned (.bool (planB s m p))/\Below w.heap.size w w':=by
 by_cases h1:1<=s/\s<=16
 ·by_cases h2:1<=m/\m<=20
  ·by_cases h3:0<=p/\p<=20
   ·have e1:(decide (1<=s)&&decide (s<=16))=true:=by simp;omega
    have e2:(decide (1<=m)&&decide (m<=20))=true:=by simp;omega
    have e3:(decide (0<=p)&&decide (p<=20))=true:=by simp;omega
    have e:planB s m p=true:=planB_true (by unfold planOk;omega);rw[e];clear e h1 h2 h3;go_enter Try.func62,Try.ntmps62;go_wp2_with (go_at_call 78;refine(within_walk _ _ _ _).mono ?_;rintro _ _ ⟨rfl,rfl⟩;simp only[e1,e2,e3])
    go_ret;exact⟨rfl,(Below.refl _ _).alloc (Nat.le_refl _) _⟩
   ·have e1:(decide (1<=s)&&decide (s<=16))=true:=by simp;omega
    have e2:(decide (1<=m)&&decide (m<=20))=true:=by simp;omega
    have e3:(decide (0<=p)&&decide (p<=20))=false:=by simp;omega
    have e:planB s m p=false:=planB_false (by unfold planOk;omega);rw[e];clear e h1 h2 h3;go_enter Try.func62,Try.ntmps62;go_wp2_with (go_at_call 78;refine(within_walk _ _ _ _).mono ?_;rintro _ _ ⟨rfl,rfl⟩;simp only[e1,e2,e3])
    go_ret;exact⟨rfl,(Below.refl _ _).alloc (Nat.le_refl _) _⟩
  ·have e1:(decide (1<=s)&&decide (s<=16))=true:=by simp;omega
   have e2:(decide (1<=m)&&decide (m<=20))=false:=by simp;omega
   have e:planB s m p=false:=planB_false (by unfold planOk;omega);rw[e];clear e h1 h2;go_enter Try.func62,Try.ntmps62;go_wp2_with (go_at_call 78;refine(within_walk _ _ _ _).mono ?_;rintro _ _ ⟨rfl,rfl⟩;simp only[e1,e2])
   go_ret;exact⟨rfl,(Below.refl _ _).alloc (Nat.le_refl _) _⟩
 ·have e1:(decide (1<=s)&&decide (s<=16))=false:=by simp;omega
  have e:planB s m p=false:=planB_false (by unfold planOk;omega);rw[e];clear e h1;go_enter Try.func62,Try.ntmps62;go_wp2_with (go_at_call 78;refine(within_walk _ _ _ _).mono ?_;rintro _ _ ⟨rfl,rfl⟩;simp only[e1])
  go_ret;exact⟨rfl,(Below.refl _ _).alloc (Nat.le_refl _) _⟩
theorem share_walk(n z:Nat)(hn:n<=4096)(hz:z<=4096)(hz0:0<z)(w:World):
  Calls Try.prog 64 #[.int .i64 n,.int .i64 z] w fun e w'=>e= .returned (.slice (some ⟨w.heap.size,0,none⟩) z z)/\Below w.heap.size w w'/\qS w' w.heap.size 3 (i64s (Cut.shareL n z)):=by
 obtain⟨i0,hi,hz0',hz1,hz2⟩:=info_parts Try.infoInt;go_enter Try.func64,Try.ntmps64;go_wp2_with (at_make;refine wpList_make_row _ rfl _ _ 42 rfl 3 i0 (.int .i64 0) Try.underlying42 hi hz0' hz1 rfl .i64 .i64 z rfl rfl (by rw[hz2];omega) (by omega) ?_)
 have hb0:Below w.heap.size w (w.alloc (.cells (madeCells #[.int .i64 0] z) 3)):=(Below.refl _ _).alloc (Nat.le_refl _) _;have hr0:qS (w.alloc (.cells (madeCells #[.int .i64 0] z) 3)) w.heap.size 3 (fill (i64s (Cut.shareL n z)) (.int .i64 0) 0):=by
  rw[fill_zero,i64s_length,Cut.shareL_length];exact rowL_made _ _ _ _
 go_loopw [11] (fun i wr=>∃k:Nat,k<=z/\i= .int .i64 k/\Below w.heap.size w wr/\qS wr w.heap.size 3 (fill (i64s (Cut.shareL n z)) (.int .i64 0) k))
  (fun i _=>z-(intOf i).toNat)
 case atStart=>exact⟨0,by omega,rfl,hb0,hr0⟩
 case round=>
  obtain⟨k,hk,rfl,hb,hr⟩:=hrel;clear hb0 hr0;by_cases hkz:k<z
  ·have hlen:k<(i64s (Cut.shareL n z)).length:=by rw[i64s_length,Cut.shareL_length];exact hkz
   have hc:=hr.cell k _ (fill_at _ _ _ hlen);have hf:=hr.frozen k;have hv:(i64s (Cut.shareL n z))[k]? =some (.int .i64 ((n/z+if k<n%z then 1 else 0:Nat):Int)):=by
    simp[i64s,Cut.shareL,hkz]
   have eq0:(n:Int)/(z:Int)=((n/z:Nat):Int):=by simp
   have hq0:0<=(n:Int)/(z:Int):=by rw[eq0];exact Int.natCast_nonneg _
   have hq:(n:Int)/(z:Int)<=4096:=by
    have:n/z<=n:=Nat.div_le_self _ _;rw[eq0];omega
   have hE:=hide eq0;clear eq0;by_cases hm:k<n%z
   ·have hm':(k:Int)<(n:Int)%(z:Int):=by omega
    have hR:=hide hr;have hB:=hide hb;have hV:=hide hv
    clear hr hb hv;go_wp2;go_roundw
    case rel=>
     refine⟨k+1,by omega,by go_num,(hB.out.setCell (Nat.le_refl _) _).setCell (Nat.le_refl _) _,?_⟩;have:=(hR.out.set k (.int .i64 ((n:Int)/(z:Int)))).set k (.int .i64 ((n:Int)/(z:Int)+1));rw[List.set_set,fill_set]at this
     ·exact this
     ·rw[hV.out,if_pos hm,hE.out];rfl
    case measure=>simp[intOf];omega
   ·have hm':¬(k:Int)<(n:Int)%(z:Int):=by omega
    have hR:=hide hr;have hB:=hide hb;have hV:=hide hv
    clear hr hb hv;go_wp2;go_roundw
    case rel=>
     refine⟨k+1,by omega,by go_num,(hB.out.setCell (Nat.le_refl _) _),?_⟩;have:=(hR.out.set k (.int .i64 ((n:Int)/(z:Int))));rw[fill_set]at this
     ·exact this
     ·rw[hV.out,if_neg hm,hE.out];rfl
    case measure=>simp[intOf];omega
  ·have e:k=z:=by omega
   subst e;have hr':qS wr w.heap.size 3 (i64s (Cut.shareL n k)):=by
    have h2:=fill_all (i64s (Cut.shareL n k)) (Value.int .i64 0);rw[i64s_length,Cut.shareL_length]at h2;rw[h2]at hr;exact hr
   have hR:=hide hr';have hB:=hide hb
   clear hr hr' hb;go_wp2;go_ret;exact⟨rfl,hB.out,hR.out⟩
theorem cutBlocks_coreA(len s m p q Z:Nat)(hl:len<=2000)(h1:1<=s)(h2:s<=16)(h3:1<=m)(h4:m<=20)(h5:p<=20)
  (hq:1<q)(hq2:q<=2000)(hZ1:1<=Z)(_hZ2:Z<=q)(d1:(len+s-1)/s=q)(d2:(q+m-1)/m=Z)(w:World):
  (Z<=256->Calls Try.prog 44 #[.int .i64 len,.agg #[.int .i64 s,.int .i64 m,.int .i64 p]] w fun e w'=>
   ∃g,w.heap.size<=g/\e= .returned (.tuple #[.slice (some ⟨g,0,none⟩) Z Z,.bool true])/\Below w.heap.size w w'/\qS w' g 3 (i64s (Cut.shareL q Z)))/\
  (¬Z<=256->Calls Try.prog 44 #[.int .i64 len,.agg #[.int .i64 s,.int .i64 m,.int .i64 p]] w fun e w'=>
   e= .returned (.tuple #[.slice none 0 0,.bool false])/\Below w.heap.size w w'):=by
 have hb0:=hide ((Below.refl w.heap.size w).alloc (Nat.le_refl _) (.cells #[.int .i64 s,.int .i64 m,.int .i64 p] 30));have e1:(decide ((0:Int)<=(len:Int))&&decide ((len:Int)<=2000))=true:=by simp;omega
 have e2:planB s m p=true:=planB_true (by unfold planOk;omega);constructor
 ·intro hc;go_enter Try.func44,Try.ntmps44;go_wp2_with first|(go_at_call 61;refine(isLength_walk _ _).mono ?_;rintro _ _ ⟨rfl,rfl⟩;simp only[e1])|(go_at_call 62;refine(isPlan_walk _ _ _ _).mono ?_;rintro _ w1 ⟨rfl,hb1⟩;have c0:=cell_later hb1 (cell3_0 w _ _ _ _);have c1:=cell_later hb1 (cell3_1 w _ _ _ _);replace hb1:=hide hb1;simp only[e2])
  refine(divideUp_walk _ _ (by omega) (by omega) (by omega) _).mono ?_;rintro _ _ ⟨rfl,rfl⟩;simp only[d1];go_wp2_with first|(go_at_call 63;refine(divideUp_walk _ _ (by omega) (by omega) (by omega) _).mono ?_;rintro _ _ ⟨rfl,rfl⟩;simp only[d2])|(go_at_call 64;refine(share_walk _ _ (by omega) (by omega) (by omega) _).mono ?_;rintro _ w2 ⟨rfl,hb2,hr2⟩;replace hb2:=hide hb2;replace hr2:=hide hr2)
  go_ret2
  exact⟨_,Nat.le_trans hb0.out.size hb1.out.size,rfl,(hb0.out.trans (hb1.out.mono (by simp))).trans (hb2.out.mono (Nat.le_trans hb0.out.size hb1.out.size)),hr2.out⟩
 ·intro hc;go_enter Try.func44,Try.ntmps44;go_wp2_with first|(go_at_call 61;refine(isLength_walk _ _).mono ?_;rintro _ _ ⟨rfl,rfl⟩;simp only[e1])|(go_at_call 62;refine(isPlan_walk _ _ _ _).mono ?_;rintro _ w1 ⟨rfl,hb1⟩;have c0:=cell_later hb1 (cell3_0 w _ _ _ _);have c1:=cell_later hb1 (cell3_1 w _ _ _ _);replace hb1:=hide hb1;simp only[e2])
  refine(divideUp_walk _ _ (by omega) (by omega) (by omega) _).mono ?_;rintro _ _ ⟨rfl,rfl⟩;simp only[d1];go_wp2_with (go_at_call 63;refine(divideUp_walk _ _ (by omega) (by omega) (by omega) _).mono ?_;rintro _ _ ⟨rfl,rfl⟩;simp only[d2])
  go_ret2
  exact⟨rfl,hb0.out.trans (hb1.out.mono (by simp))⟩
theorem cutBlocks_coreB(len s m p q Z:Nat)(hl:len<=2000)(h1:1<=s)(h2:s<=16)(h3:1<=m)(h4:m<=20)(h5:p<=20)
  (hq:q<=1)(hZ1:1<=Z)(hZ2:Z<=1)(d1:(len+s-1)/s=q)(d2:(1+m-1)/m=Z)(w:World):
  (Z<=256->Calls Try.prog 44 #[.int .i64 len,.agg #[.int .i64 s,.int .i64 m,.int .i64 p]] w fun e w'=>
   ∃g,w.heap.size<=g/\e= .returned (.tuple #[.slice (some ⟨g,0,none⟩) Z Z,.bool true])/\Below w.heap.size w w'/\qS w' g 3 (i64s (Cut.shareL 1 Z)))/\
  (¬Z<=256->Calls Try.prog 44 #[.int .i64 len,.agg #[.int .i64 s,.int .i64 m,.int .i64 p]] w fun e w'=>
   e= .returned (.tuple #[.slice none 0 0,.bool false])/\Below w.heap.size w w'):=by
 have hb0:=hide ((Below.refl w.heap.size w).alloc (Nat.le_refl _) (.cells #[.int .i64 s,.int .i64 m,.int .i64 p] 30));have e1:(decide ((0:Int)<=(len:Int))&&decide ((len:Int)<=2000))=true:=by simp;omega
 have e2:planB s m p=true:=planB_true (by unfold planOk;omega);have D1:Hid (∀w,Calls Try.prog 63 #[.int .i64 1,.int .i64 m] w fun e w'=>e= .returned (.int .i64 (Z:Int))/\w'=w):=by
  intro w;have:=divideUp_walk 1 m (by omega) (by omega) (by omega) w;rw[d2]at this;exact this
 constructor
 ·intro hc;go_enter Try.func44,Try.ntmps44;go_wp2_with first|(go_at_call 61;refine(isLength_walk _ _).mono ?_;rintro _ _ ⟨rfl,rfl⟩;simp only[e1])|(go_at_call 62;refine(isPlan_walk _ _ _ _).mono ?_;rintro _ w1 ⟨rfl,hb1⟩;have c0:=cell_later hb1 (cell3_0 w _ _ _ _);have c1:=cell_later hb1 (cell3_1 w _ _ _ _);replace hb1:=hide hb1;simp only[e2])
  refine(divideUp_walk _ _ (by omega) (by omega) (by omega) _).mono ?_;rintro _ _ ⟨rfl,rfl⟩;simp only[d1];go_wp2_with first|(go_at_call 63;refine(D1.out _).mono ?_;rintro _ _ ⟨rfl,rfl⟩)|(go_at_call 64;refine(share_walk 1 _ (by omega) (by omega) (by omega) _).mono ?_;rintro _ w2 ⟨rfl,hb2,hr2⟩;replace hb2:=hide hb2;replace hr2:=hide hr2)
  go_ret2
  exact⟨_,Nat.le_trans hb0.out.size hb1.out.size,rfl,(hb0.out.trans (hb1.out.mono (by simp))).trans (hb2.out.mono (Nat.le_trans hb0.out.size hb1.out.size)),hr2.out⟩
 ·intro hc;omega
theorem cutBlocks_walk(len s m p:Nat)(hl:len<=2000)(h1:1<=s)(h2:s<=16)(h3:1<=m)(h4:m<=20)(h5:p<=20)(w:World):
  (Cut.blocks (Cut.pieces len s) m<=256->Calls Try.prog 44 #[.int .i64 len,.agg #[.int .i64 s,.int .i64 m,.int .i64 p]] w fun e w'=>
   ∃g,w.heap.size<=g/\e= .returned (.tuple #[.slice (some ⟨g,0,none⟩) (Cut.blocks (Cut.pieces len s) m) (Cut.blocks (Cut.pieces len s) m),.bool true])/\Below w.heap.size w w'/\qS w' g 3 (i64s (Cut.sizes len s m)))/\
  (¬Cut.blocks (Cut.pieces len s) m<=256->Calls Try.prog 44 #[.int .i64 len,.agg #[.int .i64 s,.int .i64 m,.int .i64 p]] w fun e w'=>
   e= .returned (.tuple #[.slice none 0 0,.bool false])/\Below w.heap.size w w'):=by
 have hN1:=Cut.pieces_pos len s;have hN2:=Cut.pieces_le hl h1;have hZ1:=Cut.blocks_pos hN1 h3;have hZ2:=Cut.blocks_le hN1 h3;unfold Cut.sizes;by_cases hq:1<(len+s-1)/s
 ·have e:Cut.pieces len s=(len+s-1)/s:=by unfold Cut.pieces;omega
  rw[e]at hN2 hZ1 hZ2⊢;exact cutBlocks_coreA len s m p _ _ hl h1 h2 h3 h4 h5 hq hN2 hZ1 hZ2 rfl rfl w
 ·have e:Cut.pieces len s=1:=by unfold Cut.pieces;omega
  rw[e]at hN2 hZ1 hZ2⊢;exact cutBlocks_coreB len s m p _ _ hl h1 h2 h3 h4 h5 (by omega) hZ1 hZ2 rfl rfl w
theorem fBlocks_walk(len s m p:Nat)(hl:len<=2000)(h1:1<=s)(h2:s<=16)(h3:1<=m)(h4:m<=20)(h5:p<=20)(hc:Cut.blocks (Cut.pieces len s) m<=256)(w:World):
  Calls Try.prog 23 #[.int .i64 len,.agg #[.int .i64 s,.int .i64 m,.int .i64 p]] w fun e w'=>
   ∃g,w.heap.size<=g/\e= .returned (.tuple #[.slice (some ⟨g,0,none⟩) (Cut.blocks (Cut.pieces len s) m) (Cut.blocks (Cut.pieces len s) m),.int .i64 0])/\Below w.heap.size w w'/\qS w' g 3 (i64s (Cut.sizes len s m)):=by
 have hb0:=hide ((Below.refl w.heap.size w).alloc (Nat.le_refl _) (.cells #[.int .i64 s,.int .i64 m,.int .i64 p] 30));have C:=hide (fun w=>(cutBlocks_walk len s m p hl h1 h2 h3 h4 h5 w).1 hc);clear hc;revert C;generalize Cut.blocks (Cut.pieces len s) m=Z;intro C;go_enter Try.func23,Try.ntmps23;go_wp2_with (go_at_call 44;refine(C.out _).mono ?_;rintro _ w1 ⟨g,hg,rfl,hb1,hr1⟩;replace hb1:=hide hb1;replace hr1:=hide hr1)
 go_ret2
 exact⟨g,by simp at hg;omega,rfl,hb0.out.trans (hb1.out.mono (by simp)),hr1.out⟩
end Go.Proofs.Ytmfpiodlecapiaa
