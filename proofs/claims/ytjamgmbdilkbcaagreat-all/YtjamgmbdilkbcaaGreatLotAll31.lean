import Derived.Test.YtjamgmbdilkbcaaGreatLotAll29
import Derived.Test.YtjamgmbdilkbcaaGreatLotAll30
namespace Go.Proofs.YtjamgmbdilkbcaaGreat
open Go.RowKit Mc
structure Fv where
 code:List (Int × Int)
 next:Int
 stk:List Int
 plc:Nat->Int
structure Vm where
 fs:List Fv
 acc:Nat->Bool × Int
 used:Int
 over:Bool
 err:Int
 code:Int
namespace Fv
def put(F:Fv)(n:Int):Fv:=if F.stk.length<16 then { F with stk:=n::F.stk } else F
def top(F:Fv):Int:=F.stk.headD 0
def pop(F:Fv):Fv:={ F with stk:=F.stk.tail }
def keep(F:Fv)(p n:Int):Fv:=if p<0\/8<=p then F else { F with plc:=fun j=>if j=p.toNat then n else F.plc j }
def heldAt(F:Fv)(p:Int):Int:=if p<0\/8<=p then 0 else F.plc p.toNat
def goto(F:Fv)(n:Int):Fv:={ F with next:=n }
def fresh(c:List (Int × Int)):Fv:=⟨c,0,[],fun _=>0⟩
def putAll:List Int->Fv->Fv
 | [],F=>F
 | n::l,F=>putAll l (F.put n)
def args:Nat->Fv->Fv->Fv × Fv
 | 0,F,G=>(F,G)
 | k+1,F,G=>args k F.pop (G.keep k F.top)
def do_(F:Fv)(op arg:Int):Fv:=
 if op=1 then F.put arg
 else if op=6 then F.goto arg
 else if op=7 then(if F.top≠0 then F.pop.goto arg else F.pop)
 else if op=8\/op=9 then F.put (F.heldAt arg)
 else if op=10 then F.pop.keep arg F.top
 else if op=11 then F.pop
 else F
end Fv
def setAc(A:Nat->Bool × Int)(who kind:Int)(v:Bool × Int):Nat->Bool × Int:=fun j=>if j=at_ who kind then v else A j
namespace Vm
def giveUp(V:Vm)(e:Int):Vm:={ V with over:=true,err:=e }
def act(m:Pu.Md)(who:Int)(V:Vm)(F:Fv)(fs:List Fv)(x:Int × Int):Vm:=
 if x.1=0 then(match fs with | []=>{ V with over:=true }|G::gs=>{ V with fs:=Fv.putAll F.stk.reverse G::gs })
 else if x.1=14 then
  if 8<=fs.length+1 then V.giveUp 9
  else if x.2<0\/(m.funcs.length:Int)<=x.2 then V.giveUp 3
  else { V with fs:=(Fv.args (m.funcs.getD x.2.toNat ⟨[],[],[],[]⟩).params.length F (Fv.fresh (m.funcs.getD x.2.toNat ⟨[],[],[],[]⟩).code)).2::(Fv.args (m.funcs.getD x.2.toNat ⟨[],[],[],[]⟩).params.length F (Fv.fresh (m.funcs.getD x.2.toNat ⟨[],[],[],[]⟩).code)).1::fs }
 else if x.1=2\/x.1=3\/x.1=4\/x.1=5 then
  if reckonN x.1 F.pop.top F.top<0\/1000000000<reckonN x.1 F.pop.top F.top then V.giveUp 6 else { V with fs:=F.pop.pop.put (reckonN x.1 F.pop.top F.top)::fs }
 else if x.1=15 then
  if(amountS V.acc who x.2).2≠0 then V.giveUp (amountS V.acc who x.2).2 else { V with acc:=setAc V.acc who x.2 (false,0),fs:=F.put (amountS V.acc who x.2).1::fs }
 else if x.1=16 then
  if(lookS V.acc F.top x.2).2≠0 then V.giveUp (lookS V.acc F.top x.2).2
  else if(lookS V.acc F.top x.2).1.1=true then V.giveUp 8
  else { V with acc:=setAc V.acc F.top x.2 (true,F.pop.top),fs:=F.pop.pop::fs }
 else if x.1=17 then
  if(lookS V.acc F.top x.2).2≠0 then V.giveUp (lookS V.acc F.top x.2).2 else { V with fs:=F.pop.put (if(lookS V.acc F.top x.2).1.1=true then 1 else 0)::fs }
 else if x.1=18 then { V.giveUp 10 with code:=x.2 }
 else { V with fs:=F.do_ x.1 x.2::fs }
def step(m:Pu.Md)(who:Int)(V:Vm):Vm:=
 match V.fs with
 | []=>V.giveUp 3
 | F::fs=>if F.next<0\/(F.code.length:Int)<=F.next then V.giveUp 3 else act m who V (F.goto (F.next+1)) fs (F.code.getD F.next.toNat (0,0))
def tick(V:Vm):Vm:={ V with used:=V.used+1 }
def go(m:Pu.Md)(who gas:Int):Nat->Vm->Vm
 | 0,V=>V
 | n+1,V=>if V.over=true\/¬V.used<gas then V else go m who gas n (V.tick.step m who)
def goOn(m:Pu.Md)(who gas:Int)(V:Vm):Vm:=if(go m who gas gas.toNat V).over=true then go m who gas gas.toNat V else(go m who gas gas.toNat V).giveUp 5
def start(f:Pu.Fn)(A:Nat->Bool × Int):Vm:=⟨[Fv.fresh f.code],A,0,false,0,0⟩
end Vm
structure FrV (M:Mc) (d:Nat) (F:Fv):Prop where
 cd:M.cd d=F.code
 next:M.next d=F.next
 hgt:M.hgt d=F.stk.length
 le:F.stk.length<=16
 stk:∀i,i<F.stk.length->M.stk d i=F.stk.reverse.getD i 0
 plc:∀i,i<8->M.plc d i=F.plc i
theorem getD_snoc_lt(l:List Int)(a:Int){i:Nat}(h:i<l.length):(l++[a]).getD i 0=l.getD i 0:=by
 rw[List.getD_eq_getElem?_getD,List.getD_eq_getElem?_getD,List.getElem?_append_left h]
theorem getD_snoc_eq(l:List Int)(a:Int):(l++[a]).getD l.length 0=a:=by
 rw[List.getD_eq_getElem?_getD,List.getElem?_append_right (Nat.le_refl _)];simp
theorem setI_at(M:Mc)(i j:Nat)(n:Int):(M.setI i n).ints j=if j=i then n else M.ints j:=rfl
namespace FrV
variable {M:Mc} {d:Nat} {F:Fv}
theorem put(h:FrV M d F)(n:Int):FrV (M.put d n) d (F.put n):=by
 have hh:=h.hgt
 unfold Mc.put Fv.put
 by_cases hl:F.stk.length<16
 ·rw[if_pos (by omega),if_pos hl]
  have ht:(M.hgt d).toNat=F.stk.length:=by omega
  rw[ht]
  refine⟨h.cd,?_,?_,by simp;omega,fun i hi=>?_,fun i hi=>?_⟩
  ·unfold Mc.next;rw[setI_at,setI_at,if_neg (by omega),if_neg (by omega)];exact h.next
  ·unfold Mc.hgt;rw[setI_at,if_pos rfl];simp only[List.length_cons];have:=h.hgt;unfold Mc.hgt at this;omega
  ·simp only[List.length_cons]at hi
   unfold Mc.stk
   simp only[List.reverse_cons]
   rw[setI_at,setI_at,if_neg (by omega)]
   by_cases he:i=F.stk.length
   ·subst he
    rw[if_pos rfl]
    have:=getD_snoc_eq F.stk.reverse n
    rw[List.length_reverse]at this
    exact this.symm
   ·rw[if_neg (by omega),getD_snoc_lt _ _ (by simp;omega)]
    exact h.stk i (by omega)
  ·unfold Mc.plc;rw[setI_at,setI_at,if_neg (by omega),if_neg (by omega)];exact h.plc i hi
 ·rw[if_neg (by omega),if_neg hl]
  exact h
theorem top(h:FrV M d F):M.top d=F.top:=by
 have hh:=h.hgt
 have hs:=h.stk
 unfold Mc.top Fv.top
 cases hk:F.stk with
 | nil=>rw[hk]at hh;rw[if_pos (by simp at hh;omega)];rfl
 | cons a t=>
  rw[hk]at hh hs
  simp only[List.length_cons]at hh hs
  rw[if_neg (by omega),show(M.hgt d-1).toNat=t.length from by omega,hs _ (by omega)]
  simp
theorem pop(h:FrV M d F):FrV (M.pop d) d F.pop:=by
 have hh:=h.hgt
 have hs:=h.stk
 have hl:=h.le
 unfold Mc.pop Fv.pop
 cases hk:F.stk with
 | nil=>
  rw[hk]at hh
  rw[if_pos (by simp at hh;omega)]
  exact⟨h.cd,h.next,by rw[hh];rfl,by simp,fun i hi=>absurd hi (by simp),h.plc⟩
 | cons a t=>
  rw[hk]at hh hs hl
  simp only[List.length_cons]at hh hs hl
  rw[if_neg (by omega)]
  refine⟨h.cd,?_,?_,by simp;omega,fun i hi=>?_,fun i hi=>?_⟩
  ·unfold Mc.next;rw[setI_at,if_neg (by omega)];exact h.next
  ·show(M.setI _ _).ints _=_
   rw[setI_at,if_pos rfl];simp only[List.tail_cons];omega
  ·simp only[List.tail_cons]at hi ⊢
   unfold Mc.stk
   rw[setI_at,if_neg (by omega)]
   have:=hs i (by omega)
   rw[List.reverse_cons,getD_snoc_lt _ _ (by simp;omega)]at this
   exact this
  ·unfold Mc.plc;rw[setI_at,if_neg (by omega)];exact h.plc i hi
theorem keep(h:FrV M d F)(p n:Int):FrV (M.keep d p n) d (F.keep p n):=by
 unfold Mc.keep Fv.keep
 by_cases hp:p<0\/8<=p
 ·rw[if_pos hp,if_pos hp];exact h
 ·rw[if_neg hp,if_neg hp]
  refine⟨h.cd,?_,?_,h.le,fun i hi=>?_,fun i hi=>?_⟩
  ·unfold Mc.next;rw[setI_at,if_neg (by omega)];exact h.next
  ·unfold Mc.hgt;rw[setI_at,if_neg (by omega)];exact h.hgt
  ·unfold Mc.stk
   have hl:=h.le
   have hi':i<F.stk.length:=hi
   rw[setI_at,if_neg (by omega)]
   exact h.stk i hi
  ·unfold Mc.plc
   rw[setI_at]
   by_cases he:i=p.toNat
   ·rw[if_pos (by omega)];simp only;rw[if_pos he]
   ·rw[if_neg (by omega)];simp only;rw[if_neg he];exact h.plc i hi
theorem held(h:FrV M d F)(p:Int):M.heldAt d p=F.heldAt p:=by
 unfold Mc.heldAt Fv.heldAt
 by_cases hp:p<0\/8<=p
 ·rw[if_pos hp,if_pos hp]
 ·rw[if_neg hp,if_neg hp];exact h.plc _ (by omega)
theorem goto(h:FrV M d F)(n:Int):FrV (M.setI (fr d+1) n) d (F.goto n):=by
 refine⟨h.cd,?_,?_,h.le,fun i hi=>?_,fun i hi=>?_⟩
 ·unfold Mc.next;rw[setI_at,if_pos rfl];rfl
 ·unfold Mc.hgt;rw[setI_at,if_neg (by omega)];exact h.hgt
 ·unfold Mc.stk;rw[setI_at,if_neg (by omega)];exact h.stk i hi
 ·unfold Mc.plc;rw[setI_at,if_neg (by omega)];exact h.plc i hi
end FrV
structure Onl (d e:Nat) (M N:Mc):Prop where
 i:∀p,(p<fr d+1\/fr e<=p)->N.ints p=M.ints p
 b:N.bools=M.bools
 c:∀k,(k<d\/e<=k)->N.cd k=M.cd k
theorem Onl.refl(d e:Nat)(M:Mc):Onl d e M M:=⟨fun _ _=>rfl,rfl,fun _ _=>rfl⟩
theorem Onl.trans{d e:Nat}{A B C:Mc}(h:Onl d e A B)(k:Onl d e B C):Onl d e A C:=⟨fun p hp=>(k.i p hp).trans (h.i p hp),k.b.trans h.b,fun e he=>(k.c e he).trans (h.c e he)⟩
theorem Onl.mono{d e d' e':Nat}{A B:Mc}(h:Onl d e A B)(hd:d'<=d)(he:e<=e'):Onl d' e' A B:=⟨fun p hp=>h.i p (by unfold fr at *;omega),h.b,fun k hk=>h.c k (by omega)⟩
theorem onl_setI(M:Mc)(d i:Nat)(n:Int)(h:fr d+1<=i/\i<fr d+27):Onl d (d+1) M (M.setI i n):=⟨fun p hp=>by unfold fr at *;rw[setI_at,if_neg (by omega)],rfl,fun _ _=>rfl⟩
theorem onl_put(M:Mc)(d:Nat)(n:Int):Onl d (d+1) M (M.put d n):=by
 unfold Mc.put
 split
 ·exact(onl_setI M d _ n (by omega)).trans (onl_setI _ d _ _ (by omega))
 ·exact Onl.refl _ _ _
theorem onl_pop(M:Mc)(d:Nat):Onl d (d+1) M (M.pop d):=by
 unfold Mc.pop
 split
 ·exact Onl.refl _ _ _
 ·exact onl_setI _ d _ _ (by omega)
theorem onl_keep(M:Mc)(d:Nat)(p n:Int):Onl d (d+1) M (M.keep d p n):=by
 unfold Mc.keep
 split
 ·exact Onl.refl _ _ _
 ·exact onl_setI _ d _ _ (by omega)
theorem onl_fresh(M:Mc)(d:Nat)(v:Value)(c:List (Int × Int)):Onl d (d+1) M (M.fresh d v c):=by
 unfold Mc.fresh
 obtain⟨z1,_,z2⟩:=zeros_rest (M.setC d v c) 26 (fr d+1)
 refine⟨fun p hp=>?_,z1,fun k hk=>?_⟩
 ·rw[zeros_ints,if_neg (by unfold fr at *;omega)];rfl
 ·rw[z2];show(if k=d then c else M.cd k)=_;rw[if_neg (by omega)]
theorem frv_fresh(M:Mc)(d:Nat)(v:Value)(c:List (Int × Int)):FrV (M.fresh d v c) d (Fv.fresh c):=by
 unfold Mc.fresh
 obtain⟨_,_,z2⟩:=zeros_rest (M.setC d v c) 26 (fr d+1)
 refine⟨?_,?_,?_,by simp[Fv.fresh],fun i hi=>absurd hi (by simp[Fv.fresh]),fun i hi=>?_⟩
 ·rw[z2];show(if d=d then c else M.cd d)=_;rw[if_pos rfl];rfl
 ·unfold Mc.next;rw[zeros_ints,if_pos (by omega)];rfl
 ·unfold Mc.hgt;rw[zeros_ints,if_pos (by omega)];rfl
 ·unfold Mc.plc;rw[zeros_ints,if_pos (by omega)];rfl
def FsV(M:Mc):List Fv->Prop
 | []=>True
 | F::fs=>FrV M fs.length F/\FsV M fs
theorem FrV.eqv{M N:Mc}{d:Nat}{F:Fv}(h:FrV M d F)(hi:∀p,fr d+1<=p->p<fr d+27->N.ints p=M.ints p)(hc:N.cd d=M.cd d):FrV N d F:=by
 have hl:=h.le
 refine⟨hc.trans h.cd,(hi _ (by omega) (by omega)).trans h.next,(hi _ (by omega) (by omega)).trans h.hgt,h.le,fun i hi'=>(hi _ (by omega) (by omega)).trans (h.stk i hi'),fun i hi'=>(hi _ (by omega) (by omega)).trans (h.plc i hi')⟩
theorem FrV.other{M N:Mc}{d e k:Nat}{F:Fv}(h:FrV M k F)(ho:Onl d e M N)(hne:k<d\/e<=k):FrV N k F:=
 h.eqv (fun p h1 h2=>ho.i p (by unfold fr at *;omega)) (ho.c k hne)
theorem FsV.other{M N:Mc}{d e:Nat}(ho:Onl d e M N):∀{fs:List Fv},FsV M fs->fs.length<=d->FsV N fs
 | [],_,_=>trivial
 | F::fs,h,hl=>by
  simp only[List.length_cons]at hl
  exact⟨h.1.other ho (by omega),FsV.other ho h.2 (by omega)⟩
theorem FsV.eqv{M N:Mc}(hi:∀p,99<=p->p<315->N.ints p=M.ints p)(hc:N.cd=M.cd):∀{fs:List Fv},FsV M fs->fs.length<=8->FsV N fs
 | [],_,_=>trivial
 | F::fs,h,hl=>by
  simp only[List.length_cons]at hl
  exact⟨h.1.eqv (fun p h1 h2=>hi p (by unfold fr at h1;omega) (by unfold fr at h2;omega)) (by rw[hc]),FsV.eqv hi hc h.2 (by omega)⟩
structure Vr (M:Mc) (V:Vm) (who:Int):Prop where
 who:M.who=who
 used:M.used=V.used
 over:M.over=V.over
 err:M.err=V.err
 code:M.code=V.code
 acc:∀j,j<48->M.acc j=V.acc j
structure Vw (M:Mc) (V:Vm) (who:Int):Prop where
 r:Vr M V who
 live:V.over=false->M.depth=V.fs.length/\1<=V.fs.length/\V.fs.length<=8/\FsV M V.fs
section
variable {M N:Mc} {V:Vm} {who:Int}
theorem Vr.fs(h:Vr M V who)(l:List Fv):Vr M { V with fs:=l } who:=⟨h.who,h.used,h.over,h.err,h.code,h.acc⟩
theorem Vr.onl(h:Vr M V who){d e:Nat}(hO:Onl d e M N)(he:e<=8):Vr N V who:=by
 have h8:fr e<=315:=by unfold fr;omega
 refine⟨(hO.i 2 (.inl (by unfold fr;omega))).trans h.who,(hO.i 316 (.inr (by omega))).trans h.used,(congrFun hO.b 317).trans h.over,(hO.i 318 (.inr (by omega))).trans h.err,(hO.i 319 (.inr (by omega))).trans h.code,fun j hj=>?_⟩
 rw[<-h.acc j hj]
 unfold Mc.acc
 rw[hO.b,hO.i (3+2*j+1) (.inl (by unfold fr;omega))]
theorem Vr.dep(h:Vr M V who)(n:Int):Vr (M.setI 315 n) V who:=by
 refine⟨h.who,h.used,h.over,h.err,h.code,fun j hj=>?_⟩
 rw[<-h.acc j hj]
 unfold Mc.acc
 rw[setI_at,if_neg (by omega)]
 rfl
theorem Vr.giveUp(h:Vr M V who)(e:Int):Vw (M.giveUp e) (V.giveUp e) who:=by
 refine⟨⟨h.who,h.used,rfl,rfl,h.code,fun j hj=>?_⟩,fun h=>absurd h (by simp[Vm.giveUp])⟩
 show _=V.acc j
 rw[<-h.acc j hj]
 unfold Mc.acc Mc.giveUp
 rw[setI_at,if_neg (by omega)]
 show((if 3+2*j=317 then true else M.bools (3+2*j)),_)=_
 rw[if_neg (by omega)]
 rfl
theorem acc_setA(M:Mc){a b:Int}(c:Bool)(n:Int):(M.setA a b c n).acc=setAc M.acc a b (c,n):=by
 funext j
 unfold Mc.acc setAc Mc.setA
 simp only[Mc.setI,Mc.setB]
 by_cases h:j=at_ a b
 ·subst h;simp
 ·rw[if_neg h,if_neg (by omega),if_neg (by omega)]
theorem setA_ints(M:Mc){a b:Int}(hok:setOk a b)(c:Bool)(n:Int){p:Nat}(hp:p<3\/99<=p):(M.setA a b c n).ints p=M.ints p:=by
 have:=at_lt hok
 show(if p=_ then n else M.ints p)=_
 rw[if_neg (by omega)]
theorem setA_317(M:Mc){a b:Int}(hok:setOk a b)(c:Bool)(n:Int):(M.setA a b c n).bools 317=M.bools 317:=by
 have:=at_lt hok
 show(if 317=_ then c else M.bools 317)=_
 rw[if_neg (by omega)]
theorem lookS_congr{A B:Nat->Bool × Int}(h:∀j,j<48->A j=B j)(a b:Int):lookS A a b=lookS B a b:=by
 unfold lookS
 by_cases hk:isAcc a=true/\isKd b=true
 ·rw[if_pos hk,if_pos hk,h _ (at_lt hk)]
 ·rw[if_neg hk,if_neg hk]
theorem amountS_congr{A B:Nat->Bool × Int}(h:∀j,j<48->A j=B j)(a b:Int):amountS A a b=amountS B a b:=by
 unfold amountS;rw[lookS_congr h]
theorem amount_ok{A:Nat->Bool × Int}{a b:Int}(h:(amountS A a b).2=0):setOk a b:=by
 unfold amountS at h
 by_cases h4:(lookS A a b).2≠0
 ·rw[if_pos h4]at h;exact absurd h h4
 ·exact look_ok (by simpa using h4)
theorem Vr.setA(h:Vr M V who){a b:Int}(hok:setOk a b)(c:Bool)(n:Int):Vr (M.setA a b c n) { V with acc:=setAc V.acc a b (c,n) } who:=by
 refine⟨(setA_ints M hok c n (.inl (by omega))).trans h.who,(setA_ints M hok c n (.inr (by omega))).trans h.used,(setA_317 M hok c n).trans h.over,(setA_ints M hok c n (.inr (by omega))).trans h.err,(setA_ints M hok c n (.inr (by omega))).trans h.code,fun j hj=>?_⟩
 rw[acc_setA]
 show setAc M.acc a b (c,n) j=setAc V.acc a b (c,n) j
 unfold setAc
 rw[h.acc j hj]
theorem FsV.setA{fs:List Fv}(h:FsV M fs)(hl:fs.length<=8){a b:Int}(hok:setOk a b)(c:Bool)(n:Int):FsV (M.setA a b c n) fs:=
 h.eqv (fun _ h1 _=>setA_ints M hok c n (.inr h1)) rfl hl
theorem putAll_snoc(a:Int):∀(l:List Int) (G:Fv),Fv.putAll (l++[a]) G=(Fv.putAll l G).put a
 | [],_=>rfl
 | b::l,G=>putAll_snoc a l (G.put b)
theorem endN_frv{d:Nat}{F G:Fv}(hF:FrV M (d+1) F)(hG:FrV M d G):∀k,k<=F.stk.length->FrV (Mc.endN M (d+1) k) d (Fv.putAll (F.stk.reverse.take k) G)/\Onl d (d+1) M (Mc.endN M (d+1) k)
 | 0,_=>⟨by show FrV M d (Fv.putAll (F.stk.reverse.take 0) G);simpa[Fv.putAll]using hG,Onl.refl _ _ _⟩
 | k+1,hk=>by
  obtain⟨h1,h2⟩:=endN_frv hF hG k (by omega)
  have h3:=hF.other h2 (.inr (Nat.le_refl _))
  have e:F.stk.reverse.take (k+1)=F.stk.reverse.take k++[(Mc.endN M (d+1) k).stk (d+1) k]:=by
   rw[h3.stk k (by omega),List.take_add_one,List.getElem?_eq_getElem (by simp;omega),List.getD_eq_getElem?_getD,List.getElem?_eq_getElem (by simp;omega)]
   rfl
  rw[e,putAll_snoc]
  exact⟨h1.put _,h2.trans (onl_put _ d _)⟩
theorem args_frv{d:Nat}:∀(k:Nat) {M:Mc} {F G:Fv},FrV M d F->FrV M (d+1) G->FrV (Mc.begN d k M) d (Fv.args k F G).1/\FrV (Mc.begN d k M) (d+1) (Fv.args k F G).2/\Onl d (d+2) M (Mc.begN d k M)
 | 0,_,_,_,h1,h2=>⟨h1,h2,Onl.refl _ _ _⟩
 | k+1,M,F,G,h1,h2=>by
  have a1:=(h1.pop).other (onl_keep (M.pop d) (d+1) k (M.top d)) (.inl (by omega))
  have a2:=(h2.other (onl_pop M d) (.inr (Nat.le_refl _))).keep k (M.top d)
  have o:=((onl_pop M d).mono (Nat.le_refl _) (by omega:d+1<=d+2)).trans ((onl_keep (M.pop d) (d+1) k (M.top d)).mono (by omega:d<=d+1) (Nat.le_refl _))
  obtain⟨b1,b2,b3⟩:=args_frv k a1 a2
  rw[h1.top]at b1 b2 b3 a1 a2 o
  show FrV (Mc.begN d k ((M.pop d).keep (d+1) k (M.top d))) d (Fv.args k F.pop (G.keep k F.top)).1/\FrV (Mc.begN d k ((M.pop d).keep (d+1) k (M.top d))) (d+1) (Fv.args k F.pop (G.keep k F.top)).2/\Onl d (d+2) M (Mc.begN d k ((M.pop d).keep (d+1) k (M.top d)))
  rw[h1.top]
  exact⟨b1,b2,o.trans b3⟩
theorem Vw.turn{F G:Fv}{fs:List Fv}(h:Vw M V who)(ho:V.over=false)(hfs:V.fs=F::fs)(hO:Onl fs.length (fs.length+1) M N)(hG:FrV N fs.length G):Vw N { V with fs:=G::fs } who:=by
 obtain⟨l1,l2,l3,l4⟩:=h.live ho
 rw[hfs]at l1 l2 l3 l4
 simp only[List.length_cons]at l1 l3
 refine⟨(h.r.onl hO (by omega)).fs _,fun _=>⟨?_,by simp,by simpa using l3,hG,l4.2.other hO (Nat.le_refl _)⟩⟩
 show N.ints 315=_
 rw[hO.i 315 (.inr (by unfold fr;omega))]
 exact l1
end
section
variable {M:Mc} {V:Vm} {who:Int} {F:Fv} {fs:List Fv}
theorem do_frv{d:Nat}(h:FrV M d F)(op arg:Int):FrV (M.do_ d op arg) d (F.do_ op arg)/\Onl d (d+1) M (M.do_ d op arg):=by
 unfold Mc.do_ Fv.do_
 split
 ·exact⟨h.put _,onl_put _ _ _⟩
 split
 ·exact⟨h.goto _,onl_setI _ _ _ _ (by omega)⟩
 split
 ·rw[h.top]
  split
  ·exact⟨h.pop.goto _,(onl_pop _ _).trans (onl_setI _ _ _ _ (by omega))⟩
  ·exact⟨h.pop,onl_pop _ _⟩
 split
 ·rw[h.held];exact⟨h.put _,onl_put _ _ _⟩
 split
 ·rw[h.top];exact⟨h.pop.keep _ _,(onl_pop _ _).trans (onl_keep _ _ _ _)⟩
 split
 ·exact⟨h.pop,onl_pop _ _⟩
 ·exact⟨h,Onl.refl _ _ _⟩
theorem vw_act(m:Pu.Md)(xv:Nat->Value)(h:Vw M { V with fs:=F::fs } who)(ho:V.over=false)(x:Int × Int):Vw (Mc.act m xv M fs.length x) (Vm.act m who V F fs x) who:=by
 obtain⟨l1,_,l3,l4,l5⟩:=h.live ho
 simp only[List.length_cons]at l1 l3
 have hr:Vr M V who:=⟨h.r.who,h.r.used,h.r.over,h.r.err,h.r.code,h.r.acc⟩
 have ht:=l4.top
 have hp:=l4.pop
 have hpt:=hp.top
 have hpp:=hp.pop
 have T:∀{N:Mc} {G:Fv},Onl fs.length (fs.length+1) M N->FrV N fs.length G->Vw N { V with fs:=G::fs } who:=fun hO hG=>h.turn ho rfl hO hG
 unfold Mc.act Vm.act
 split
 ·unfold Mc.end_
  cases hfs:fs with
  | nil=>
   rw[if_pos (by simp)]
   refine⟨⟨hr.who,hr.used,rfl,hr.err,hr.code,fun j hj=>?_⟩,fun h=>absurd h (by simp)⟩
   show _=V.acc j
   rw[<-hr.acc j hj]
   show((if 3+2*j=317 then true else M.bools (3+2*j)),(if 3+2*j+1=315 then 0 else M.ints (3+2*j+1)))=_
   rw[if_neg (by omega),if_neg (by omega)]
   rfl
  | cons G gs=>
   rw[hfs]at l1 l3 l4 l5
   simp only[List.length_cons]at l1 l3 l4
   rw[if_neg (by simp)]
   have hr1:=hr.dep ((gs.length+1:Nat):Int)
   have e1:∀p,99<=p->p<315->(M.setI 315 ((gs.length+1:Nat):Int)).ints p=M.ints p:=fun p _ h2=>by rw[setI_at,if_neg (by omega)]
   have l41:=l4.eqv (N:=M.setI 315 ((gs.length+1:Nat):Int)) (fun p h1 h2=>e1 p (by unfold fr at h1;omega) (by unfold fr at h2;omega)) rfl
   have l51:=FsV.eqv (N:=M.setI 315 ((gs.length+1:Nat):Int)) e1 rfl l5 (by simp only[List.length_cons];omega)
   have hh:(M.hgt (gs.length+1)).toNat=F.stk.length:=by have:=l4.hgt;omega
   simp only[List.length_cons]
   rw[hh]
   obtain⟨b1,b2⟩:=endN_frv l41 l51.1 F.stk.length (Nat.le_refl _)
   rw[List.take_of_length_le (by simp)]at b1
   refine⟨(hr1.onl b2 (by omega)).fs _,fun _=>⟨?_,by simp,by simp only[List.length_cons];omega,b1,l51.2.other b2 (Nat.le_refl _)⟩⟩
   show(Mc.endN _ _ _).ints 315=_
   rw[b2.i 315 (.inr (by unfold fr;omega)),setI_at,if_pos rfl]
   rfl
 split
 ·unfold Mc.begin
  split
  ·exact hr.giveUp 9
  split
  ·exact hr.giveUp 3
  ·rename_i h8 _
   generalize m.funcs.getD x.2.toNat ⟨[],[],[],[]⟩=g
   have f1:=frv_fresh M (fs.length+1) (xv x.2.toNat) g.code
   have o1:=onl_fresh M (fs.length+1) (xv x.2.toNat) g.code
   have a1:=l4.other o1 (.inl (by omega))
   obtain⟨b1,b2,b3⟩:=args_frv g.params.length a1 f1
   have o2:=(o1.mono (by omega:fs.length<=fs.length+1) (Nat.le_refl _)).trans b3
   have hr1:=(hr.onl o2 (by omega)).dep ((fs.length:Int)+2)
   have e1:∀p,99<=p->p<315->((Mc.begN fs.length g.params.length (M.fresh (fs.length+1) (xv x.2.toNat) g.code)).setI 315 ((fs.length:Int)+2)).ints p=(Mc.begN fs.length g.params.length (M.fresh (fs.length+1) (xv x.2.toNat) g.code)).ints p:=fun p _ h2=>by rw[setI_at,if_neg (by omega)]
   refine⟨hr1.fs _,fun _=>⟨?_,by simp,by simp only[List.length_cons];omega,?_⟩⟩
   ·show(Mc.setI _ 315 _).ints 315=_
    rw[setI_at,if_pos rfl]
    simp only[List.length_cons]
    omega
   ·exact FsV.eqv e1 rfl ⟨b2,b1,l5.other o2 (Nat.le_refl _)⟩ (by simp only[List.length_cons];omega)
 split
 ·unfold Mc.reckon
  simp only
  rw[ht,hpt]
  split
  ·exact(hr.onl ((onl_pop _ _).trans (onl_pop _ _)) (by omega)).giveUp 6
  ·exact T (((onl_pop _ _).trans (onl_pop _ _)).trans (onl_put _ _ _)) (hpp.put _)
 split
 ·unfold Mc.fetch
  simp only
  rw[amountS_congr hr.acc,hr.who]
  split
  ·exact hr.giveUp _
  ·rename_i h3
   have hok:=amount_ok (by simpa using h3)
   have v1:=hr.setA hok false 0
   have f1:=FsV.setA (fs:=F::fs) ⟨l4,l5⟩ (by simpa using l3) hok false 0
   have o:=onl_put (M.setA who x.2 false 0) fs.length (amountS V.acc who x.2).1
   refine⟨(v1.onl o (by omega)).fs _,fun _=>⟨?_,by simp,by simpa using l3,f1.1.put _,f1.2.other o (Nat.le_refl _)⟩⟩
   show(Mc.put _ _ _).ints 315=_
   rw[o.i 315 (.inr (by unfold fr;omega)),setA_ints M hok false 0 (.inr (by omega))]
   exact l1
 split
 ·unfold Mc.store
  simp only
  have o:=(onl_pop M fs.length).trans (onl_pop _ fs.length)
  have hr2:=hr.onl o (by omega)
  rw[lookS_congr hr2.acc,ht,hpt]
  split
  ·exact hr2.giveUp _
  split
  ·exact hr2.giveUp 8
  ·rename_i h3 _
   have hok:=look_ok (by simpa using h3)
   have v1:=hr2.setA hok true F.pop.top
   have f1:=FsV.setA (fs:=F.pop.pop::fs) ⟨hpp,l5.other o (Nat.le_refl _)⟩ (by simpa using l3) hok true F.pop.top
   refine⟨v1.fs _,fun _=>⟨?_,by simp,by simpa using l3,f1.1,f1.2⟩⟩
   show(Mc.setA _ _ _ _ _).ints 315=_
   rw[setA_ints _ hok true _ (.inr (by omega)),o.i 315 (.inr (by unfold fr;omega))]
   exact l1
 split
 ·unfold Mc.has
  simp only
  have hr1:=hr.onl (onl_pop M fs.length) (by omega)
  rw[lookS_congr hr1.acc,ht]
  split
  ·exact hr1.giveUp _
  ·exact T ((onl_pop _ _).trans (onl_put _ _ _)) (hp.put _)
 split
 ·have v:Vr (M.setI 319 x.2) { V with code:=x.2 } who:=⟨hr.who,hr.used,hr.over,hr.err,rfl,fun j hj=>by
   show _=V.acc j
   rw[<-hr.acc j hj]
   unfold Mc.acc
   rw[setI_at,if_neg (by omega)]
   rfl⟩
  exact v.giveUp 10
 ·obtain⟨d1,d2⟩:=do_frv l4 x.1 x.2
  exact T d2 d1
theorem vw_step(m:Pu.Md)(xv:Nat->Value)(h:Vw M V who)(ho:V.over=false):Vw (Mc.step m xv M) (Vm.step m who V) who:=by
 obtain⟨l1,l2,l3,l4⟩:=h.live ho
 unfold Mc.step Vm.step
 cases hfs:V.fs with
 | nil=>rw[hfs]at l2;simp at l2
 | cons F fs=>
  rw[hfs]at l1 l3 l4
  simp only[List.length_cons]at l1 l3
  rw[if_neg (by omega),show(M.depth-1).toNat=fs.length from by omega,l4.1.next,l4.1.cd]
  simp only
  split
  ·exact h.r.giveUp 3
  ·exact vw_act m xv (h.turn ho hfs (onl_setI _ _ _ _ (by omega)) (l4.1.goto _)) ho _
theorem vw_tick(h:Vw M V who):Vw M.tick V.tick who:=by
 have hr:Vr M.tick V.tick who:=⟨h.r.who,by show(M.setI 316 (M.used+1)).ints 316=V.used+1;rw[setI_at,if_pos rfl,h.r.used],h.r.over,h.r.err,h.r.code,fun j hj=>by
  show _=V.acc j
  rw[<-h.r.acc j hj]
  unfold Mc.acc Mc.tick
  rw[setI_at,if_neg (by omega)]
  rfl⟩
 refine⟨hr,fun ho=>?_⟩
 obtain⟨l1,l2,l3,l4⟩:=h.live ho
 exact⟨l1,l2,l3,FsV.eqv (M:=M) (N:=M.tick) (fun p _ h2=>by unfold Mc.tick;rw[setI_at,if_neg (by omega)]) rfl l4 l3⟩
theorem vw_go(m:Pu.Md)(xv:Nat->Value)(gas:Int):∀(n:Nat) {M:Mc} {V:Vm},Vw M V who->Vw (Mc.go m xv gas n M) (Vm.go m who gas n V) who
 | 0,_,_,h=>h
 | n+1,M,V,h=>by
  unfold Mc.go Vm.go
  rw[h.r.over,h.r.used]
  split
  ·exact h
  ·rename_i hc
   exact vw_go m xv gas n (vw_step m xv (vw_tick h) (by simpa[Vm.tick]using fun e=>hc (.inl e)))
theorem vw_goOn(m:Pu.Md)(xv:Nat->Value)(gas:Int)(h:Vw M V who):Vw (Mc.goOn m xv gas M) (Vm.goOn m who gas V) who:=by
 have k:=vw_go m xv gas gas.toNat h
 unfold Mc.goOn Vm.goOn
 rw[k.r.over]
 split
 ·exact k
 ·exact k.r.giveUp 5
end
theorem vw_start(f:Pu.Fn)(A:Nat->Bool × Int)(who:Int)(v:Value):Vw ((machine0 who A).er.fresh 0 v f.code) (Vm.start f A) who:=by
 have hr:Vr (machine0 who A).er (Vm.start f A) who:=⟨rfl,rfl,rfl,rfl,rfl,fun j hj=>by
  show((if 3<=3+2*j/\3+2*j<99 then(A ((3+2*j-3) / 2)).1 else false),(if 3+2*j+1=2 then who else if 3+2*j+1=315 then 1 else if 3<=3+2*j+1/\3+2*j+1<99 then(A ((3+2*j+1-3) / 2)).2 else 0))=A j
  rw[if_pos (by omega),if_neg (by omega),if_neg (by omega),if_pos (by omega),show(3+2*j-3) / 2=j from by omega,show(3+2*j+1-3) / 2=j from by omega]⟩
 have o:=onl_fresh (machine0 who A).er 0 v f.code
 refine⟨hr.onl o (by omega),fun _=>⟨?_,by simp[Vm.start],by simp[Vm.start],frv_fresh _ _ _ _,trivial⟩⟩
 show(Mc.fresh _ _ _ _).ints 315=_
 rw[o.i 315 (.inr (by unfold fr;omega))]
 rfl
def runV(m:Pu.Md)(f:Pu.Fn)(A:Nat->Bool × Int)(who gas:Int):Vm:=Vm.goOn m who gas (Vm.start f A)
theorem runV_is(m:Pu.Md)(f:Pu.Fn)(A:Nat->Bool × Int)(who gas:Int):Vr (runM m f A who gas) (runV m f A who gas) who:=(vw_goOn m _ gas (vw_start f A who undef)).r
namespace Dr
def Num(n:Int):Prop:=0<=n/\n<=1000000000
def val(who kind:Int):List Hd->Option Int
 | []=>none
 | h::l=>if h.who=who/\h.kind=kind then some h.n else val who kind l
theorem findN_val(who kind:Int):∀l:List Hd,(findN who kind l=none ↔ val who kind l=none)/\∀i,findN who kind l=some i->i<l.length/\val who kind l=some (l.getD i ⟨0,0,0⟩).n
 | []=>⟨by simp[findN,val],fun i h=>by simp[findN]at h⟩
 | h::l=>by
  obtain⟨h1,h2⟩:=findN_val who kind l
  unfold findN val
  by_cases hk:h.who=who/\h.kind=kind
  ·rw[if_pos hk,if_pos hk]
   refine⟨by simp,fun i hi=>?_⟩
   simp only[Option.some.injEq]at hi
   subst hi
   exact⟨by simp,by simp⟩
  ·rw[if_neg hk,if_neg hk]
   refine⟨by simpa using h1,fun i hi=>?_⟩
   cases hf:findN who kind l with
   | none=>rw[hf]at hi;simp at hi
   | some j=>
    rw[hf]at hi
    simp only[Option.map_some,Option.some.injEq]at hi
    subst hi
    obtain⟨g1,g2⟩:=h2 j hf
    exact⟨by simpa using g1,by simpa using g2⟩
theorem find_neg{l:List Hd}{who kind:Int}:find l who kind<0 ↔ val who kind l=none:=by
 rw[<-(findN_val who kind l).1]
 unfold find
 cases findN who kind l<;>simp
theorem find_some{l:List Hd}{who kind n:Int}(h:val who kind l=some n):∃i:Nat,findN who kind l=some i/\find l who kind=i/\i<l.length/\(l.getD i ⟨0,0,0⟩).n=n:=by
 cases hf:findN who kind l with
 | none=>rw[(findN_val who kind l).1.1 hf]at h;simp at h
 | some i=>
  obtain⟨h1,h2⟩:=(findN_val who kind l).2 i hf
  rw[h]at h2
  exact⟨i,rfl,by unfold find;rw[hf],h1,by simpa using h2.symm⟩
structure HA (l:List Hd) (A:Nat->Bool × Int):Prop where
 look:∀w k,setOk w k->(A (at_ w k)).1=(val w k l).isSome/\∀n,val w k l=some n->(A (at_ w k)).2=n
 nodup:l.Pairwise fun a b=>¬(a.who=b.who/\a.kind=b.kind)
 num:∀h∈l,Num h.n
 rng:∀h∈l,setOk h.who h.kind
theorem val_num{l:List Hd}(hn:∀h∈l,Num h.n){w k n:Int}(h:val w k l=some n):Num n:=by
 induction l with
 | nil=>simp[val]at h
 | cons a l ih=>
  unfold val at h
  split at h
  ·simp only[Option.some.injEq]at h
   subst h
   exact hn a (by simp)
  ·exact ih (fun x hx=>hn x (by simp[hx])) h
theorem val_append(w k:Int)(x:Hd):∀l:List Hd,val w k (l++[x])=if(val w k l).isSome then val w k l else if x.who=w/\x.kind=k then some x.n else none
 | []=>by simp[val]
 | a::l=>by
  have ih:=val_append w k x l
  simp only[List.cons_append]
  unfold val
  split
  ·simp
  ·exact ih
theorem val_none_of{w k:Int}:∀{l:List Hd},(∀h∈l,¬(h.who=w/\h.kind=k))->val w k l=none
 | [],_=>rfl
 | a::l,h=>by
  unfold val
  rw[if_neg (h a (by simp))]
  exact val_none_of fun x hx=>h x (by simp[hx])
theorem val_erase(w k w' k':Int):∀{l:List Hd} {i:Nat},l.Pairwise (fun a b=>¬(a.who=b.who/\a.kind=b.kind))->findN w k l=some i->val w' k' (l.eraseIdx i)=if w'=w/\k'=k then none else val w' k' l
 | [],_,_,h=>by simp[findN]at h
 | a::l,i,hp,h=>by
  obtain⟨p1,p2⟩:=List.pairwise_cons.1 hp
  unfold findN at h
  by_cases hk:a.who=w/\a.kind=k
  ·rw[if_pos hk]at h
   simp only[Option.some.injEq]at h
   subst h
   show val w' k' l=if w'=w/\k'=k then none else val w' k' (a::l)
   by_cases hw:w'=w/\k'=k
   ·rw[if_pos hw]
    refine val_none_of fun x hx hxk=>p1 x hx ?_
    omega
   ·rw[if_neg hw]
    unfold val
    rw[if_neg (by omega)]
    cases l<;>rfl
  ·rw[if_neg hk]at h
   cases hf:findN w k l with
   | none=>rw[hf]at h;simp at h
   | some j=>
    rw[hf]at h
    simp only[Option.map_some,Option.some.injEq]at h
    subst h
    have ih:=val_erase w k w' k' p2 hf
    show val w' k' (a::l.eraseIdx j)=_
    unfold val
    by_cases ha:a.who=w'/\a.kind=k'
    ·rw[if_pos ha,if_neg (by omega),if_pos ha]
    ·rw[if_neg ha,if_neg ha];exact ih
theorem at_inj{w k w' k':Int}(h:setOk w k)(h':setOk w' k')(e:at_ w k=at_ w' k'):w=w'/\k=k':=by
 obtain⟨h1,h2⟩:=h
 obtain⟨h3,h4⟩:=h'
 unfold isAcc at h1 h3
 unfold isKd at h2 h4
 simp only[decide_eq_true_eq]at h1 h2 h3 h4
 unfold at_ at e
 omega
theorem HA.fetch{l:List Hd}{A:Nat->Bool × Int}(h:HA l A){w k n:Int}(hok:setOk w k)(hv:val w k l=some n):HA (without l (find l w k)) (setAc A w k (false,0)):=by
 obtain⟨i,hf,hi,_,_⟩:=find_some hv
 unfold without
 rw[hi,if_neg (by omega),show((i:Int)).toNat=i from by omega]
 refine⟨fun w' k' hok'=>?_,h.nodup.sublist (List.eraseIdx_sublist _ _),fun x hx=>h.num x (List.mem_of_mem_eraseIdx hx),fun x hx=>h.rng x (List.mem_of_mem_eraseIdx hx)⟩
 rw[val_erase w k w' k' h.nodup hf]
 unfold setAc
 by_cases he:w'=w/\k'=k
 ·obtain⟨rfl,rfl⟩:=he
  rw[if_pos rfl,if_pos ⟨rfl,rfl⟩]
  exact⟨rfl,fun n hn=>by simp at hn⟩
 ·rw[if_neg (fun e=>he (at_inj hok' hok e)),if_neg he]
  exact h.look w' k' hok'
theorem HA.store{l:List Hd}{A:Nat->Bool × Int}(h:HA l A){w k n:Int}(hok:setOk w k)(hv:val w k l=none)(hn:Num n):HA (l++[⟨w,k,n⟩]) (setAc A w k (true,n)):=by
 have hnone:∀{l:List Hd},val w k l=none->∀x∈l,¬(x.who=w/\x.kind=k):=by
  intro l
  induction l with
  | nil=>intro _ x hx;simp at hx
  | cons a l ih=>
   intro hv x hx
   unfold val at hv
   split at hv
   ·simp at hv
   ·rename_i ha
    rcases List.mem_cons.1 hx with rfl|hx
    ·exact ha
    ·exact ih hv x hx
 refine⟨fun w' k' hok'=>?_,?_,fun x hx=>?_,fun x hx=>?_⟩
 ·rw[val_append]
  unfold setAc
  by_cases he:w'=w/\k'=k
  ·obtain⟨rfl,rfl⟩:=he
   rw[if_pos rfl,hv]
   simp
  ·rw[if_neg (fun e=>he (at_inj hok' hok e))]
   have hl:=h.look w' k' hok'
   cases hw:val w' k' l with
   | none=>
    rw[hw]at hl
    simp only[Option.isSome_none,Bool.false_eq_true,if_false]
    rw[if_neg (by omega)]
    exact hl
   | some n'=>
    rw[hw]at hl
    simpa using hl
 ·rw[List.pairwise_append]
  refine⟨h.nodup,List.pairwise_singleton _ _,fun a ha b hb=>?_⟩
  simp only[List.mem_singleton]at hb
  subst hb
  exact hnone hv a ha
 ·rcases List.mem_append.1 hx with hx|hx
  ·exact h.num x hx
  ·simp only[List.mem_singleton]at hx
   subst hx
   exact hn
 ·rcases List.mem_append.1 hx with hx|hx
  ·exact h.rng x hx
  ·simp only[List.mem_singleton]at hx
   subst hx
   exact hok
theorem ha_none:HA [] (fun _=>(false,0)):=⟨fun _ _ _=>⟨rfl,fun n h=>by simp[val]at h⟩,List.Pairwise.nil,fun _ h=>by simp at h,fun _ h=>by simp at h⟩
theorem HA.amount{l:List Hd}{A:Nat->Bool × Int}(h:HA l A){w k:Int}(hok:setOk w k):amountS A w k=match val w k l with|some n=>(n,0)|none=>(0,7):=by
 have hl:lookS A w k=(A (at_ w k),0):=by unfold lookS;rw[if_pos (show isAcc w=true/\isKd k=true from hok)]
 unfold amountS
 rw[hl]
 obtain⟨h1,h2⟩:=h.look w k hok
 cases hv:val w k l with
 | none=>rw[hv]at h1;simp at h1;simp[h1]
 | some n=>rw[hv]at h1;simp at h1;simp[h1,h2 n hv]
end Dr
end Go.Proofs.YtjamgmbdilkbcaaGreat
