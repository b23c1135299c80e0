import Derived.Test.YtjamgmbdilkbcaaGreatLotAll32
import Derived.Test.YtjamgmbdilkbcaaGreatLotAll27
set_option maxHeartbeats 4000000
set_option maxRecDepth 100000
namespace Go.Proofs.YtjamgmbdilkbcaaGreat
open Go.RowKit Mc
namespace Dr
structure Env (m:Pu.Md) (who:Int):Prop where
 md:Pu.isMd m=true
 good:∀j,j<m.funcs.length->Fl.Sound m (m.funcs.getD j ⟨[],[],[],[]⟩)
 who:0<=who/\who<8
theorem instr_of{f:Pu.Fn}{ki fu:Int}(hf:Pu.isFn f ki fu=true){i:Nat}(hi:i<f.code.length):
  (0<=(f.code.getD i (0,0)).1/\(f.code.getD i (0,0)).1<=18)/\
  (((f.code.getD i (0,0)).1=6\/(f.code.getD i (0,0)).1=7)->0<=(f.code.getD i (0,0)).2)/\
  (((f.code.getD i (0,0)).1=8\/(f.code.getD i (0,0)).1=9\/(f.code.getD i (0,0)).1=10)->0<=(f.code.getD i (0,0)).2/\(f.code.getD i (0,0)).2<(Fl.places f).length)/\
  ((f.code.getD i (0,0)).1=14->0<=(f.code.getD i (0,0)).2/\(f.code.getD i (0,0)).2<fu)/\
  (((f.code.getD i (0,0)).1=12\/(f.code.getD i (0,0)).1=13\/(f.code.getD i (0,0)).1=15\/(f.code.getD i (0,0)).1=16\/(f.code.getD i (0,0)).1=17)->1<=(f.code.getD i (0,0)).2/\(f.code.getD i (0,0)).2<=ki)/\
  ((f.code.getD i (0,0)).1=1->0<=(f.code.getD i (0,0)).2/\(f.code.getD i (0,0)).2<=255):=by
 simp only[Pu.isFn,Pu.isCode,Bool.and_eq_true,List.all_eq_true]at hf
 have hx:=hf.2.2.2.2.2 (f.code.getD i (0,0)) (by rw[List.getD_eq_getElem?_getD,List.getElem?_eq_getElem hi];exact List.getElem_mem hi)
 generalize f.code.getD i (0,0)=x at *
 simp only[Pu.isInstr,Bool.and_eq_true,decide_eq_true_eq]at hx
 obtain⟨⟨⟨x1,x2⟩,x3⟩,x4⟩:=hx
 have hpl:(Fl.places f).length=f.params.length+f.locals.length:=by unfold Fl.places;simp
 refine⟨⟨x1,x2⟩,fun h=>?_,fun h=>?_,fun h=>?_,fun h=>?_,fun h=>?_⟩
 ·unfold Pu.argLo at x3;rw[if_neg (by omega)]at x3;exact x3
 ·unfold Pu.argLo at x3;unfold Pu.argHi at x4
  rw[if_neg (by omega)]at x3
  rw[if_neg (by omega),if_neg (by omega),if_pos (by omega)]at x4
  omega
 ·unfold Pu.argLo at x3;unfold Pu.argHi at x4
  rw[if_neg (by omega)]at x3
  (iterate 4 rw[if_neg (by omega)]at x4);rw[if_pos (by omega)]at x4
  omega
 ·unfold Pu.argLo at x3;unfold Pu.argHi at x4
  rw[if_pos (by omega)]at x3
  (iterate 3 rw[if_neg (by omega)]at x4);rw[if_pos (by omega)]at x4
  omega
 ·unfold Pu.argLo at x3;unfold Pu.argHi at x4
  rw[if_neg (by omega)]at x3
  rw[if_pos (by omega)]at x4
  omega
theorem fn_small{f:Pu.Fn}{ki fu:Int}(hf:Pu.isFn f ki fu=true):f.params.length<=4/\(Fl.places f).length<=8:=by
 simp only[Pu.isFn,Pu.isList,Bool.and_eq_true,decide_eq_true_eq]at hf
 have hpl:(Fl.places f).length=f.params.length+f.locals.length:=by unfold Fl.places;simp
 omega
theorem md_small{m:Pu.Md}(h:Pu.isMd m=true):m.kinds.length<=6/\∀f∈m.funcs,Pu.isFn f m.kinds.length m.funcs.length=true:=by
 simp only[Pu.isMd,Bool.and_eq_true,decide_eq_true_eq,List.all_eq_true]at h
 have h1:=h.1
 simp only[Pu.isList,Bool.and_eq_true,decide_eq_true_eq]at h1
 exact⟨by omega,h.2.2.2⟩
def inner(m:Pu.Md)(who gas:Int)(n:Nat)(f:Pu.Fn)(a:Int)(g:Gg)(r:Rm)(x:Int × Int):List (Int × Int) × Gg:=
 if x.1=0 then(r.stk,let h:=wrong (badRet m f r) 99 g;{ h with depth:=h.depth-1 })
 else if x.1=6 then go m who gas n f x.2 g r
 else if x.1=7 then go m who gas n f (if(take 0 g r).1≠0 then x.2 else a+1) (take 0 g r).2.1 (take 0 g r).2.2
 else if x.1=18 then go m who gas n f (a+1) { g with err:=10,code:=x.2 } r
 else if x.1=14 then
  if 8<=g.depth then go m who gas n f (a+1) { g with err:=9 } r
  else
   let c:=m.funcs.getD x.2.toNat ⟨[],[],[],[]⟩
   let b:=args c.params c.params.length g r []
   let o:=go m who gas n c 0 { b.2.1 with depth:=b.2.1.depth+1 } (room c b.1)
   let p:=puts o.1 o.2 b.2.2
   go m who gas n f (a+1) p.1 p.2
 else go m who gas n f (a+1) (plain m who x g r).1 (plain m who x g r).2
theorem go_succ{m:Pu.Md}{who gas:Int}{n:Nat}{f:Pu.Fn}{a:Int}{g:Gg}{r:Rm}(he:g.err=0)(hu:¬gas<=g.used)(ha:¬(f.code.length:Int)<=a):
  go m who gas (n+1) f a g r=inner m who gas n f a { g with used:=g.used+1 } r (f.code.getD a.toNat (0,0)):=by
 unfold go
 rw[if_neg (by simpa using he),if_neg hu]
 simp only
 rw[if_neg ha]
 rfl
theorem put_next(F:Fv)(n:Int):(F.put n).next=F.next:=by unfold Fv.put;split<;>rfl
theorem keep_next(F:Fv)(p n:Int):(F.keep p n).next=F.next:=by unfold Fv.keep;split<;>rfl
theorem putAll_next:∀(l:List Int) (F:Fv),(Fv.putAll l F).next=F.next
 | [],_=>rfl
 | n::l,F=>(putAll_next l (F.put n)).trans (put_next F n)
theorem args_next:∀(k:Nat) (F G:Fv),(Fv.args k F G).1.next=F.next
 | 0,_,_=>rfl
 | k+1,F,G=>args_next k F.pop (G.keep k F.top)
theorem sim_go{m:Pu.Md}{who gas:Int}(E:Env m who):∀(n:Nat) {f:Pu.Fn} {σ:Nat->Option Fl.S} {a:Int} {s:Fl.S} {g:Gg} {r:Rm} {F:Fv} {rest:List Fv} {A:Nat->Bool × Int},
  Fl.Good m f σ->Pu.isFn f m.kinds.length m.funcs.length=true->0<=a->σ a.toNat=some s->RR f s r F->F.next=a->HA g.holds A->g.err=0->g.code=0->g.used<=gas->(gas-g.used).toNat<n->g.depth=rest.length+1->rest.length+1<=8->
  ∃V',Leads m who gas ⟨F::rest,A,g.used,false,0,0⟩ V'/\V'.used<=gas/\Ends f rest gas (go m who gas n f a g r) V'
 | 0,_,_,_,_,_,_,_,_,_,_,_,_,_,_,_,_,_,_,_,hfuel,_,_=>absurd hfuel (by omega)
 | n+1,f,σ,a,s,g,r,F,rest,A,hgood,hfn,ha,hσ,hR,hFn,hA,he,hc,hug,hfuel,hd,hd8=>by
  by_cases hu:gas<=g.used
  ·refine⟨_,Leads.refl,hug,.inr (.inr ?_)⟩
   unfold go
   rw[if_neg (by simpa using he),if_pos hu]
   exact⟨rfl,rfl,hc,rfl,rfl,by show g.used=gas;omega,rfl,rfl⟩
  obtain⟨hi,s',hs',hl⟩:=hgood.step _ _ hσ
  obtain⟨hx0,hx67,hxp,hx14,hxk,hx1⟩:=instr_of hfn hi
  rw[go_succ he hu (by omega)]
  obtain⟨g1,hg1⟩:∃g1:Gg,g1={ g with used:=g.used+1 }:=⟨_,rfl⟩
  rw[<-hg1]
  have e1:g1.err=0:=by rw[hg1];exact he
  have c1:g1.code=0:=by rw[hg1];exact hc
  have u1:g1.used=g.used+1:=by rw[hg1]
  have d1:g1.depth=rest.length+1:=by rw[hg1];exact hd
  have A1:HA g1.holds A:=by rw[hg1];exact hA
  have hstep:Vm.step m who (Vm.tick ⟨F::rest,A,g.used,false,0,0⟩)=Vm.act m who ⟨F::rest,A,g.used+1,false,0,0⟩ (F.goto (a+1)) rest (f.code.getD a.toNat (0,0)):=by
   unfold Vm.step
   simp only[Vm.tick]
   rw[if_neg (by rw[hR.code,hFn];omega),hR.code,hFn]
  have R1:=hR.goto (a+1)
  have N1:(F.goto (a+1)).next=a+1:=rfl
  generalize F.goto (a+1)=F1 at *
  generalize f.code.getD a.toNat (0,0)=x at *
  have ND:∀V1:Vm,Vm.act m who ⟨F::rest,A,g.used+1,false,0,0⟩ F1 rest x=V1->V1.used=g.used+1->Leads m who gas ⟨F::rest,A,g.used,false,0,0⟩ V1:=fun V1 h1 h2=>
   Leads.one rfl (by show g.used<gas;omega) (hstep.trans h1) h2
  have CONT:∀{F':Fv} {A':Nat->Bool × Int} {s2:Fl.S} {a2:Int} {p:Gg × Rm},Goes f s2 g1 A' F' p->σ a2.toNat=some s2->0<=a2->F'.next=a2->Vm.act m who ⟨F::rest,A,g.used+1,false,0,0⟩ F1 rest x=⟨F'::rest,A',g.used+1,false,0,0⟩->
    ∃V',Leads m who gas ⟨F::rest,A,g.used,false,0,0⟩ V'/\V'.used<=gas/\Ends f rest gas (go m who gas n f a2 p.1 p.2) V':=fun {F' A' s2 a2 p} hg h2 h3 h4 h5=>by
   obtain⟨k1,k2,k3,k4,k5,k6⟩:=hg
   obtain⟨V',v1,v2,v3⟩:=sim_go (gas:=gas) E n (rest:=rest) (g:=p.1) (r:=p.2) (A:=A') (F:=F') hgood hfn h3 h2 k5 h4 k6 k1 (k2.trans c1) (by rw[k3,u1];omega) (by rw[k3,u1];omega) (by rw[k4,d1]) hd8
   have ku:p.1.used=g.used+1:=k3.trans u1
   rw[ku]at v1
   exact⟨V',(ND _ h5 rfl).trans v1,v2,v3⟩
  have STOP:∀{e:Int} {a2:Int} {p:Gg × Rm},Gives g1 e p->e≠0->Vm.act m who ⟨F::rest,A,g.used+1,false,0,0⟩ F1 rest x=Vm.giveUp ⟨F::rest,A,g.used+1,false,0,0⟩ e->
    ∃V',Leads m who gas ⟨F::rest,A,g.used,false,0,0⟩ V'/\V'.used<=gas/\Ends f rest gas (go m who gas n f a2 p.1 p.2) V':=fun {e a2 p} hg h2 h5=>by
   obtain⟨k1,k2,k3⟩:=hg
   refine⟨_,ND _ h5 rfl,by show g.used+1<=gas;omega,.inr (.inl ?_)⟩
   rw[go_err (by rw[k1];exact h2)]
   exact⟨rfl,by rw[k1];exact h2,k3.trans u1,rfl,k1.symm,by show(0:Int)=p.1.code;rw[k2,c1]⟩
  have hlead:∀j∈Fl.leads x a.toNat,σ j=some s':=hl
  have next1:¬(x.1=0\/x.1=6\/x.1=18)->σ (a+1).toNat=some s':=fun h=>by
   refine hlead _ ?_
   unfold Fl.leads
   rw[if_neg h,show(a+1).toNat=a.toNat+1 from by omega]
   simp
  have km:=(md_small E.md).1
  by_cases hop:x.1=0
  ·skip
   unfold Fl.after at hs';rw[if_pos (by omega)]at hs'
   unfold Fl.retS at hs'
   split at hs'
   ·rename_i hret
    have hbad:¬badRet m f r:=fun hb=>by
     rcases hb with hb|⟨i,h1,h2,h3⟩
     ·exact hb (hR.kd.trans hret.1)
     ·have hil:i<(Fl.places f).length:=by rw[<-hR.sl];exact h1
      have hcl:=hret.2 i hil
      unfold Fl.canLose at hcl
      rw[<-hR.full i hil,h2,<-hR.kindAt,h3]at hcl
      simp at hcl
    unfold inner;rw[if_pos (by omega)]
    simp only
    rw[wrong_no hbad]
    by_cases hn:rest=[]
    ·refine⟨⟨F::rest,A,g.used+1,true,0,0⟩,ND _ (by subst hn;unfold Vm.act;rw[if_pos (by omega)]) rfl,by show g.used+1<=gas;omega,.inl ⟨e1,c1,u1,by show g1.depth-1=_;rw[d1];omega,by show r.stk.map Prod.fst=_;rw[hR.kd];exact hret.1,hR.num,A1,rfl,rfl,fun _=>rfl,fun G gs hh=>by rw[hn]at hh;simp at hh⟩⟩
    ·obtain⟨G,gs,hrs⟩:=List.exists_cons_of_ne_nil hn
     refine⟨⟨Fv.putAll F1.stk.reverse G::gs,A,g.used+1,false,0,0⟩,ND _ (by subst hrs;unfold Vm.act;rw[if_pos (by omega)]) rfl,by show g.used+1<=gas;omega,.inl ⟨e1,c1,u1,by show g1.depth-1=_;rw[d1];omega,by show r.stk.map Prod.fst=_;rw[hR.kd];exact hret.1,hR.num,A1,rfl,rfl,fun hh=>absurd hh hn,fun G' gs' hh=>?_⟩⟩
     rw[hrs]at hh
     simp only[List.cons.injEq]at hh
     obtain⟨rfl,rfl⟩:=hh
     exact⟨rfl,by rw[<-R1.vl]⟩
   ·simp at hs'
  by_cases hop:x.1=6
  ·skip
   unfold Fl.after at hs';(iterate 14 rw[if_neg (by omega)]at hs')
   simp only[Option.some.injEq]at hs'
   subst hs'
   unfold inner;rw[if_neg (by omega),if_pos (by omega)]
   refine CONT (p:=(g1,r)) (F':=F1.goto x.2) ⟨e1,rfl,rfl,rfl,R1.goto x.2,A1⟩ (hlead _ ?_) (hx67 (by omega)) rfl ?_
   ·unfold Fl.leads
    rw[if_pos (by omega)]
    simp
   ·unfold Vm.act;(iterate 7 rw[if_neg (by omega)])
    unfold Fv.do_;rw[if_neg (by omega),if_pos (by omega)]
  by_cases hop:x.1=7
  ·skip
   unfold Fl.after at hs';(iterate 3 rw[if_neg (by omega)]at hs');rw[if_pos (by omega)]at hs'
   obtain⟨t1,t2,t3,_⟩:=R1.take e1 hs'
   unfold inner;rw[if_neg (by omega),if_neg (by omega),if_pos (by omega)]
   rw[t1]
   simp only
   by_cases hz:F1.top≠0
   ·rw[if_pos hz]
    refine CONT (p:=(g1,_)) (F':=F1.pop.goto x.2) ⟨e1,rfl,rfl,rfl,t3.goto x.2,A1⟩ (hlead _ ?_) (hx67 (by omega)) rfl ?_
    ·unfold Fl.leads
     rw[if_pos (by omega)]
     simp
    ·unfold Vm.act;(iterate 7 rw[if_neg (by omega)])
     unfold Fv.do_;rw[if_neg (by omega),if_neg (by omega),if_pos (by omega)]
     rw[if_pos hz]
   ·rw[if_neg hz]
    refine CONT (p:=(g1,_)) (F':=F1.pop) ⟨e1,rfl,rfl,rfl,t3,A1⟩ (next1 (by omega)) (by omega) N1 ?_
    unfold Vm.act;(iterate 7 rw[if_neg (by omega)])
    unfold Fv.do_;rw[if_neg (by omega),if_neg (by omega),if_pos (by omega)]
    rw[if_neg hz]
  by_cases hop:x.1=18
  ·skip
   unfold inner;(iterate 3 rw[if_neg (by omega)]);rw[if_pos (by omega)]
   refine⟨⟨F::rest,A,g.used+1,true,10,x.2⟩,ND _ (by unfold Vm.act;(iterate 6 rw[if_neg (by omega)]);rw[if_pos (by omega)];rfl) rfl,by show g.used+1<=gas;omega,.inr (.inl ?_)⟩
   rw[go_err (by simp)]
   exact⟨rfl,by simp,u1,rfl,rfl,rfl⟩
  by_cases hop:x.1=14
  ·skip
   unfold Fl.after at hs';(iterate 10 rw[if_neg (by omega)]at hs');rw[if_pos (by omega)]at hs'
   obtain⟨y1,y2⟩:=hx14 (by omega)
   unfold inner;(iterate 4 rw[if_neg (by omega)]);rw[if_pos (by omega)]
   by_cases h8:8<=g1.depth
   ·rw[if_pos h8]
    refine STOP (e:=9) (p:=({ g1 with err:=9 },r)) ⟨rfl,rfl,rfl⟩ (by decide) ?_
    unfold Vm.act;rw[if_neg (by omega),if_pos (by omega)]
    rw[if_pos (by omega)]
   ·rw[if_neg h8]
    have hjl:x.2.toNat<m.funcs.length:=by omega
    have hmem:m.funcs.getD x.2.toNat ⟨[],[],[],[]⟩∈m.funcs:=by rw[List.getD_eq_getElem?_getD,List.getElem?_eq_getElem hjl];exact List.getElem_mem hjl
    have hcf:=(md_small E.md).2 _ hmem
    obtain⟨σc,hσc⟩:=E.good _ hjl
    have hact:Vm.act m who ⟨F::rest,A,g.used+1,false,0,0⟩ F1 rest x=⟨(Fv.args (m.funcs.getD x.2.toNat ⟨[],[],[],[]⟩).params.length F1 (Fv.fresh (m.funcs.getD x.2.toNat ⟨[],[],[],[]⟩).code)).2::(Fv.args (m.funcs.getD x.2.toNat ⟨[],[],[],[]⟩).params.length F1 (Fv.fresh (m.funcs.getD x.2.toNat ⟨[],[],[],[]⟩).code)).1::rest,A,g.used+1,false,0,0⟩:=by
     unfold Vm.act;rw[if_neg (by omega),if_pos (by omega)]
     rw[if_neg (by omega),if_neg (by omega)]
    generalize m.funcs.getD x.2.toNat ⟨[],[],[],[]⟩=c at *
    obtain⟨p4,p8⟩:=fn_small hcf
    unfold Fl.callS at hs'
    cases ht:Fl.takesS c.params.reverse s with
    | none=>rw[ht]at hs';simp at hs'
    | some t=>
     rw[ht]at hs'
     simp only[Option.bind_some]at hs'
     obtain⟨vs,r',b1,b2,b3,b4,b5⟩:=sim_args c.params (by omega) c.params.length (Nat.le_refl _) (G:=Fv.fresh c.code) (l:=[]) (g:=g1) R1 e1 (by rw[List.take_length];exact ht)
     rw[List.take_length,List.append_nil]at b3
     simp only[b3]
     have hroom:=sim_room c (by omega) p8 vs b1 b2
     have hF2:(Fv.args c.params.length F1 (Fv.fresh c.code)).2={ Fv.fresh c.code with plc:=fun j=>if j<c.params.length then vs.getD j 0 else 0 }:=b5
     rw[<-hF2]at hroom
     have hnx:(Fv.args c.params.length F1 (Fv.fresh c.code)).2.next=0:=by rw[hF2];rfl
     have hnx1:=args_next c.params.length F1 (Fv.fresh c.code)
     generalize (Fv.args c.params.length F1 (Fv.fresh c.code)).1=F3 at *
     generalize (Fv.args c.params.length F1 (Fv.fresh c.code)).2=F4 at *
     obtain⟨V2,v1,v2,v3⟩:=sim_go (gas:=gas) E n (f:=c) (a:=0) (g:={ g1 with depth:=g1.depth+1 }) (rest:=F3::rest) hσc hcf (by omega) hσc.start hroom hnx A1 e1 c1 (by show g1.used<=gas;omega) (by show(gas-g1.used).toNat<n;omega) (by show g1.depth+1=_;simp;omega) (by simp;omega)
     have L1:=(ND _ hact rfl).trans (show Leads m who gas ⟨F4::F3::rest,A,g.used+1,false,0,0⟩ V2 from by rw[<-u1];exact v1)
     have hgrow:g.used+1<=V2.used:=by
      obtain⟨j,hj,_⟩:=v1
      have hj':V2.used=g1.used+j:=hj
      omega
     generalize go m who gas n c 0 { g1 with depth:=g1.depth+1 } (room c (c.params.zip vs))=o at *
     rcases v3 with ⟨q1,q2,q3,q4,q5,q6,q7,q8,q9,_,q10⟩|⟨q1,q2,q3,q4,q5,q6⟩|⟨q1,q2,q3,q4,q5,q6,q7,q8⟩
     ·obtain⟨o1,o2⟩:=q10 F3 rest rfl
      obtain⟨r2,w1,w2⟩:=sim_puts o.1 (g:=o.2) b4 q1 q6 (by rw[q5];exact hs')
      rw[w1]
      simp only
      obtain⟨V3,y1,y2,y3⟩:=sim_go (gas:=gas) E n (rest:=rest) hgood hfn (by omega:0<=a+1) (next1 (by omega)) w2 (by rw[putAll_next,hnx1,N1]) q7 q1 q2 (by omega) (by omega) (by rw[q4];simp) hd8
      have hV2:V2=⟨Fv.putAll (o.1.map Prod.snd) F3::rest,V2.acc,o.2.used,false,0,0⟩:=by
       cases V2
       simp only at *
       simp only[Vm.mk.injEq,true_and]
       exact⟨o2,q3.symm,o1,q8,q9⟩
      rw[<-hV2]at y1
      exact⟨V3,L1.trans y1,y2,y3⟩
     ·rw[q1]
      simp only[puts]
      rw[go_err q2]
      exact⟨V2,L1,v2,.inr (.inl ⟨rfl,q2,q3,q4,q5,q6⟩)⟩
     ·rw[q1]
      simp only[puts]
      rw[go_err (by rw[q2];decide)]
      exact⟨V2,L1,v2,.inr (.inr ⟨rfl,q2,q3,q4,q5,q6,q7,q8⟩)⟩
  by_cases hop:x.1=2\/x.1=3\/x.1=4\/x.1=5
  ·skip
   unfold Fl.after at hs';rw[if_neg (by omega),if_neg (by omega),if_pos (by omega)]at hs'
   unfold inner;(iterate 5 rw[if_neg (by omega)])
   have hp:plain m who x g1 r=two x.1 g1 r:=by unfold plain;rw[if_neg (by omega),if_pos (by omega)]
   rw[hp]
   rcases sim_two R1 e1 A1 hop hs' with ⟨h1,h2⟩|⟨h1,h2⟩
   ·refine STOP h2 (by decide) ?_
    unfold Vm.act;rw[if_neg (by omega),if_neg (by omega),if_pos (by omega)]
    rw[if_pos h1]
   ·refine CONT h2 (next1 (by omega)) (by omega) (by rw[put_next];exact N1) ?_
    unfold Vm.act;rw[if_neg (by omega),if_neg (by omega),if_pos (by omega)]
    rw[if_neg h1]
  by_cases hop:x.1=15
  ·skip
   unfold Fl.after at hs';(iterate 11 rw[if_neg (by omega)]at hs');rw[if_pos (by omega)]at hs'
   unfold inner;(iterate 5 rw[if_neg (by omega)])
   have hp:plain m who x g1 r=account who 15 x.2 g1 r:=by unfold plain;(iterate 6 rw[if_neg (by omega)]);rw[hop]
   rw[hp]
   rcases sim_fetch (k:=x.2) R1 e1 A1 E.who (by have:=hxk (by omega);omega) hs' with ⟨h1,h2⟩|⟨h1,h2⟩
   ·refine STOP h2 h1 ?_
    unfold Vm.act;(iterate 3 rw[if_neg (by omega)]);rw[if_pos (by omega)]
    rw[if_pos h1]
   ·refine CONT h2 (next1 (by omega)) (by omega) (by rw[put_next];exact N1) ?_
    unfold Vm.act;(iterate 3 rw[if_neg (by omega)]);rw[if_pos (by omega)]
    rw[if_neg (by simpa using h1)]
  by_cases hop:x.1=16
  ·skip
   unfold Fl.after at hs';(iterate 12 rw[if_neg (by omega)]at hs');rw[if_pos (by omega)]at hs'
   unfold inner;(iterate 5 rw[if_neg (by omega)])
   have hp:plain m who x g1 r=account who 16 x.2 g1 r:=by unfold plain;(iterate 6 rw[if_neg (by omega)]);rw[hop]
   rw[hp]
   rcases sim_store (who:=who) (k:=x.2) R1 e1 A1 (by have:=hxk (by omega);omega) hs' with ⟨h1,h2⟩|⟨h1,h3,h2⟩|⟨h1,h3,h2⟩
   ·refine STOP h2 h1 ?_
    unfold Vm.act;(iterate 4 rw[if_neg (by omega)]);rw[if_pos (by omega)]
    rw[if_pos h1]
   ·refine STOP h2 (by decide) ?_
    unfold Vm.act;(iterate 4 rw[if_neg (by omega)]);rw[if_pos (by omega)]
    rw[if_neg (by simpa using h1),if_pos h3]
   ·refine CONT h2 (next1 (by omega)) (by omega) N1 ?_
    unfold Vm.act;(iterate 4 rw[if_neg (by omega)]);rw[if_pos (by omega)]
    rw[if_neg (by simpa using h1),if_neg h3]
  by_cases hop:x.1=17
  ·skip
   unfold Fl.after at hs';(iterate 13 rw[if_neg (by omega)]at hs');rw[if_pos (by omega)]at hs'
   unfold inner;(iterate 5 rw[if_neg (by omega)])
   have hp:plain m who x g1 r=account who 17 x.2 g1 r:=by unfold plain;(iterate 6 rw[if_neg (by omega)]);rw[hop]
   rw[hp]
   rcases sim_has (who:=who) (k:=x.2) R1 e1 A1 (by have:=hxk (by omega);omega) hs' with ⟨h1,h2⟩|⟨h1,h2⟩
   ·refine STOP h2 h1 ?_
    unfold Vm.act;(iterate 5 rw[if_neg (by omega)]);rw[if_pos (by omega)]
    rw[if_pos h1]
   ·refine CONT h2 (next1 (by omega)) (by omega) (by rw[put_next];exact N1) ?_
    unfold Vm.act;(iterate 5 rw[if_neg (by omega)]);rw[if_pos (by omega)]
    rw[if_neg (by simpa using h1)]
  by_cases hop:x.1=1
  ·skip
   unfold Fl.after at hs';rw[if_neg (by omega),if_pos (by omega)]at hs'
   unfold inner;(iterate 5 rw[if_neg (by omega)])
   have hp:plain m who x g1 r=put 0 x.2 g1 r:=by unfold plain;rw[if_pos (by omega)]
   rw[hp]
   refine CONT (goes_put R1 e1 A1 ⟨(hx1 hop).1,by have:=(hx1 hop).2;omega⟩ hs') (next1 (by omega)) (by omega) (by rw[put_next];exact N1) ?_
   unfold Vm.act;(iterate 7 rw[if_neg (by omega)])
   unfold Fv.do_;rw[if_pos (by omega)]
  by_cases hop:x.1=8
  ·skip
   unfold Fl.after at hs';(iterate 4 rw[if_neg (by omega)]at hs');rw[if_pos (by omega)]at hs'
   unfold inner;(iterate 5 rw[if_neg (by omega)])
   have hp:plain m who x g1 r=spot m 8 x.2.toNat g1 r:=by unfold plain;rw[if_neg (by omega),if_neg (by omega),if_pos (by omega)];rw[hop]
   rw[hp]
   refine CONT (sim_dup R1 e1 A1 (hxp (by omega)) hs') (next1 (by omega)) (by omega) (by rw[put_next];exact N1) ?_
   unfold Vm.act;(iterate 7 rw[if_neg (by omega)])
   unfold Fv.do_;(iterate 3 rw[if_neg (by omega)]);rw[if_pos (by omega)]
  by_cases hop:x.1=9
  ·skip
   unfold Fl.after at hs';(iterate 5 rw[if_neg (by omega)]at hs');rw[if_pos (by omega)]at hs'
   unfold inner;(iterate 5 rw[if_neg (by omega)])
   have hp:plain m who x g1 r=spot m 9 x.2.toNat g1 r:=by unfold plain;rw[if_neg (by omega),if_neg (by omega),if_pos (by omega)];rw[hop]
   rw[hp]
   refine CONT (sim_move (m:=m) R1 e1 A1 (hxp (by omega)) hs') (next1 (by omega)) (by omega) (by rw[put_next];exact N1) ?_
   unfold Vm.act;(iterate 7 rw[if_neg (by omega)])
   unfold Fv.do_;(iterate 3 rw[if_neg (by omega)]);rw[if_pos (by omega)]
  by_cases hop:x.1=10
  ·skip
   unfold Fl.after at hs';(iterate 6 rw[if_neg (by omega)]at hs');rw[if_pos (by omega)]at hs'
   unfold inner;(iterate 5 rw[if_neg (by omega)])
   have hp:plain m who x g1 r=spot m 10 x.2.toNat g1 r:=by unfold plain;rw[if_neg (by omega),if_neg (by omega),if_pos (by omega)];rw[hop]
   rw[hp]
   refine CONT (sim_keep R1 e1 A1 (hxp (by omega)) hs') (next1 (by omega)) (by omega) (by rw[keep_next];exact N1) ?_
   unfold Vm.act;(iterate 7 rw[if_neg (by omega)])
   unfold Fv.do_;(iterate 4 rw[if_neg (by omega)]);rw[if_pos (by omega)]
  by_cases hop:x.1=11
  ·skip
   unfold Fl.after at hs';(iterate 7 rw[if_neg (by omega)]at hs');rw[if_pos (by omega)]at hs'
   unfold inner;(iterate 5 rw[if_neg (by omega)])
   have hp:plain m who x g1 r=drop m g1 r:=by unfold plain;(iterate 3 rw[if_neg (by omega)]);rw[if_pos (by omega)]
   rw[hp]
   refine CONT (sim_drop R1 e1 A1 hs') (next1 (by omega)) (by omega) (N1) ?_
   unfold Vm.act;(iterate 7 rw[if_neg (by omega)])
   unfold Fv.do_;(iterate 5 rw[if_neg (by omega)]);rw[if_pos (by omega)]
  by_cases hop:x.1=12
  ·skip
   unfold Fl.after at hs';(iterate 8 rw[if_neg (by omega)]at hs');rw[if_pos (by omega)]at hs'
   unfold inner;(iterate 5 rw[if_neg (by omega)])
   have hp:plain m who x g1 r=put x.2 (take 0 g1 r).1 (take 0 g1 r).2.1 (take 0 g1 r).2.2:=by unfold plain;(iterate 4 rw[if_neg (by omega)]);rw[if_pos (by omega)]
   rw[hp]
   refine CONT (sim_turn R1 e1 A1 hs') (next1 (by omega)) (by omega) (N1) ?_
   unfold Vm.act;(iterate 7 rw[if_neg (by omega)])
   unfold Fv.do_;(iterate 6 rw[if_neg (by omega)])
  by_cases hop:x.1=13
  ·skip
   unfold Fl.after at hs';(iterate 9 rw[if_neg (by omega)]at hs');rw[if_pos (by omega)]at hs'
   unfold inner;(iterate 5 rw[if_neg (by omega)])
   have hp:plain m who x g1 r=put 0 (take x.2 g1 r).1 (take x.2 g1 r).2.1 (take x.2 g1 r).2.2:=by unfold plain;(iterate 5 rw[if_neg (by omega)]);rw[if_pos (by omega)]
   rw[hp]
   refine CONT (sim_turn R1 e1 A1 hs') (next1 (by omega)) (by omega) (N1) ?_
   unfold Vm.act;(iterate 7 rw[if_neg (by omega)])
   unfold Fv.do_;(iterate 6 rw[if_neg (by omega)])
  exfalso
  omega
end Dr
namespace Dr
def run(m:Pu.Md)(f:Pu.Fn)(l:List Hd)(who gas:Int)(n:Nat):Gg:=(go m who gas n f 0 ⟨l,0,0,0,1⟩ (room f [])).2
theorem run_same{m:Pu.Md}{f:Pu.Fn}{l:List Hd}{A:Nat->Bool × Int}{who gas:Int}{n:Nat}(E:Env m who)(hs:Fl.Sound m f)(hf:Pu.isFn f m.kinds.length m.funcs.length=true)(hp:f.params.length=0)(hA:HA l A)(hg:0<=gas)(hn:gas.toNat<n):
  (run m f l who gas n).err=(runV m f A who gas).err/\(run m f l who gas n).code=(runV m f A who gas).code/\(run m f l who gas n).used=(runV m f A who gas).used/\
  ((run m f l who gas n).err=0->HA (run m f l who gas n).holds (runV m f A who gas).acc):=by
 obtain⟨σ,hσ⟩:=hs
 obtain⟨_,p8⟩:=fn_small hf
 have hp0:f.params=[]:=List.eq_nil_of_length_eq_zero hp
 have hroom:=sim_room f (by omega) p8 [] (by rw[hp];rfl) (by simp)
 have hz:f.params.zip ([]:List Int)=[]:=by simp
 rw[hz]at hroom
 have hF:({ Fv.fresh f.code with plc:=fun j=>if j<f.params.length then([]:List Int).getD j 0 else 0 }:Fv)=Fv.fresh f.code:=by
  unfold Fv.fresh
  simp only[Fv.mk.injEq,true_and]
  funext j
  split<;>simp
 rw[hF]at hroom
 obtain⟨V',v1,v2,v3⟩:=sim_go (gas:=gas) E n (f:=f) (a:=0) (g:=⟨l,0,0,0,1⟩) (rest:=[]) (A:=A) hσ hf (by omega) hσ.start hroom rfl hA rfl rfl hg (by show(gas-0).toNat<n;omega) rfl (by simp)
 obtain⟨j,j1,j2⟩:=v1
 have j1':V'.used=j:=by rw[j1];show 0+(j:Int)=j;omega
 have hjg:j<=gas.toNat:=by omega
 have hgo:Vm.go m who gas gas.toNat (Vm.start f A)=Vm.go m who gas (gas.toNat-j) V':=by
  have:=j2 (gas.toNat-j)
  rw[show gas.toNat-j+j=gas.toNat from by omega]at this
  exact this
 have stop:∀k,(V'.over=true\/¬V'.used<gas)->Vm.go m who gas k V'=V':=fun k hk=>by
  cases k with
  | zero=>rfl
  | succ k=>unfold Vm.go;rw[if_pos hk]
 unfold runV Vm.goOn
 rw[hgo]
 unfold run
 generalize go m who gas n f 0 ⟨l,0,0,0,1⟩ (room f [])=p at *
 rcases v3 with ⟨q1,q2,q3,_,_,_,q7,q8,q9,q10,_⟩|⟨_,q2,q3,q4,q5,q6⟩|⟨_,q2,q3,q4,q5,q6,q7,q8⟩
 ·have ho:=q10 rfl
  rw[stop _ (.inl ho),if_pos ho]
  exact⟨q1.trans q8.symm,q2.trans q9.symm,q3,fun _=>q7⟩
 ·rw[stop _ (.inl q4),if_pos q4]
  exact⟨q5.symm,q6.symm,q3,fun h=>absurd h q2⟩
 ·rw[stop _ (.inr (by omega)),if_neg (by rw[q5];decide)]
  exact⟨q2,q3.trans q8.symm,q4,fun h=>by rw[q2]at h;exact absurd h (by decide)⟩
end Dr
end Go.Proofs.YtjamgmbdilkbcaaGreat
namespace Go.Proofs.YtjamgmbdilkbcaaGreat
open Go.RowKit
namespace Dw
open Dr (Gg Rm)
structure Cx where
 ck:Value
 cf:Value
 who:Int
 gas:Int
 P:Nat->Prop
def vc(l:List (Int × Int)):List Value:=l.flatMap fun v=>[.int .i64 v.1,.int .i64 v.2]
def pc(l:List (Bool × Int × Int)):List Value:=l.flatMap fun v=>[.bool v.1,.int .i64 v.2.1,.int .i64 v.2.2]
def hc(l:List Dr.Hd):List Value:=l.flatMap fun v=>[.int .i64 v.who,.int .i64 v.kind,.int .i64 v.n]
def kc(l:List Int):List Value:=l.map (Value.int .i64)
def gcells(C:Cx)(hv:Value)(g:Gg):Array Value:=#[C.ck,C.cf,hv,.int .i64 C.who,.int .i64 C.gas,.int .i64 g.used,.int .i64 g.err,.int .i64 g.code,.int .i64 g.depth]
structure Sx (w:World) (B gq rq:Nat) (C:Cx) (g:Gg) (r:Rm) (hv sv pv kv:Value):Prop where
 gb:w.heap[gq]?=some (.cells (gcells C hv g) 140 (0,0))
 rb:w.heap[rq]?=some (.cells #[sv,pv,kv] 190 (0,0))
 ho:w.ownsRow 0 145 3 hv g.holds.length (hc g.holds)
 so:w.ownsRow B 192 2 sv r.stk.length (vc r.stk)
 po:w.ownsRow B 194 3 pv r.spots.length (pc r.spots)
 ko:w.ownsRow B 3 1 kv r.kinds.length (kc r.kinds)
 lt:gq<B
 le:B<=rq
 nd:(gq::rq::bl [hv,sv,pv,kv]).Nodup
 pr:∀k,C.P k->k<w.heap.size/\k ∉ gq::rq::bl [hv,sv,pv,kv]
def SO(w:World)(B gq rq:Nat)(C:Cx)(g:Gg)(r:Rm):Prop:=∃hv sv pv kv,Sx w B gq rq C g r hv sv pv kv
structure Lo (B gq:Nat) (P:Nat->Prop) (w w':World):Prop where
 os:w'.os=w.os
 tape:w'.tape=w.tape
 output:w'.output=w.output
 size:w.heap.size<=w'.heap.size
 block:∀k,((k<B/\k≠gq)\/P k)->w'.heap[k]?=w.heap[k]?
theorem Lo.refl(B gq:Nat)(P:Nat->Prop)(w:World):Lo B gq P w w:=⟨rfl,rfl,rfl,Nat.le_refl _,fun _ _=>rfl⟩
theorem Lo.trans{B gq:Nat}{P:Nat->Prop}{a b c:World}(h:Lo B gq P a b)(k:Lo B gq P b c):Lo B gq P a c:=⟨k.os.trans h.os,k.tape.trans h.tape,k.output.trans h.output,Nat.le_trans h.size k.size,fun j h1=>(k.block j h1).trans (h.block j h1)⟩
theorem Lo.set{B gq:Nat}{P:Nat->Prop}{w:World}{p:Addr}(hp:p.block=gq\/B<=p.block)(hP:¬P p.block)(v:Value):Lo B gq P w (w.setCell p v):=
 ⟨rfl,rfl,rfl,by simp,fun k h1=>Below.heap_setCell _ _ _ _ (by
  rcases h1 with h1|h1
  ·omega
  ·intro e;rw[e]at h1;exact hP h1)⟩
theorem Lo.low{B gq:Nat}{P:Nat->Prop}{w w':World}(h:Lo B gq P w w')(hg:gq<=B):Below gq w w':=⟨h.os,h.tape,h.output,h.size,fun k hk=>h.block k (.inl ⟨by omega,by omega⟩)⟩
theorem Lo.grown{B gq:Nat}{P:Nat->Prop}{w w':World}{r:Option Nat}(h:w.grownBy w' r)(hB:B<=w.heap.size)(hr:∀k,r=some k->(k=gq\/B<=k)/\¬P k)(hl:∀k,P k->k<w.heap.size):Lo B gq P w w':=
 ⟨h.os,h.tape,h.output,h.size,fun k h1=>by
  rcases h1 with ⟨h1,h2⟩|h1
  ·exact h.block k (by omega) (fun e=>by have:=(hr k e.symm).1;omega)
  ·exact h.block k (hl k h1) (fun e=>(hr k e.symm).2 h1)⟩
theorem Lo.below{B gq:Nat}{P:Nat->Prop}{w w':World}(h:Below w.heap.size w w')(hB:B<=w.heap.size)(hl:∀k,P k->k<w.heap.size):Lo B gq P w w':=⟨h.os,h.tape,h.output,h.size,fun k h1=>h.block k (by
 rcases h1 with ⟨h1,_⟩|h1
 ·omega
 ·exact hl k h1)⟩
section
variable {w w':World} {B gq rq:Nat} {C:Cx} {g g':Gg} {r r':Rm} {hv sv pv kv:Value}
theorem Sx.gl(h:Sx w B gq rq C g r hv sv pv kv):gq<w.heap.size:=(Array.getElem?_eq_some_iff.1 h.gb).1
theorem Sx.rl(h:Sx w B gq rq C g r hv sv pv kv):rq<w.heap.size:=(Array.getElem?_eq_some_iff.1 h.rb).1
theorem Sx.gc(h:Sx w B gq rq C g r hv sv pv kv)(i:Nat):w.cell? ⟨gq,i,none⟩=(gcells C hv g)[i]?:=by simp[World.cell?,h.gb]
theorem Sx.gz(h:Sx w B gq rq C g r hv sv pv kv)(i:Nat):w.frozen? ⟨gq,i,none⟩=false:=by simp[World.frozen?,h.gb]
theorem Sx.rz(h:Sx w B gq rq C g r hv sv pv kv)(i:Nat):w.frozen? ⟨rq,i,none⟩=false:=by simp[World.frozen?,h.rb]
theorem Sx.c0(h:Sx w B gq rq C g r hv sv pv kv):w.cell? ⟨gq,0,none⟩=some C.ck:=by rw[h.gc];rfl
theorem Sx.c1(h:Sx w B gq rq C g r hv sv pv kv):w.cell? ⟨gq,1,none⟩=some C.cf:=by rw[h.gc];rfl
theorem Sx.c2(h:Sx w B gq rq C g r hv sv pv kv):w.cell? ⟨gq,2,none⟩=some hv:=by rw[h.gc];rfl
theorem Sx.c3(h:Sx w B gq rq C g r hv sv pv kv):w.cell? ⟨gq,3,none⟩=some (.int .i64 C.who):=by rw[h.gc];rfl
theorem Sx.c4(h:Sx w B gq rq C g r hv sv pv kv):w.cell? ⟨gq,4,none⟩=some (.int .i64 C.gas):=by rw[h.gc];rfl
theorem Sx.c5(h:Sx w B gq rq C g r hv sv pv kv):w.cell? ⟨gq,5,none⟩=some (.int .i64 g.used):=by rw[h.gc];rfl
theorem Sx.c6(h:Sx w B gq rq C g r hv sv pv kv):w.cell? ⟨gq,6,none⟩=some (.int .i64 g.err):=by rw[h.gc];rfl
theorem Sx.c7(h:Sx w B gq rq C g r hv sv pv kv):w.cell? ⟨gq,7,none⟩=some (.int .i64 g.code):=by rw[h.gc];rfl
theorem Sx.c8(h:Sx w B gq rq C g r hv sv pv kv):w.cell? ⟨gq,8,none⟩=some (.int .i64 g.depth):=by rw[h.gc];rfl
theorem Sx.r0(h:Sx w B gq rq C g r hv sv pv kv):w.cell? ⟨rq,0,none⟩=some sv:=by simp[World.cell?,h.rb]
theorem Sx.r1(h:Sx w B gq rq C g r hv sv pv kv):w.cell? ⟨rq,1,none⟩=some pv:=by simp[World.cell?,h.rb]
theorem Sx.r2(h:Sx w B gq rq C g r hv sv pv kv):w.cell? ⟨rq,2,none⟩=some kv:=by simp[World.cell?,h.rb]
theorem Sx.apart(h:Sx w B gq rq C g r hv sv pv kv):gq≠rq/\(∀k,k∈bl [hv,sv,pv,kv]->k≠gq/\k≠rq):=by
 have h1:=List.nodup_cons.1 h.nd
 have h2:=List.nodup_cons.1 h1.2
 refine⟨fun e=>h1.1 (by rw[e];simp),fun k hk=>⟨fun e=>h1.1 ?_,fun e=>h2.1 ?_⟩⟩
 ·rw[<-e];exact List.mem_cons_of_mem _ hk
 ·rw[<-e];exact hk
theorem mem_bl{v:Value}{l:List Value}{k:Nat}(hv:v∈l)(hk:v.ownBlock=some k):k∈bl l:=by
 unfold bl
 exact List.mem_flatMap.2 ⟨v,hv,by rw[hk];simp⟩
theorem Sx.setG(h:Sx w B gq rq C g r hv sv pv kv)(hh:g'.holds=g.holds)(hw:w'.heap[gq]?=some (.cells (gcells C hv g') 140 (0,0)))(hk:∀k,k≠gq->w'.heap[k]?=w.heap[k]?)(hz:w.heap.size<=w'.heap.size):Sx w' B gq rq C g' r hv sv pv kv:=by
 obtain⟨a1,a2⟩:=h.apart
 have keep:∀{b e size n:Nat} {v:Value} {xs:List Value},v∈[hv,sv,pv,kv]->w.ownsRow b e size v n xs->w'.ownsRow b e size v n xs:=fun hm ho=>owns_block ho fun k hk2=>hk k (a2 k (mem_bl hm hk2)).1
 exact⟨hw,(hk rq (fun e=>a1 e.symm)).trans h.rb,by rw[hh];exact keep (by simp) h.ho,keep (by simp) h.so,keep (by simp) h.po,keep (by simp) h.ko,h.lt,h.le,h.nd,fun k hk=>⟨Nat.lt_of_lt_of_le (h.pr k hk).1 hz,(h.pr k hk).2⟩⟩
theorem Sx.setErr(h:Sx w B gq rq C g r hv sv pv kv)(e:Int):Sx (w.setCell ⟨gq,6,none⟩ (.int .i64 e)) B gq rq C { g with err:=e } r hv sv pv kv:=
 h.setG rfl (by have:=h.gb;simp[World.setCell,Array.getElem?_modify,this,gcells]) (fun k hk=>Below.heap_setCell _ _ _ _ hk) (by simp)
theorem Sx.setUsed(h:Sx w B gq rq C g r hv sv pv kv)(e:Int):Sx (w.setCell ⟨gq,5,none⟩ (.int .i64 e)) B gq rq C { g with used:=e } r hv sv pv kv:=
 h.setG rfl (by have:=h.gb;simp[World.setCell,Array.getElem?_modify,this,gcells]) (fun k hk=>Below.heap_setCell _ _ _ _ hk) (by simp)
theorem Sx.setCode(h:Sx w B gq rq C g r hv sv pv kv)(e:Int):Sx (w.setCell ⟨gq,7,none⟩ (.int .i64 e)) B gq rq C { g with code:=e } r hv sv pv kv:=
 h.setG rfl (by have:=h.gb;simp[World.setCell,Array.getElem?_modify,this,gcells]) (fun k hk=>Below.heap_setCell _ _ _ _ hk) (by simp)
theorem Sx.setDepth(h:Sx w B gq rq C g r hv sv pv kv)(e:Int):Sx (w.setCell ⟨gq,8,none⟩ (.int .i64 e)) B gq rq C { g with depth:=e } r hv sv pv kv:=
 h.setG rfl (by have:=h.gb;simp[World.setCell,Array.getElem?_modify,this,gcells]) (fun k hk=>Below.heap_setCell _ _ _ _ hk) (by simp)
theorem Sx.below(h:Sx w B gq rq C g r hv sv pv kv)(hb:Below w.heap.size w w'):Sx w' B gq rq C g r hv sv pv kv:=
 ⟨(hb.block _ h.gl).trans h.gb,(hb.block _ h.rl).trans h.rb,owns_block h.ho fun k hk=>hb.block k (h.ho.lt k hk).2,owns_block h.so fun k hk=>hb.block k (h.so.lt k hk).2,owns_block h.po fun k hk=>hb.block k (h.po.lt k hk).2,owns_block h.ko fun k hk=>hb.block k (h.ko.lt k hk).2,h.lt,h.le,h.nd,fun k hk=>⟨Nat.lt_of_lt_of_le (h.pr k hk).1 hb.size,(h.pr k hk).2⟩⟩
theorem Sx.setStk(h:Sx w B gq rq C g r hv sv pv kv){sv':Value}{l:List (Int × Int)}(ho:w.ownsRow B 192 2 sv' l.length (vc l))(hb:sv'.ownBlock=sv.ownBlock):Sx (w.setCell ⟨rq,0,none⟩ sv') B gq rq C g { r with stk:=l } hv sv' pv kv:=by
 obtain⟨a1,a2⟩:=h.apart
 have hk:∀k,k≠rq->(w.setCell ⟨rq,0,none⟩ sv').heap[k]?=w.heap[k]?:=fun k hk=>Below.heap_setCell _ _ _ _ hk
 have keep:∀{b e size n:Nat} {v:Value} {xs:List Value},v∈[hv,sv,pv,kv]->w.ownsRow b e size v n xs->(w.setCell ⟨rq,0,none⟩ sv').ownsRow b e size v n xs:=fun hm ho=>owns_block ho fun k hk2=>hk k (a2 k (mem_bl hm hk2)).2
 have hnd:bl [hv,sv',pv,kv]=bl [hv,sv,pv,kv]:=by simp[bl,hb]
 exact⟨(hk gq a1).trans h.gb,by have:=h.rb;simp[World.setCell,Array.getElem?_modify,this],keep (by simp) h.ho,owns_block ho fun k hk2=>hk k (a2 k (mem_bl (v:=sv) (by simp) (by rw[<-hb];exact hk2))).2,keep (by simp) h.po,keep (by simp) h.ko,h.lt,h.le,by rw[hnd];exact h.nd,fun k hk=>⟨by simpa using (h.pr k hk).1,by rw[hnd];exact(h.pr k hk).2⟩⟩
theorem Sx.npg(h:Sx w B gq rq C g r hv sv pv kv):¬C.P gq:=fun hp=>(h.pr gq hp).2 (by simp)
theorem Sx.npr(h:Sx w B gq rq C g r hv sv pv kv):¬C.P rq:=fun hp=>(h.pr rq hp).2 (by simp)
theorem Sx.npb(h:Sx w B gq rq C g r hv sv pv kv){v:Value}(hv':v∈[hv,sv,pv,kv]){k:Nat}(hk:v.ownBlock=some k):¬C.P k:=fun hp=>(h.pr k hp).2 (List.mem_cons_of_mem _ (List.mem_cons_of_mem _ (mem_bl hv' hk)))
theorem Sx.bs(h:Sx w B gq rq C g r hv sv pv kv):B<=w.heap.size:=Nat.le_of_lt (Nat.lt_of_le_of_lt h.le h.rl)
theorem Sx.loG(h:Sx w B gq rq C g r hv sv pv kv)(i:Nat)(v:Value):Lo B gq C.P w (w.setCell ⟨gq,i,none⟩ v):=Lo.set (p:=⟨gq,i,none⟩) (.inl rfl) h.npg v
theorem Sx.loR(h:Sx w B gq rq C g r hv sv pv kv)(i:Nat)(v:Value):Lo B gq C.P w (w.setCell ⟨rq,i,none⟩ v):=Lo.set (p:=⟨rq,i,none⟩) (.inr h.le) h.npr v
theorem Sx.loB(h:Sx w B gq rq C g r hv sv pv kv)(hb:Below w.heap.size w w'):Lo B gq C.P w w':=Lo.below hb h.bs fun k hk=>(h.pr k hk).1
theorem Sx.loW(h:Sx w B gq rq C g r hv sv pv kv)(hg:w.grownBy w' (some gq)):Lo B gq C.P w w':=Lo.grown hg h.bs (fun k hk=>by cases hk;exact⟨.inl rfl,h.npg⟩) fun k hk=>(h.pr k hk).1
end
def OpOut(w w':World)(B gq rq:Nat)(C:Cx)(p:Gg × Rm):Prop:=SO w' B gq rq C p.1 p.2/\Lo B gq C.P w w'
theorem wrong_any(w:World)(B gq rq:Nat)(C:Cx)(g:Gg)(r:Rm)(hv sv pv kv:Value)(b:Bool)(x:Int)(h:Sx w B gq rq C g r hv sv pv kv):
  Calls Tryz.prog 108 #[.pointer (some ⟨gq,0,none⟩),.bool b,.int .i64 x] w fun e w'=>e=.returned (.tuple #[])/\Sx w' B gq rq C (Dr.wrong (b=true) x g) r hv sv pv kv/\w.grownBy w' (some gq):=by
 have c6:=h.c6
 have z6:=h.gz 6
 cases b with
 | false=>
  have e:Dr.wrong (false=true) x g=g:=by unfold Dr.wrong;simp
  rw[e]
  have FIN:=hid (And.intro h (grown_refl w (some gq)))
  clear h e
  go_enter Tryz.func108,Tryz.ntmps108
  go_wp2
  go_end0
  exact⟨rfl,FIN.out⟩
 | true=>
  by_cases he:g.err=0
  ·have e:Dr.wrong (true=true) x g={ g with err:=x }:=by unfold Dr.wrong;simp[he]
   rw[e]
   have FIN:=hid (And.intro (h.setErr x) (grown_set w gq 6 (.int .i64 x)))
   rw[he]at c6
   clear h e he
   go_enter Tryz.func108,Tryz.ntmps108
   go_wp2
   go_end0
   exact⟨rfl,FIN.out⟩
  ·have e:Dr.wrong (true=true) x g=g:=by unfold Dr.wrong;simp[he]
   rw[e]
   have FIN:=hid (And.intro h (grown_refl w (some gq)))
   have n1:(g.err == 0)=false:=by simpa using he
   clear h e
   go_enter Tryz.func108,Tryz.ntmps108
   go_wp2
   go_end0
   exact⟨rfl,FIN.out⟩
end Dw
end Go.Proofs.YtjamgmbdilkbcaaGreat
