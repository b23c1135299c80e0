import Derived.Test.YtjamgmbdilkbcaaGreatLotAll31
namespace Go.Proofs.YtjamgmbdilkbcaaGreat
open Go.RowKit Mc
namespace Dr
structure RR (f:Pu.Fn) (s:Fl.S) (r:Rm) (F:Fv):Prop where
 kd:r.stk.map Prod.fst=s.stk
 vl:r.stk.map Prod.snd=F.stk.reverse
 ks:r.kinds=Fl.places f
 sl:r.spots.length=(Fl.places f).length
 full:∀i,i<(Fl.places f).length->(r.spots.getD i noSpot).1=s.full.getD i false
 sv:∀i,i<(Fl.places f).length->s.full.getD i false=true->(r.spots.getD i noSpot).2.2=F.plc i
 num:∀v∈r.stk,Num v.2
 snum:∀v∈r.spots,Num v.2.2
 len:s.stk.length<=16
 fl:s.full.length=8
 pl:(Fl.places f).length<=8
 code:F.code=f.code
section
variable {f:Pu.Fn} {s s':Fl.S} {r:Rm} {F:Fv} {g:Gg}
theorem RR.slen(h:RR f s r F):r.stk.length=s.stk.length/\F.stk.length=s.stk.length:=by
 have h1:=congrArg List.length h.kd
 have h2:=congrArg List.length h.vl
 simp only[List.length_map,List.length_reverse]at h1 h2
 omega
theorem RR.goto(h:RR f s r F)(a:Int):RR f s r (F.goto a):=⟨h.kd,h.vl,h.ks,h.sl,h.full,h.sv,h.num,h.snum,h.len,h.fl,h.pl,h.code⟩
theorem RR.take(h:RR f s r F)(he:g.err=0){k:Int}(ht:Fl.takeS k s=some s'):
  Dr.take k g r=(F.top,g,{ r with stk:=r.stk.dropLast })/\Num F.top/\RR f s' { r with stk:=r.stk.dropLast } F.pop/\F.stk=F.top::F.pop.stk:=by
 unfold Fl.takeS at ht
 split at ht
 ·rename_i hk
  simp only[Option.some.injEq]at ht
  subst ht
  have hne:s.stk≠[]:=by intro e;rw[e]at hk;simp at hk
  have hrn:r.stk≠[]:=by intro e;have:=h.kd;rw[e]at this;exact hne this.symm
  obtain⟨l,a,hl⟩:∃l a,r.stk=l++[a]:=⟨r.stk.dropLast,r.stk.getLast hrn,(List.dropLast_concat_getLast hrn).symm⟩
  have hkd:=h.kd
  have hvl:=h.vl
  rw[hl]at hkd hvl
  simp only[List.map_append,List.map_cons,List.map_nil]at hkd hvl
  have hF:F.stk=a.2::(l.map Prod.snd).reverse:=by
   have:=congrArg List.reverse hvl
   simpa using this.symm
  have hka:a.1=k:=by
   rw[<-hkd]at hk
   simpa using hk
  have htop:F.top=a.2:=by unfold Fv.top;rw[hF];rfl
  have hpop:F.pop.stk=(l.map Prod.snd).reverse:=by unfold Fv.pop;rw[hF];rfl
  refine⟨?_,?_,?_,?_⟩
  ·unfold Dr.take
   rw[hl,if_pos ⟨he,by simp[hka]⟩,htop]
   simp
  ·rw[htop];exact h.num a (by rw[hl];simp)
  ·have hd:r.stk.dropLast=l:=by rw[hl];simp
   refine⟨?_,?_,h.ks,h.sl,h.full,h.sv,fun v hv=>?_,h.snum,?_,h.fl,h.pl,h.code⟩
   ·show r.stk.dropLast.map Prod.fst=s.stk.dropLast
    rw[hd,<-hkd];simp
   ·show r.stk.dropLast.map Prod.snd=F.pop.stk.reverse
    rw[hd,hpop];simp
   ·refine h.num v ?_
    have hv':v∈r.stk.dropLast:=hv
    exact List.dropLast_subset _ hv'
   ·show s.stk.dropLast.length<=16
    have:=h.len
    simp;omega
  ·rw[htop,hpop];exact hF
 ·simp at ht
theorem RR.put(h:RR f s r F)(he:g.err=0){k n:Int}(hn:Num n)(ht:Fl.putS k s=some s'):
  Dr.put k n g r=(g,{ r with stk:=r.stk++[(k,n)] })/\RR f s' { r with stk:=r.stk++[(k,n)] } (F.put n):=by
 have hl:=h.slen
 unfold Fl.putS at ht
 split at ht
 ·rename_i hlt
  simp only[Option.some.injEq]at ht
  subst ht
  have hFp:F.put n={ F with stk:=n::F.stk }:=by unfold Fv.put;rw[if_pos (by omega)]
  refine⟨?_,?_⟩
  ·unfold Dr.put
   rw[if_neg (by simpa using he),if_neg (by omega)]
  ·rw[hFp]
   refine⟨?_,?_,h.ks,h.sl,h.full,h.sv,fun v hv=>?_,h.snum,?_,h.fl,h.pl,h.code⟩
   ·show(r.stk++[(k,n)]).map Prod.fst=s.stk++[k]
    rw[List.map_append,h.kd];rfl
   ·show(r.stk++[(k,n)]).map Prod.snd=(n::F.stk).reverse
    rw[List.map_append,h.vl];simp
   ·have hv':v∈r.stk++[(k,n)]:=hv
    rcases List.mem_append.1 hv' with hv|hv
    ·exact h.num v hv
    ·simp only[List.mem_singleton]at hv
     subst hv
     exact hn
   ·show(s.stk++[k]).length<=16
    simp;omega
 ·simp at ht
theorem put_err(he:g.err≠0)(k n:Int)(r:Rm):Dr.put k n g r=(g,r):=by unfold Dr.put;rw[if_pos he]
theorem take_err(he:g.err≠0)(k:Int)(r:Rm):Dr.take k g r=(0,g,r):=by
 unfold Dr.take;rw[if_neg (fun x=>he x.1)];unfold wrong;rw[if_neg (fun x=>he x.2)]
theorem wrong_no{is:Prop}[Decidable is](h:¬is)(e:Int)(g:Gg):wrong is e g=g:=by unfold wrong;rw[if_neg (fun x=>h x.1)]
theorem wrong_yes{is:Prop}[Decidable is](h:is)(e:Int)(he:g.err=0):wrong is e g={ g with err:=e }:=by unfold wrong;rw[if_pos ⟨h,he⟩]
theorem put_top(hs:F.stk=F.top::F.pop.stk)(hl:F.stk.length<=16):F.pop.put F.top=F:=by
 have h1:F.pop.stk.length<16:=by have:=congrArg List.length hs;simp only[List.length_cons]at this;omega
 unfold Fv.put
 rw[if_pos h1]
 cases F with
 | mk c n st p=>
  simp only[Fv.pop,Fv.mk.injEq,true_and,and_true]at hs ⊢
  exact hs.symm
def Goes(f:Pu.Fn)(s':Fl.S)(g:Gg)(A':Nat->Bool × Int)(F':Fv)(p:Gg × Rm):Prop:=
 p.1.err=0/\p.1.code=g.code/\p.1.used=g.used/\p.1.depth=g.depth/\RR f s' p.2 F'/\HA p.1.holds A'
def Gives(g:Gg)(e:Int)(p:Gg × Rm):Prop:=p.1.err=e/\p.1.code=g.code/\p.1.used=g.used
theorem goes_put(h:RR f s r F)(he:g.err=0){A:Nat->Bool × Int}(hA:HA g.holds A){k n:Int}(hn:Num n)(ht:Fl.putS k s=some s'):Goes f s' g A (F.put n) (Dr.put k n g r):=by
 obtain⟨h1,h2⟩:=h.put he hn ht
 rw[h1]
 exact⟨he,rfl,rfl,rfl,h2,hA⟩
theorem take2(h:RR f s r F)(he:g.err=0){k1 k2:Int}(ht:(Fl.takeS k1 s).bind (Fl.takeS k2)=some s'):
  ∃r',Dr.take k1 g r=(F.top,g,{ r with stk:=r.stk.dropLast })/\Dr.take k2 g { r with stk:=r.stk.dropLast }=(F.pop.top,g,r')/\Num F.top/\Num F.pop.top/\RR f s' r' F.pop.pop:=by
 cases h1:Fl.takeS k1 s with
 | none=>rw[h1]at ht;simp at ht
 | some t=>
  rw[h1]at ht
  simp only[Option.bind_some]at ht
  obtain⟨a1,a2,a3,_⟩:=h.take he h1
  obtain⟨b1,b2,b3,_⟩:=a3.take he ht
  exact⟨_,a1,b1,a2,b2,b3⟩
theorem sim_two(h:RR f s r F)(he:g.err=0){A:Nat->Bool × Int}(hA:HA g.holds A){op:Int}(hop:op=2\/op=3\/op=4\/op=5)(ht:((Fl.takeS 0 s).bind (Fl.takeS 0)).bind (Fl.putS 0)=some s'):
  ((reckonN op F.pop.top F.top<0\/1000000000<reckonN op F.pop.top F.top)/\Gives g 6 (two op g r))\/
  (¬(reckonN op F.pop.top F.top<0\/1000000000<reckonN op F.pop.top F.top)/\Goes f s' g A (F.pop.pop.put (reckonN op F.pop.top F.top)) (two op g r)):=by
 cases h1:(Fl.takeS 0 s).bind (Fl.takeS 0)with
 | none=>rw[h1]at ht;simp at ht
 | some t=>
  rw[h1]at ht
  simp only[Option.bind_some]at ht
  obtain⟨r',a1,a2,n1,n2,a3⟩:=take2 h he h1
  have fin:∀n,Num n->Goes f s' g A (F.pop.pop.put n) (Dr.put 0 n g r'):=fun n hn=>goes_put a3 he hA hn ht
  unfold two
  simp only[a1,a2]
  obtain⟨x1,x2⟩:=n1
  obtain⟨y1,y2⟩:=n2
  have w1:wrap64 (F.pop.top+F.top)=F.pop.top+F.top:=by unfold wrap64;omega
  have w2:wrap64 (F.pop.top-F.top)=F.pop.top-F.top:=by unfold wrap64;omega
  rw[w1,w2]
  unfold reckonN
  rw[w1,w2]
  rcases hop with rfl|rfl|rfl|rfl
  ·simp only[if_true]
   by_cases hb:1000000000<F.pop.top+F.top
   ·left
    rw[wrong_yes hb 6 he,put_err (by simp)]
    exact⟨.inr hb,rfl,rfl,rfl⟩
   ·right
    rw[wrong_no hb]
    exact⟨by omega,fin _ ⟨by omega,by omega⟩⟩
  ·simp only[show ¬((3:Int)=2) from by decide,if_false,if_true]
   by_cases hb:F.pop.top<F.top
   ·left
    rw[wrong_yes hb 6 he,put_err (by simp)]
    exact⟨.inl (by omega),rfl,rfl,rfl⟩
   ·right
    rw[wrong_no hb]
    exact⟨by omega,fin _ ⟨by omega,by omega⟩⟩
  ·simp only[show ¬((4:Int)=2) from by decide,show ¬((4:Int)=3) from by decide,if_false,if_true]
   right
   split
   ·exact⟨by decide,fin _ ⟨by decide,by decide⟩⟩
   ·exact⟨by decide,fin _ ⟨by decide,by decide⟩⟩
  ·simp only[show ¬((5:Int)=2) from by decide,show ¬((5:Int)=3) from by decide,show ¬((5:Int)=4) from by decide,if_false,if_true]
   right
   split
   ·exact⟨by decide,fin _ ⟨by decide,by decide⟩⟩
   ·exact⟨by decide,fin _ ⟨by decide,by decide⟩⟩
end
end Dr
namespace Dr
theorem getD_set{α:Type}(l:List α)(i j:Nat)(v d:α)(hi:i<l.length):(l.set i v).getD j d=if j=i then v else l.getD j d:=by
 rw[List.getD_eq_getElem?_getD,List.getD_eq_getElem?_getD,List.getElem?_set]
 by_cases h:i=j
 ·subst h;simp[hi]
 ·rw[if_neg h,if_neg (fun e=>h e.symm)]
section
variable {m:Pu.Md} {f:Pu.Fn} {s s':Fl.S} {r:Rm} {F:Fv} {g:Gg} {A:Nat->Bool × Int}
theorem RR.setSpot(h:RR f s r F){i:Nat}(hi:i<(Fl.places f).length)(b:Bool)(k n:Int)(hn:Num n)(F':Fv)(hs:F'.stk=F.stk)(hc:F'.code=F.code)(hp:∀j,j<(Fl.places f).length->(if j=i then b else s.full.getD j false)=true->(if j=i then n else(r.spots.getD j noSpot).2.2)=F'.plc j):
  RR f ⟨s.stk,s.full.set i b⟩ { r with spots:=r.spots.set i (b,k,n) } F':=by
 have h1:=h.sl
 have h2:=h.fl
 have h3:=h.pl
 refine⟨h.kd,by rw[hs];exact h.vl,h.ks,by simpa using h.sl,fun j hj=>?_,fun j hj hf=>?_,h.num,fun v hv=>?_,h.len,by simpa using h.fl,h.pl,hc.trans h.code⟩
 ·show((r.spots.set i (b,k,n)).getD j noSpot).1=(s.full.set i b).getD j false
  rw[getD_set _ _ _ _ _ (by omega),getD_set _ _ _ _ _ (by omega)]
  by_cases hj2:j=i
  ·rw[if_pos hj2,if_pos hj2]
  ·rw[if_neg hj2,if_neg hj2];exact h.full j hj
 ·have hf':(s.full.set i b).getD j false=true:=hf
  rw[getD_set _ _ _ _ _ (by omega)]at hf'
  show((r.spots.set i (b,k,n)).getD j noSpot).2.2=F'.plc j
  rw[getD_set _ _ _ _ _ (by omega),<-hp j hj hf']
  by_cases hj2:j=i
  ·rw[if_pos hj2,if_pos hj2]
  ·rw[if_neg hj2,if_neg hj2]
 ·have hv':v∈r.spots.set i (b,k,n):=hv
  rcases List.mem_or_eq_of_mem_set hv' with hv|rfl
  ·exact h.snum v hv
  ·exact hn
theorem RR.kindAt(h:RR f s r F)(i:Nat):r.kinds.getD i 0=(Fl.places f).getD i 0:=by rw[h.ks]
theorem RR.spotNum(h:RR f s r F)(i:Nat):Num (r.spots.getD i noSpot).2.2:=by
 rw[List.getD_eq_getElem?_getD]
 by_cases hi:i<r.spots.length
 ·rw[List.getElem?_eq_getElem hi];exact h.snum _ (List.getElem_mem hi)
 ·rw[List.getElem?_eq_none (by omega)];exact⟨by decide,by decide⟩
theorem sim_dup(h:RR f s r F)(he:g.err=0)(hA:HA g.holds A){a:Int}(ha:0<=a/\a<(Fl.places f).length)(ht:Fl.copyS m f a.toNat s=some s'):Goes f s' g A (F.put (F.heldAt a)) (spot m 8 a.toNat g r):=by
 have hpl:=h.pl
 unfold Fl.copyS at ht
 split at ht
 ·rename_i hc
  have hi:a.toNat<(Fl.places f).length:=by omega
  have hf:=h.full _ hi
  rw[hc.1]at hf
  have hv:=h.sv _ hi hc.1
  have hh:F.heldAt a=F.plc a.toNat:=by unfold Fv.heldAt;rw[if_neg (by omega)]
  unfold spot
  simp only[if_true]
  rw[h.kindAt,hf,hv,hc.2,wrong_no (by simp),hh]
  rw[<-hv]
  exact goes_put h he hA (h.spotNum _) ht
 ·simp at ht
theorem sim_move(h:RR f s r F)(he:g.err=0)(hA:HA g.holds A){a:Int}(ha:0<=a/\a<(Fl.places f).length)(ht:Fl.moveS f a.toNat s=some s'):Goes f s' g A (F.put (F.heldAt a)) (spot m 9 a.toNat g r):=by
 have hpl:=h.pl
 unfold Fl.moveS at ht
 split at ht
 ·rename_i hc
  have hi:a.toNat<(Fl.places f).length:=by omega
  have hf:=h.full _ hi
  rw[hc]at hf
  have hv:=h.sv _ hi hc
  have hh:F.heldAt a=F.plc a.toNat:=by unfold Fv.heldAt;rw[if_neg (by omega)]
  have h0:=h.setSpot hi false 0 0 ⟨by decide,by decide⟩ F rfl rfl (fun j hj hf2=>by
   by_cases e:j=a.toNat
   ·rw[if_pos e]at hf2;exact absurd hf2 (by decide)
   ·rw[if_neg e]at hf2 ⊢;exact h.sv j hj hf2)
  have hn:=h.spotNum a.toNat
  obtain⟨p1,p2⟩:=h0.put (g:=g) he hn ht
  have hlt:s.stk.length<16:=by
   unfold Fl.putS at ht
   split at ht
   ·rename_i hx;exact hx
   ·simp at ht
  have q1:Dr.put ((Fl.places f).getD a.toNat 0) (r.spots.getD a.toNat noSpot).2.2 g r=(g,{ r with stk:=r.stk++[((Fl.places f).getD a.toNat 0,(r.spots.getD a.toNat noSpot).2.2)] }):=by
   unfold Dr.put
   rw[if_neg (by simpa using he),if_neg (by have:=h.slen;omega)]
  unfold spot
  simp only[show ¬((9:Int)=8) from by decide,if_false,if_true]
  rw[h.kindAt,hf,wrong_no (by simp),q1,hh]
  rw[<-hv]
  exact⟨he,rfl,rfl,rfl,p2,hA⟩
 ·simp at ht
theorem sim_keep(h:RR f s r F)(he:g.err=0)(hA:HA g.holds A){a:Int}(ha:0<=a/\a<(Fl.places f).length)(ht:Fl.keepS m f a.toNat s=some s'):Goes f s' g A (F.pop.keep a F.top) (spot m 10 a.toNat g r):=by
 have hpl:=h.pl
 have hi:a.toNat<(Fl.places f).length:=by omega
 unfold Fl.keepS at ht
 cases h1:Fl.takeS ((Fl.places f).getD a.toNat 0) s with
 | none=>rw[h1]at ht;simp at ht
 | some u=>
  rw[h1]at ht
  simp only[Option.bind_some]at ht
  split at ht
  ·rename_i hc
   simp only[Option.some.injEq]at ht
   subst ht
   obtain⟨a1,a2,a3,_⟩:=h.take he h1
   have hfu:u.full=s.full:=by
    unfold Fl.takeS at h1
    split at h1
    ·simp only[Option.some.injEq]at h1;rw[<-h1]
    ·simp at h1
   have hf:=h.full _ hi
   have hkp:F.pop.keep a F.top={ F.pop with plc:=fun j=>if j=a.toNat then F.top else F.plc j }:=by unfold Fv.keep;rw[if_neg (by omega)];rfl
   have h0:=a3.setSpot hi true ((Fl.places f).getD a.toNat 0) F.top a2 { F.pop with plc:=fun j=>if j=a.toNat then F.top else F.plc j } rfl rfl (fun j hj hf2=>by
    show _=if j=a.toNat then F.top else F.plc j
    by_cases e:j=a.toNat
    ·rw[if_pos e,if_pos e]
    ·rw[if_neg e]at hf2 ⊢
     rw[if_neg e]
     exact a3.sv j hj hf2)
   have hnw:¬((r.spots.getD a.toNat noSpot).1=true/\Fl.may m ((Fl.places f).getD a.toNat 0) 2=false):=fun x=>by
    unfold Fl.canLose at hc
    rw[hfu,<-hf,x.1,x.2]at hc
    simp at hc
   unfold spot
   simp only[show ¬((10:Int)=8) from by decide,show ¬((10:Int)=9) from by decide,if_false]
   rw[h.kindAt,a1,hkp]
   simp only
   rw[wrong_no hnw]
   exact⟨he,rfl,rfl,rfl,h0,hA⟩
  ·simp at ht
theorem sim_drop(h:RR f s r F)(he:g.err=0)(hA:HA g.holds A)(ht:Fl.dropS m s=some s'):Goes f s' g A F.pop (drop m g r):=by
 unfold Fl.dropS at ht
 split at ht
 ·rename_i hc
  simp only[Option.some.injEq]at ht
  have hl:(r.stk.getLast?).map (·.1)=s.stk.getLast?:=by
   rw[<-h.kd,List.getLast?_map]
  have hne:r.stk≠[]:=by intro e;have:=h.kd;rw[e]at this;exact hc.1 this.symm
  have htk:Fl.takeS (s.stk.getLast?.getD 0) s=some s':=by
   unfold Fl.takeS
   rw[if_pos ?_,ht]
   rw[List.getLast?_eq_some_getLast hc.1];rfl
  obtain⟨a1,_,a3,_⟩:=h.take he htk
  unfold drop
  simp only
  rw[wrong_no hne,if_pos he,hl,hc.2,wrong_no (by simp),a1]
  exact⟨he,rfl,rfl,rfl,a3,hA⟩
 ·simp at ht
theorem sim_turn(h:RR f s r F)(he:g.err=0)(hA:HA g.holds A){k1 k2:Int}(ht:(Fl.takeS k1 s).bind (Fl.putS k2)=some s'):Goes f s' g A F (Dr.put k2 (Dr.take k1 g r).1 (Dr.take k1 g r).2.1 (Dr.take k1 g r).2.2):=by
 cases h1:Fl.takeS k1 s with
 | none=>rw[h1]at ht;simp at ht
 | some u=>
  rw[h1]at ht
  simp only[Option.bind_some]at ht
  obtain⟨a1,a2,a3,a4⟩:=h.take he h1
  have hl:=h.slen
  have:=h.len
  rw[a1]
  have k:=goes_put a3 he hA a2 ht
  rw[put_top a4 (by omega)]at k
  exact k
theorem look_ok2{w k:Int}(hok:setOk w k)(A:Nat->Bool × Int):lookS A w k=(A (at_ w k),0):=by
 unfold lookS
 rw[if_pos (show isAcc w=true/\isKd k=true from hok)]
theorem look_bad{w k:Int}(h:8<=w)(A:Nat->Bool × Int):lookS A w k=((false,0),4):=by
 unfold lookS
 rw[if_neg (by unfold isAcc;simp;omega)]
theorem setOk_of{w k:Int}(h1:0<=w/\w<8)(h2:1<=k/\k<=6):setOk w k:=⟨by unfold isAcc;simpa using h1,by unfold isKd;simpa using h2⟩
theorem sim_fetch(h:RR f s r F)(he:g.err=0)(hA:HA g.holds A){who k:Int}(hw:0<=who/\who<8)(hk:1<=k/\k<=6)(ht:Fl.putS k s=some s'):
  ((amountS A who k).2≠0/\Gives g (amountS A who k).2 (account who 15 k g r))\/((amountS A who k).2=0/\Goes f s' g (setAc A who k (false,0)) (F.put (amountS A who k).1) (account who 15 k g r)):=by
 have hok:=setOk_of hw hk
 rw[hA.amount hok]
 unfold account
 simp only[if_true]
 cases hv:val who k g.holds with
 | none=>
  left
  rw[wrong_yes (find_neg.2 hv) 7 he,if_neg (by simp)]
  exact⟨by simp,rfl,rfl,rfl⟩
 | some n=>
  right
  obtain⟨i,_,hi,_,hn⟩:=find_some hv
  have hnn:¬find g.holds who k<0:=by omega
  rw[wrong_no hnn,if_pos he,hi,show((i:Int)).toNat=i from by omega,hn]
  have hF:=hA.fetch hok hv
  rw[hi]at hF
  have k:=goes_put (g:={ g with holds:=without g.holds i }) h he hF (val_num hA.num hv) ht
  exact⟨rfl,k⟩
theorem sim_has(h:RR f s r F)(he:g.err=0)(hA:HA g.holds A){who k:Int}(hk:1<=k/\k<=6)(ht:(Fl.takeS 0 s).bind (Fl.putS 0)=some s'):
  ((lookS A F.top k).2≠0/\Gives g (lookS A F.top k).2 (account who 17 k g r))\/((lookS A F.top k).2=0/\Goes f s' g A (F.pop.put (if(lookS A F.top k).1.1=true then 1 else 0)) (account who 17 k g r)):=by
 cases h1:Fl.takeS 0 s with
 | none=>rw[h1]at ht;simp at ht
 | some u=>
  rw[h1]at ht
  simp only[Option.bind_some]at ht
  obtain⟨a1,a2,a3,_⟩:=h.take he h1
  unfold account
  simp only[show ¬((17:Int)=15) from by decide,if_false,if_true]
  rw[a1]
  simp only
  by_cases h8:8<=F.top
  ·left
   rw[look_bad h8,wrong_yes h8 4 he,put_err (by simp)]
   exact⟨by simp,rfl,rfl,rfl⟩
  ·right
   have hok:=setOk_of ⟨a2.1,by omega⟩ hk
   rw[look_ok2 hok,wrong_no h8]
   refine⟨rfl,?_⟩
   have hl:=(hA.look _ _ hok).1
   have e:(if 0<=find g.holds F.top k then(1:Int) else 0)=if(A (at_ F.top k)).1=true then 1 else 0:=by
    rw[hl]
    cases hv:val F.top k g.holds with
    | none=>have:=find_neg.2 hv;rw[if_neg (by omega)];simp
    | some n=>obtain⟨i,_,hi,_⟩:=find_some hv;rw[if_pos (by omega)];simp
   rw[e]
   exact goes_put a3 he hA (by split<;>exact⟨by decide,by decide⟩) ht
theorem sim_store(h:RR f s r F)(he:g.err=0)(hA:HA g.holds A){who k:Int}(hk:1<=k/\k<=6)(ht:(Fl.takeS 0 s).bind (Fl.takeS k)=some s'):
  ((lookS A F.top k).2≠0/\Gives g (lookS A F.top k).2 (account who 16 k g r))\/((lookS A F.top k).2=0/\(lookS A F.top k).1.1=true/\Gives g 8 (account who 16 k g r))\/
  ((lookS A F.top k).2=0/\¬(lookS A F.top k).1.1=true/\Goes f s' g (setAc A F.top k (true,F.pop.top)) F.pop.pop (account who 16 k g r)):=by
 cases h1:Fl.takeS 0 s with
 | none=>rw[h1]at ht;simp at ht
 | some u=>
  rw[h1]at ht
  simp only[Option.bind_some]at ht
  obtain⟨a1,a2,a3,_⟩:=h.take he h1
  obtain⟨b1,b2,b3,_⟩:=a3.take he ht
  have hlast:(({ r with stk:=r.stk.dropLast }:Rm).stk.getLast?).map (·.1)=some k:=by
   have:=a3.kd
   rw[<-List.getLast?_map,this]
   unfold Fl.takeS at ht
   split at ht
   ·rename_i hx;exact hx
   ·simp at ht
  unfold account
  simp only[show ¬((16:Int)=15) from by decide,show ¬((16:Int)=17) from by decide,if_false,if_true]
  rw[a1]
  simp only at hlast ⊢
  by_cases h8:8<=F.top
  ·left
   have e2:∀{is:Prop} [Decidable is] (e:Int),wrong is e { g with err:=4 }={ g with err:=4 }:=fun e=>by unfold wrong;rw[if_neg (fun x=>absurd x.2 (by simp))]
   rw[look_bad h8,wrong_yes h8 4 he,e2,e2,take_err (by simp)]
   simp only
   rw[if_neg (by simp)]
   exact⟨by simp,rfl,rfl,rfl⟩
  ·right
   have hok:=setOk_of ⟨a2.1,by omega⟩ hk
   have hl:=(hA.look _ _ hok).1
   rw[look_ok2 hok,wrong_no h8,wrong_no (is:=¬Option.map (fun x=>x.1) r.stk.dropLast.getLast? = some k) (by rw[hlast];simp)]
   cases hv:val F.top k g.holds with
   | some n=>
    left
    obtain⟨i,_,hi,_⟩:=find_some hv
    rw[hv]at hl
    rw[wrong_yes (by omega:0<=find g.holds F.top k) 8 he,take_err (by simp)]
    simp only
    rw[if_neg (by simp)]
    exact⟨by simp,by simpa using hl,rfl,rfl,rfl⟩
   | none=>
    right
    rw[hv]at hl
    have:=find_neg.2 hv
    rw[wrong_no (is:=0<=find g.holds F.top k) (by omega),b1]
    simp only
    rw[if_pos he]
    exact⟨by simp,by simpa using hl,he,rfl,rfl,rfl,b3,hA.store hok hv b2⟩
end
end Dr
namespace Dr
section
variable {m:Pu.Md} {f:Pu.Fn} {s s':Fl.S} {r:Rm} {F:Fv} {g:Gg} {A:Nat->Bool × Int}
theorem sim_args(ps:List Int)(hp:ps.length<=8):∀(k:Nat),k<=ps.length->∀{s s':Fl.S} {r:Rm} {F G:Fv} {l:List (Int × Int)},RR f s r F->g.err=0->Fl.takesS (ps.take k).reverse s=some s'->
  ∃vs r',vs.length=k/\(∀v∈vs,Num v)/\args ps k g r l=((ps.take k).zip vs++l,g,r')/\RR f s' r' (Fv.args k F G).1/\(Fv.args k F G).2={ G with plc:=fun j=>if j<k then vs.getD j 0 else G.plc j }
 | 0,_,s,s',r,F,G,l,h,he,ht=>by
  simp only[List.take_zero,List.reverse_nil,Fl.takesS,Option.some.injEq]at ht
  subst ht
  exact⟨[],r,rfl,by simp,by simp[args],h,by simp[Fv.args]⟩
 | k+1,hk,s,s',r,F,G,l,h,he,ht=>by
  have ek:ps.take (k+1)=ps.take k++[ps.getD k 0]:=by
   rw[List.take_add_one,List.getElem?_eq_getElem (by omega),List.getD_eq_getElem?_getD,List.getElem?_eq_getElem (by omega)]
   rfl
  rw[ek]at ht
  simp only[List.reverse_append,List.reverse_cons,List.reverse_nil,List.nil_append,List.cons_append,Fl.takesS]at ht
  cases h1:Fl.takeS (ps.getD k 0) s with
  | none=>rw[h1]at ht;simp at ht
  | some u=>
   rw[h1]at ht
   simp only[Option.bind_some]at ht
   obtain⟨a1,a2,a3,_⟩:=h.take he h1
   obtain⟨vs,r',b1,b2,b3,b4,b5⟩:=sim_args ps hp k (by omega) (G:=G.keep k F.top) (l:=(ps.getD k 0,F.top)::l) a3 he ht
   refine⟨vs++[F.top],r',by simp[b1],fun v hv=>?_,?_,b4,?_⟩
   ·rcases List.mem_append.1 hv with hv|hv
    ·exact b2 v hv
    ·simp only[List.mem_singleton]at hv;subst hv;exact a2
   ·show args ps k (take (ps.getD k 0) g r).2.1 (take (ps.getD k 0) g r).2.2 ((ps.getD k 0,(take (ps.getD k 0) g r).1)::l)=_
    rw[a1]
    simp only
    rw[b3,ek,List.zip_append (by simp[b1];omega)]
    simp
   ·show(Fv.args k F.pop (G.keep k F.top)).2=_
    rw[b5]
    have hG:G.keep (k:Int) F.top={ G with plc:=fun j=>if j=k then F.top else G.plc j }:=by unfold Fv.keep;rw[if_neg (by omega)];rfl
    rw[hG]
    simp only[Fv.mk.injEq,true_and]
    funext j
    by_cases h2:j<k
    ·rw[if_pos h2,if_pos (by omega),List.getD_eq_getElem?_getD,List.getD_eq_getElem?_getD,List.getElem?_append_left (by omega)]
    ·rw[if_neg h2]
     by_cases h3:j=k
     ·rw[if_pos h3,if_pos (by omega),List.getD_eq_getElem?_getD,List.getElem?_append_right (by omega),h3,b1]
      simp
     ·rw[if_neg h3,if_neg (by omega)]
theorem sim_puts:∀(out:List (Int × Int)) {s s':Fl.S} {r:Rm} {F:Fv},RR f s r F->g.err=0->(∀v∈out,Num v.2)->Fl.putsS (out.map Prod.fst) s=some s'->
  ∃r',puts out g r=(g,r')/\RR f s' r' (Fv.putAll (out.map Prod.snd) F)
 | [],s,s',r,F,h,_,_,ht=>by
  simp only[List.map_nil,Fl.putsS,Option.some.injEq]at ht
  subst ht
  exact⟨r,rfl,h⟩
 | v::l,s,s',r,F,h,he,hn,ht=>by
  simp only[List.map_cons,Fl.putsS]at ht
  cases h1:Fl.putS v.1 s with
  | none=>rw[h1]at ht;simp at ht
  | some u=>
   rw[h1]at ht
   simp only[Option.bind_some]at ht
   obtain⟨a1,a2⟩:=h.put he (hn v (by simp)) h1
   obtain⟨r',b1,b2⟩:=sim_puts l a2 he (fun x hx=>hn x (by simp[hx])) ht
   refine⟨r',?_,b2⟩
   show puts l (put v.1 v.2 g r).1 (put v.1 v.2 g r).2=_
   rw[a1]
   exact b1
theorem sim_room(c:Pu.Fn)(hp:c.params.length<=8)(hpl:(Fl.places c).length<=8)(vs:List Int)(hv:vs.length=c.params.length)(hn:∀v∈vs,Num v):
  RR c (Fl.init c) (room c (c.params.zip vs)) { Fv.fresh c.code with plc:=fun j=>if j<c.params.length then vs.getD j 0 else 0 }:=by
 have hz:(c.params.zip vs).length=c.params.length:=by simp[hv]
 have hsp:(room c (c.params.zip vs)).spots=(c.params.zip vs).map (fun v=>(true,v.1,v.2))++c.locals.map (fun _=>noSpot):=rfl
 have get1:∀i,i<c.params.length->(room c (c.params.zip vs)).spots.getD i noSpot=(true,c.params.getD i 0,vs.getD i 0):=fun i hi=>by
  have i2:i<(List.map (fun v:Int × Int=>(true,v.1,v.2)) (c.params.zip vs)).length:=by rw[List.length_map,hz];exact hi
  have hiv:i<vs.length:=by omega
  rw[hsp,List.getD_eq_getElem?_getD,List.getElem?_append_left i2,List.getElem?_eq_getElem i2]
  simp[List.getD_eq_getElem?_getD,hi,hiv]
 have get2:∀i,c.params.length<=i->(room c (c.params.zip vs)).spots.getD i noSpot=noSpot:=fun i hi=>by
  rw[hsp,List.getD_eq_getElem?_getD,List.getElem?_append_right (by simp[hz];omega)]
  simp only[List.length_map,hz,List.getElem?_map]
  cases c.locals[i-c.params.length]? <;> rfl
 have fi:∀i,(Fl.init c).full.getD i false=decide (i<c.params.length):=fun i=>by
  unfold Fl.init
  simp only[List.getD_eq_getElem?_getD]
  by_cases hi:i<c.params.length
  ·rw[List.getElem?_append_left (by simpa using hi)]
   simp[hi]
  ·rw[List.getElem?_append_right (by simpa using hi)]
   simp only[List.length_replicate,List.getElem?_replicate,hi,decide_false]
   split<;>rfl
 refine⟨rfl,rfl,rfl,by rw[hsp];simp[hz,Fl.places],fun i hi=>?_,fun i hi hf=>?_,fun v hv=>by simp[room]at hv,fun v hv=>?_,by simp[Fl.init],by simp[Fl.init];omega,hpl,rfl⟩
 ·rw[fi]
  by_cases h2:i<c.params.length
  ·rw[get1 i h2];simp[h2]
  ·rw[get2 i (by omega)];simp[noSpot,h2]
 ·rw[fi]at hf
  have h2:i<c.params.length:=by simpa using hf
  rw[get1 i h2]
  simp[h2]
 ·rw[hsp]at hv
  rcases List.mem_append.1 hv with hv|hv
  ·obtain⟨x,hx,rfl⟩:=List.mem_map.1 hv
   exact hn x.2 (List.of_mem_zip hx).2
  ·obtain⟨x,_,rfl⟩:=List.mem_map.1 hv
   exact⟨by decide,by decide⟩
end
def Leads(m:Pu.Md)(who gas:Int)(V V':Vm):Prop:=∃j:Nat,V'.used=V.used+j/\∀n,Vm.go m who gas (n+j) V=Vm.go m who gas n V'
section
variable {m:Pu.Md} {who gas:Int} {V V' V'':Vm}
theorem Leads.refl:Leads m who gas V V:=⟨0,by simp,fun _=>rfl⟩
theorem Leads.trans(h:Leads m who gas V V')(k:Leads m who gas V' V''):Leads m who gas V V'':=by
 obtain⟨i,h1,h2⟩:=h
 obtain⟨j,k1,k2⟩:=k
 exact⟨j+i,by omega,fun n=>by rw[<-Nat.add_assoc,h2,k2]⟩
theorem Leads.one(ho:V.over=false)(hu:V.used<gas)(hs:Vm.step m who V.tick=V')(hv:V'.used=V.used+1):Leads m who gas V V':=by
 refine⟨1,by omega,fun n=>?_⟩
 show(if V.over=true\/¬V.used<gas then V else Vm.go m who gas n (V.tick.step m who))=_
 rw[if_neg (by rw[ho];simp;exact hu),hs]
end
theorem go_err{m:Pu.Md}{who gas:Int}{f:Pu.Fn}{a:Int}{g:Gg}{r:Rm}(h:g.err≠0):∀n,go m who gas n f a g r=([],g)
 | 0=>rfl
 | n+1=>by unfold go;rw[if_pos h]
def Ends(f:Pu.Fn)(rest:List Fv)(gas:Int)(p:List (Int × Int) × Gg)(V:Vm):Prop:=
 (p.2.err=0/\p.2.code=0/\p.2.used=V.used/\p.2.depth=rest.length/\p.1.map Prod.fst=f.results/\(∀v∈p.1,Num v.2)/\HA p.2.holds V.acc/\V.err=0/\V.code=0/\(rest=[]->V.over=true)/\(∀G gs,rest=G::gs->V.over=false/\V.fs=Fv.putAll (p.1.map Prod.snd) G::gs))\/
 (p.1=[]/\p.2.err≠0/\p.2.used=V.used/\V.over=true/\V.err=p.2.err/\V.code=p.2.code)\/
 (p.1=[]/\p.2.err=5/\p.2.code=0/\p.2.used=V.used/\V.over=false/\V.used=gas/\V.err=0/\V.code=0)
end Dr
end Go.Proofs.YtjamgmbdilkbcaaGreat
