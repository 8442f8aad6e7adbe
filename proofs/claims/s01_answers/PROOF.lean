import PyProof.Rows.All
import Wide.All
import OpenK.AllK
import Wide.FinOn
import PyProof.EqAt
import PyProof.EqKinds
import PyProof.TupleCall
import KE.BitLaws
import Open.SpecLaws
import KE.OsHead
import KE.OsGo
import PySem.Challenge.RW_drawntogether_s01_answers
set_option Elab.async false
set_option linter.all false
set_option maxRecDepth 100000
set_option maxHeartbeats 2000000
open Array renaming length_toList->oN,toList->Dk,getElem?_toList->Ds,toList_append->Mf
open Bool renaming and_eq_true->ag,eq_iff_iff->ck,eq_false_iff->dI,false_ne_true->dQ,true_and->gz,noConfusion->hW,or_false->kD,false_and->lu,not_not->mE,or_true->oU,and_eq_true_iff->xQ,and_false->xb,or_eq_true->xf,not_eq_true->D5,false_eq_true->D6
open Classical renaming byContradiction->xO,propDecidable->Dz
open False renaming elim->fH
open Int renaming ofNat->jD,emod_eq_of_lt->Mn
open List renaming length_map->aL,length_append->aS,length_cons->aV,getElem?_eq_some_iff->bC,range->bJ,map_append->bO,getElem?_eq_getElem->bU,mem_cons_self->bY,mem_cons_of_mem->ba,mem_cons->bc,map_cons->bg,getElem?_map->bo,size_toArray->br,all_cons->bx,all_eq_true->cJ,length_take->cM,length_set->cP,take_length->cQ,length_range->cS,mem_map->cT,mem_of_getElem?->cv,mem_append->dD,append_nil->d8,getD_eq_getElem?_getD->d9,append_assoc->dh,length_drop->di,lookup_cons->dt,reverse_cons->eU,mem_range->fN,flatMap_append->ff,drop_eq_getElem_cons->fg,mem_flatMap->fh,length_reverse->fm,mem_singleton->gO,replicate->gy,getElem?_eq_none->iW,any_cons->iY,all_append->jA,map_map->jB,nodup_cons->jS,mem_eraseDups->jT,length_nil->jU,length_pos_iff->jx,getElem?_range->jy,filter_cons->jz,mem_filter->kf,flatMap_cons->kh,sum_cons->ki,range'->kl,mem_append_right->kn,lookup->ko,getElem?_set->l8,drop_zero->l9,takeWhile_cons->ll,take_append_drop->ly,getElem?_set_ne->lz,drop_eq_nil_of_le->mD,length_filter_le->oC,length_eq_zero_iff->oE,find?_cons->oF,take_zero->oG,mem_of_mem_drop->oH,cons_append->oI,take_succ_cons->oJ,map_congr_left->oK,filterMap_cons->oM,of_mem_zip->oO,getElem?_append_right->oP,getElem?_append_left->oQ,length_replicate->oR,all_map->oS,nodup_nil->rN,getElem_of_mem->rO,filter_append->rQ,length->rR,drop_drop->rS,nodup_append->rT,ext_getElem?->rV,getElem?_set_self->rW,mem_filterMap->rX,length_singleton->rZ,take_of_length_le->ra,length_zip->rb,drop_succ_cons->xR,dropWhile_cons->xS,zip_append->xT,length_range'->xU,drop_length->xk,filterMap_append->xo,eraseDups_cons->DZ,mem_erase_of_ne->D0,length_erase_of_mem->D3,length_pos_of_mem->D4,perm_middle->D7,dropWhile_sublist->Dg,mem_of_find?_eq_some->Dh,map_nil->Du,countP_cons->EA,map_take->EC,replicate_succ'->ED,map_replicate->EE,map_set->EF,sum_append->EG,count->EI,count_cons->EJ,count_append->EK,filter_cons_of_neg->EL,filter_cons_of_pos->EM,getElem_mem->Lq,idxOf_lt_length_iff->Lr,getElem_idxOf->Ls,find?_append->Lu,foldl_append->Lw,reverse_append->Lz,getElem?_drop->MA,reverse_reverse->MB,find?_eq_none->MC,range'_succ->MD,zip_cons_cons->ME,getElem?_cons_succ->MI,range_succ_eq_map->MJ,mem_append_left->MM,getElem?_replicate->MV,dropLast_concat_getLast->M7,flatMap_nil->M9,map_filterMap->Ma,length_filterMap_le->Mb,getElem?_zip_eq_some->Mh
open List.Perm renaming refl->D8
open Nat renaming le_refl->aY,zero_le->bF,le_trans->bW,lt_of_lt_of_le->fF,ne_of_lt->fG,min_eq_left->jC,lt_irrefl->jV,le_of_lt->kg,sub_self->kj,mul_le_mul->kq,le_add_right->oT,le_zero->rM,sub_zero->xV,le_of_eq->xY,lt_succ_self->xZ,le_of_succ_le->xc,ne_of_gt->Dl,lt_succ_of_lt->Dx
open Option renaming bind_some->jw,none->xh,bind_assoc->DX,bind_map->DY,map->De,map_eq_some_iff->Dv,getD_none->MZ
open Option.some renaming inj->bL
open Or renaming inl->aJ,inr->gQ
open PyProof.Rows renaming callWith_type1->mC,slot_tuple_getitem->x9,boot_str->Mc,boot_ord->Md
open PySem renaming boot_len->bM,mem_of_lookup->fj,Within->Di
open PySem.F renaming plainAttrs_list->bR,slot_list_append->cw,type_list_append->cy,slot_list_pop->iZ,type_list_pop->i0,slot_list_extend->xm,type_list_extend->xn,slot_list_count->EB,slot_tuple_add->MW,entry_tuple_add->MX,args_tuple_add_2->MY,type_list_count->Mj,slot_dict_get->Mm
open PySem.Str renaming cps_append->Me
open PySem.W renaming Frag->aD,mg_of->cz,keepIn->hJ,fnOf->hU,findIn->iX,emptyDict->kC,instObj->km,codeIn->mB,nsIn->mH,isFn->rY,lookIn->xW,plainGet->xX,callWith_K->x8,methodObj->Dj,hasDictIn->Dm,plainGet_of->Dn,takerIn->Do,makesIn->Dq,callWith_K0->Dr,handedIn->MN,plainOver->MO,methodCall_KW->MQ,cellsFrom_some->MU,WRecords->M4,length_le_weightAllW->M5,WalkOS->M6
open PyVanetc renaming shape->dr,whole->D9,answers_asked->Da,answers->Dd
open UInt8 renaming ofNat->lg,toNat_inj->Dy,le_iff_toNat_le->M8
open Vaneta renaming dual->lp,inBounds->oV,atoms->oW
open Vanetc renaming does->cB,step->eI,Call->fE,one->mF,doSet->mG,start->oX,doShut->oY,doBare->oZ,doTurn->o5,State->rP,good->rg,placed->rh,Out->rj,linked->EH,toldGraph->EN,given->EO,trimmed->ER,after->ES,allLeaves->Mg,pointsFrom->Mi,numberOf->Ml,doSwitch->Mo
open VanetcNeutral renaming step->gL,start->gM,natural->xP,asked1->Dc,text?->Df,callOf->Lx,encode->Ly
namespace MP
open Vaneta
inductive U where
 |tilde|left|tensor|par|arrow
deriving DecidableEq
structure St where
 un:List U
 fi:List Formula
 want:Bool
def endPart:List U->List Formula->List U×List Formula
 |.tilde::u,A::f=>endPart u (dual A::f)
 |u,f=>(u,f)
def joined(s:U)(A B:Formula):Formula:=match s with
 |.arrow=>.par (dual A) B
 |.tensor=>.tensor A B
 |_=>.par A B
def endChain:List U->List Formula->List U×List Formula
 |.tensor::u,B::A::f=>endChain u (.tensor A B::f)
 |.par::u,B::A::f=>endChain u (.par A B::f)
 |u,f=>(u,f)
def endForm:List U->List Formula->List U×List Formula
 |.tensor::u,B::A::f=>endForm u (.tensor A B::f)
 |.par::u,B::A::f=>endForm u (.par A B::f)
 |.arrow::u,B::A::f=>endForm u (.par (dual A) B::f)
 |u,f=>(u,f)
def takeIn(s:St):Token->Option St
 |.name a=>some ⟨(endPart s.un (.atom false a::s.fi)).1,(endPart s.un (.atom false a::s.fi)).2,false⟩
 |.sign c=>if c=126 then some ⟨.tilde::s.un,s.fi,true⟩ else if c=40 then some ⟨.left::s.un,s.fi,true⟩ else none
 |.arrow=>none
def fO:List U->Option UInt8
 |.tensor::_=>some 42
 |.par::_=>some 124
 |_=>none
def dJ(c:UInt8):U:=if c=42 then .tensor else .par
def fP(s:St)(c:UInt8):Option St:=
 if fO s.un=none\/fO s.un=some c then some ⟨dJ c::s.un,s.fi,true⟩ else none
def jW(s:St):Option St:=match endForm s.un s.fi with
 |(.left::u,f)=>some ⟨(endPart u f).1,(endPart u f).2,false⟩
 |_=>none
def fo(s:St):Token->Option St
 |.name _=>none
 |.sign c=>if c=42\/c=124 then fP s c else if c=41 then jW s else none
 |.arrow=>some ⟨.arrow::(endChain s.un s.fi).1,(endChain s.un s.fi).2,true⟩
def lid(s:St):Option St:=if s.un.length<=100 then some s else none
def take(s:St)(t:Token):Option St:=(if s.want=true then takeIn s t else fo s t).bind lid
def outcome(s:St):Option Formula:=if s.want=true then none else match endForm s.un s.fi with
 |([],A::_)=>some A
 |_=>none
def run:St->List Token->Option Formula
 |s,[]=>outcome s
 |s,t::r=>(take s t).bind fun s'=>run s' r
def dR:Token->Bool
 |.sign c=>c==126||(c==42||(c==124||(c==40||c==41)))
 |_=>true
def endsF:List Token->Bool
 |[]=>true
 |.sign c::_=>c==41
 |_=>false
def o6:List Token->Bool
 |.arrow::_=>true
 |r=>endsF r
def i5:Nat->List U->List Formula->List Token->Option Formula
 |0,u,f,r=>if endsF r=true then run ⟨u,f,false⟩ r else none
 |1,u,f,r=>if o6 r=true then run ⟨u,f,false⟩ r else none
 |_,u,f,r=>run ⟨(endPart u f).1,(endPart u f).2,false⟩ r
def Pre:Nat->UInt8->List U->Prop
 |0,s,u=>s=0/\fO u=none/\u.head?≠some .tilde
 |1,s,u=>(s=0/\fO u=none/\u.head?≠some .tilde)\/((s=42\/s=124)/\fO u=some s/\u.head?≠some .tilde)
 |_,s,_=>s=0
theorem rm(k s d ts):level 0 k s d ts=none:=rfl
theorem o7(f s d ts):level (f+1) 0 s d ts=(level f 1 0 d ts).bind fun x=>match x.2 with
   |.arrow::r=>if d<OPEN then(level f 0 0 (d+1) r).map fun y=>(.par (dual x.1) y.1,y.2) else none
   |_=>some x:=rfl
theorem o8(f s d ts):level (f+1) 1 s d ts=(level f 2 0 d ts).bind fun x=>match x.2 with
   |.sign c::r=>if isTwo c=true/\(s=0\/s=c) then(if d<OPEN then(level f 1 c (d+1) r).map fun y=>(two c x.1 y.1,y.2) else none) else some x
   |_=>some x:=rfl
theorem o9(f s d ts):level (f+1) 2 s d ts=match ts with
   |.name a::r=>some (.atom false a,r)
   |.sign c::r=>
    if d<OPEN then
     (if c=126 then(level f 2 0 (d+1) r).map fun y=>(dual y.1,y.2)
     else if c=33 then(level f 2 0 (d+1) r).map fun y=>(.ofc y.1,y.2)
     else if c=63 then(level f 2 0 (d+1) r).map fun y=>(.whn y.1,y.2)
     else if c=40 then(level f 0 0 (d+1) r).bind fun y=>(match y.2 with
      |.sign 41::s=>some (y.1,s)
      |_=>none)
     else none)
    else none
   |_=>none:=rfl
theorem oa:∀(f k s d ts) (A:Formula) (r:List Token),k<=2->level f k s d ts=some (A,r)->∃pre,pre≠[]/\ts=pre++r:=by
 intro f
 induction f with
 |zero=>intro k s d ts A r _ h;rw[rm] at h;cases h
 |succ f ih=>
  intro k s d ts A r hk h
  match k,hk with
  |0,_=>
   rw[o7] at h
   cases e:level f 1 0 d ts with
   |none=>rw[e] at h;cases h
   |some x=>
    rw[e] at h
    obtain⟨x1,x2⟩:=x
    obtain⟨pre,hp,rfl⟩:=ih 1 0 d ts x1 x2 (by omega) e
    dsimp only[jw] at h
    split at h
    ·rename_i r'
     split at h
     ·cases e2:level f 0 0 (d+1) r' with
      |none=>rw[e2] at h;cases h
      |some y=>
       rw[e2] at h
       obtain⟨y1,y2⟩:=y
       obtain⟨pre2,hp2,rfl⟩:=ih 0 0 (d+1) r' y1 y2 (by omega) e2
       cases h
       exact⟨pre++ .arrow::pre2,by simp,by simp⟩
     ·cases h
    ·cases h;exact⟨pre,hp,rfl⟩
  |1,_=>
   rw[o8] at h
   cases e:level f 2 0 d ts with
   |none=>rw[e] at h;cases h
   |some x=>
    rw[e] at h
    obtain⟨x1,x2⟩:=x
    obtain⟨pre,hp,rfl⟩:=ih 2 0 d ts x1 x2 (by omega) e
    dsimp only[jw] at h
    split at h
    ·rename_i c r'
     split at h
     ·split at h
      ·cases e2:level f 1 c (d+1) r' with
       |none=>rw[e2] at h;cases h
       |some y=>
        rw[e2] at h
        obtain⟨y1,y2⟩:=y
        obtain⟨pre2,hp2,rfl⟩:=ih 1 c (d+1) r' y1 y2 (by omega) e2
        cases h
        exact⟨pre++ .sign c::pre2,by simp,by simp⟩
      ·cases h
     ·cases h;exact⟨pre,hp,rfl⟩
    ·cases h;exact⟨pre,hp,rfl⟩
  |2,_=>
   rw[o9] at h
   split at h
   ·cases h;rename_i a;exact⟨[.name a],by simp,rfl⟩
   ·rename_i c r'
    split at h
    ·split at h
     ·cases e2:level f 2 0 (d+1) r' with
      |none=>rw[e2] at h;cases h
      |some y=>
       rw[e2] at h
       obtain⟨y1,y2⟩:=y
       obtain⟨pre2,hp2,rfl⟩:=ih 2 0 (d+1) r' y1 y2 (by omega) e2
       cases h
       exact⟨.sign c::pre2,by simp,rfl⟩
     ·split at h
      ·cases e2:level f 2 0 (d+1) r' with
       |none=>rw[e2] at h;cases h
       |some y=>
        rw[e2] at h
        obtain⟨y1,y2⟩:=y
        obtain⟨pre2,hp2,rfl⟩:=ih 2 0 (d+1) r' y1 y2 (by omega) e2
        cases h
        exact⟨.sign c::pre2,by simp,rfl⟩
      ·split at h
       ·cases e2:level f 2 0 (d+1) r' with
        |none=>rw[e2] at h;cases h
        |some y=>
         rw[e2] at h
         obtain⟨y1,y2⟩:=y
         obtain⟨pre2,hp2,rfl⟩:=ih 2 0 (d+1) r' y1 y2 (by omega) e2
         cases h
         exact⟨.sign c::pre2,by simp,rfl⟩
       ·split at h
        ·cases e2:level f 0 0 (d+1) r' with
         |none=>rw[e2] at h;cases h
         |some y=>
          rw[e2] at h
          obtain⟨y1,y2⟩:=y
          obtain⟨pre2,hp2,rfl⟩:=ih 0 0 (d+1) r' y1 y2 (by omega) e2
          dsimp only[jw] at h
          split at h
          ·rename_i s'
           cases h
           exact⟨.sign c::(pre2++[.sign 41]),by simp,by simp⟩
          ·cases h
        ·cases h
    ·cases h
   ·cases h
theorem rp:∀(u:List U) (f:List Formula),(endPart u f).1.length<=u.length
 |[],f=>by cases f<;>exact aY _
 |.tilde::u,[]=>aY _
 |.tilde::u,A::f=>Nat.le_succ_of_le (rp u (dual A::f))
 |.left::u,f=>by cases f<;>exact aY _
 |.tensor::u,f=>by cases f<;>exact aY _
 |.par::u,f=>by cases f<;>exact aY _
 |.arrow::u,f=>by cases f<;>exact aY _
theorem kE{u:List U}{f:List Formula}(h:u.head?≠some .tilde):endPart u f=(u,f):=by
 match u,h with
 |[],_=>cases f<;>rfl
 |.tilde::u,h=>exact absurd rfl h
 |.left::u,_=>cases f<;>rfl
 |.tensor::u,_=>cases f<;>rfl
 |.par::u,_=>cases f<;>rfl
 |.arrow::u,_=>cases f<;>rfl
theorem ET{u:List U}{f:List Formula}(h:fO u=none):endChain u f=(u,f):=by
 match u,h with
 |[],_=>rfl
 |.tilde::u,_=>rfl
 |.left::u,_=>rfl
 |.arrow::u,_=>rfl
theorem kr{s:St}(h:s.un.length<=100):lid s=some s:=if_pos h
theorem oe{s:St}(h:¬s.un.length<=100):lid s=none:=if_neg h
theorem EU{c:UInt8}(hc:c=42\/c=124)(u:List U)(A B:Formula)(F:List Formula){r:List Token}(h:o6 r=true):
  run ⟨dJ c::u,B::A::F,false⟩ r=run ⟨u,two c A B::F,false⟩ r:=by
 match r,h with
 |[],_=>rcases hc with rfl|rfl<;>rfl
 |.arrow::r,_=>rcases hc with rfl|rfl<;>rfl
 |.sign d::r,h=>
  have e:d=41:=eq_of_beq h
  subst e
  rcases hc with rfl|rfl<;>rfl
 |.name a::r,h=>cases h
theorem EV(u:List U)(A B:Formula)(F:List Formula){r:List Token}(h:endsF r=true):
  run ⟨.arrow::u,B::A::F,false⟩ r=run ⟨u,.par (dual A) B::F,false⟩ r:=by
 match r,h with
 |[],_=>rfl
 |.arrow::r,h=>cases h
 |.sign d::r,h=>
  have e:d=41:=eq_of_beq h
  subst e
  rfl
 |.name a::r,h=>cases h
theorem EW{c:UInt8}(hc:c=42\/c=124)(u:List U)(A B:Formula)(F:List Formula)(r:List Token):
  i5 1 (dJ c::u) (B::A::F) r=i5 1 u (two c A B::F) r:=by
 show(if o6 r=true then _ else _)=(if o6 r=true then _ else _)
 split
 ·rename_i h;exact EU hc u A B F h
 ·rfl
theorem EX(u:List U)(A B:Formula)(F:List Formula)(r:List Token):
  i5 0 (.arrow::u) (B::A::F) r=i5 0 u (.par (dual A) B::F) r:=by
 show(if endsF r=true then _ else _)=(if endsF r=true then _ else _)
 split
 ·rename_i h;exact EV u A B F h
 ·rfl
theorem og{c:UInt8}(h:dR (.sign c)=true):c=126\/c=42\/c=124\/c=40\/c=41:=by
 simpa [dR] using h
theorem mI{α β:Type}{o:Option α}{f g:α->Option β}(h:∀a,o=some a->f a=g a):o.bind f=o.bind g:=by
 cases o with
 |none=>rfl
 |some a=>exact h a rfl
theorem sC(s:St)(t:Token)(r:List Token):run s (t::r)=(take s t).bind fun s'=>run s' r:=rfl
theorem EY:∀(f k:Nat) (s:UInt8) (u:List U) (F:List Formula) (ts:List Token),k<=2->ts.all dR=true->4*ts.length+(3-k)<=f->u.length<=100->Pre k s u->
  run ⟨u,F,true⟩ ts=(level f k s u.length ts).bind fun x=>i5 k u (x.1::F) x.2:=by
 intro f
 induction f with
 |zero=>intro k s u F ts hk _ hf;omega
 |succ f ih=>
  intro k s u F ts hk hok hf hu hp
  match k,hk,hp with
  |0,_,hp=>
   obtain⟨rfl,hc,ht⟩:=hp
   rw[o7,ih 1 0 u F ts (by omega) hok (by omega) hu (.inl ⟨rfl,hc,ht⟩),DX]
   refine mI fun x hx=>?_
   obtain⟨A,r⟩:=x
   obtain⟨pre,hpn,hpr⟩:=oa _ _ _ _ _ _ _ (by omega) hx
   have hlen:ts.length=pre.length+r.length:=by rw[hpr,aS]
   have hpl:0<pre.length:=jx.mpr hpn
   have hokr:r.all dR=true:=by rw[hpr,jA,ag] at hok;exact hok.2
   match r,hlen,hokr with
   |.arrow::r',hlen,hokr=>
    dsimp only
    rw[aV] at hlen
    have e1:i5 1 u (A::F) (.arrow::r')=(lid ⟨.arrow::u,A::F,true⟩).bind fun s'=>run s' r':=by
     show(((fo ⟨u,A::F,false⟩ .arrow).bind lid).bind fun s'=>run s' r')=_
     show((some (⟨.arrow::(endChain u (A::F)).1,(endChain u (A::F)).2,true⟩:St)).bind lid).bind _=_
     rw[ET hc]
     rfl
    rw[e1]
    by_cases hd:u.length<OPEN
    ·rw[if_pos hd,kr (show(U.arrow::u).length<=100 from hd)]
     show run ⟨.arrow::u,A::F,true⟩ r'=_
     rw[ih 0 0 (.arrow::u) (A::F) r' (by omega) (by rw[bx,ag] at hokr;exact hokr.2) (by omega) hd ⟨rfl,rfl,by simp⟩]
     rw[DY]
     refine mI fun y hy=>?_
     exact EX u A y.1 F y.2
    ·rw[if_neg hd,oe (show¬(U.arrow::u).length<=100 from hd)]
     rfl
   |[],_,_=>rfl
   |.sign c::r',_,_=>rfl
   |.name a::r',_,_=>rfl
  |1,_,hp=>
   have ht:u.head?≠some .tilde:=by rcases hp with h|h<;>exact h.2.2
   rw[o8,ih 2 0 u F ts (by omega) hok (by omega) hu rfl,DX]
   refine mI fun x hx=>?_
   obtain⟨A,r⟩:=x
   obtain⟨pre,hpn,hpr⟩:=oa _ _ _ _ _ _ _ (by omega) hx
   have hlen:ts.length=pre.length+r.length:=by rw[hpr,aS]
   have hpl:0<pre.length:=jx.mpr hpn
   have hokr:r.all dR=true:=by rw[hpr,jA,ag] at hok;exact hok.2
   have e0:i5 2 u (A::F) r=run ⟨u,A::F,false⟩ r:=by
    show run ⟨(endPart u (A::F)).1,(endPart u (A::F)).2,false⟩ r=_
    rw[kE ht]
   rw[e0]
   match r,hlen,hokr with
   |.arrow::r',hlen,hokr=>rfl
   |[],_,_=>rfl
   |.name a::r',_,_=>rfl
   |.sign c::r',hlen,hokr=>
    dsimp only
    rw[aV] at hlen
    rw[bx,ag] at hokr
    by_cases hc:isTwo c=true/\(s=0\/s=c)
    ·rw[if_pos hc]
     have hc2:c=42\/c=124:=by
      rcases og hokr.1 with rfl|rfl|rfl|rfl|rfl
      ·exact absurd hc.1 (by decide)
      ·exact .inl rfl
      ·exact .inr rfl
      ·exact absurd hc.1 (by decide)
      ·exact absurd hc.1 (by decide)
     have hct:fO u=none\/fO u=some c:=by
      rcases hp with⟨_,h,_⟩|⟨h0,h,_⟩
      ·exact .inl h
      ·rcases hc.2 with q|q
       ·rcases h0 with h0|h0<;>(rw[h0] at q;exact absurd q (by decide))
       ·rw[q] at h;exact .inr h
     have e1:run ⟨u,A::F,false⟩ (.sign c::r')=(lid ⟨dJ c::u,A::F,true⟩).bind fun s'=>run s' r':=by
      show((fo ⟨u,A::F,false⟩ (.sign c)).bind lid).bind _=_
      have e2:fo ⟨u,A::F,false⟩ (.sign c)=some ⟨dJ c::u,A::F,true⟩:=by
       show(if c=42\/c=124 then fP _ c else _)=_
       rw[if_pos hc2]
       exact if_pos hct
      rw[e2]
      rfl
     rw[e1]
     by_cases hd:u.length<OPEN
     ·rw[if_pos hd,kr (show(dJ c::u).length<=100 from hd)]
      show run ⟨dJ c::u,A::F,true⟩ r'=_
      rw[ih 1 c (dJ c::u) (A::F) r' (by omega) hokr.2 (by omega) hd (.inr ⟨hc2,by rcases hc2 with rfl|rfl<;>rfl,by rcases hc2 with rfl|rfl<;>simp[dJ]⟩)]
      rw[DY]
      refine mI fun y hy=>?_
      exact EW hc2 u A y.1 F y.2
     ·rw[if_neg hd,oe (show¬(dJ c::u).length<=100 from hd)]
      rfl
    ·rw[if_neg hc]
     show _=i5 1 u (A::F) (.sign c::r')
     rcases og hokr.1 with rfl|rfl|rfl|rfl|rfl
     ·rfl
     ·have q:¬(s=0\/s=42):=fun q=>hc ⟨by decide,q⟩
      have e2:fo ⟨u,A::F,false⟩ (.sign 42)=none:=by
       refine if_neg ?_
       rcases hp with⟨h,_,_⟩|⟨h0,h,_⟩
       ·exact absurd (.inl h) q
       ·show¬(fO u=none\/fO u=some 42)
        rw[h]
        rintro(z|z)
        ·cases z
        ·exact q (.inr (bL z))
      rw[sC]
      show((fo ⟨u,A::F,false⟩ (.sign 42)).bind lid).bind _=none
      rw[e2]
      rfl
     ·have q:¬(s=0\/s=124):=fun q=>hc ⟨by decide,q⟩
      have e2:fo ⟨u,A::F,false⟩ (.sign 124)=none:=by
       refine if_neg ?_
       rcases hp with⟨h,_,_⟩|⟨h0,h,_⟩
       ·exact absurd (.inl h) q
       ·show¬(fO u=none\/fO u=some 124)
        rw[h]
        rintro(z|z)
        ·cases z
        ·exact q (.inr (bL z))
      rw[sC]
      show((fo ⟨u,A::F,false⟩ (.sign 124)).bind lid).bind _=none
      rw[e2]
      rfl
     ·rfl
     ·rfl
  |2,_,hp=>
   rw[o9]
   match ts,hok,hf with
   |[],_,_=>rfl
   |.arrow::r,_,_=>rfl
   |.name a::r,_,_=>
    show((lid ⟨(endPart u (.atom false a::F)).1,(endPart u (.atom false a::F)).2,false⟩).bind fun s'=>run s' r)=_
    rw[kr (bW (rp _ _) hu)]
    rfl
   |.sign c::r,hok,hf=>
    dsimp only
    rw[bx,ag] at hok
    rw[aV] at hf
    rcases og hok.1 with rfl|rfl|rfl|rfl|rfl
    ·show((lid ⟨.tilde::u,F,true⟩).bind fun s'=>run s' r)=_
     by_cases hd:u.length<OPEN
     ·rw[if_pos hd,if_pos rfl,kr (show(U.tilde::u).length<=100 from hd)]
      show run ⟨.tilde::u,F,true⟩ r=_
      rw[ih 2 0 (.tilde::u) F r (by omega) hok.2 (by omega) hd rfl,DY]
      rfl
     ·rw[if_neg hd,oe (show¬(U.tilde::u).length<=100 from hd)]
      rfl
    ·show none=_
     split<;>rfl
    ·show none=_
     split<;>rfl
    ·show((lid ⟨.left::u,F,true⟩).bind fun s'=>run s' r)=_
     by_cases hd:u.length<OPEN
     ·rw[if_pos hd,if_neg (by decide),if_neg (by decide),if_neg (by decide),if_pos rfl,kr (show(U.left::u).length<=100 from hd)]
      show run ⟨.left::u,F,true⟩ r=_
      rw[ih 0 0 (.left::u) F r (by omega) hok.2 (by omega) hd ⟨rfl,rfl,by simp⟩,DX]
      refine mI fun y hy=>?_
      obtain⟨A,r'⟩:=y
      show i5 0 (.left::u) (A::F) r'=_
      match r' with
      |[]=>rfl
      |.arrow::r'=>rfl
      |.name a::r'=>rfl
      |.sign c::r'=>
       by_cases hc:c=41
       ·subst hc
        show((lid ⟨(endPart u (A::F)).1,(endPart u (A::F)).2,false⟩).bind fun s'=>run s' r')=_
        rw[kr (bW (rp _ _) hu)]
        rfl
       ·have e1:i5 0 (.left::u) (A::F) (.sign c::r')=none:=if_neg (by
         show¬(c==41)=true
         simpa using hc)
        rw[e1]
        dsimp only
        split
        ·rename_i h
         injection h with h1 _
         injection h1 with h1
         exact absurd h1 hc
        ·rfl
     ·rw[if_neg hd,oe (show¬(U.left::u).length<=100 from hd)]
      rfl
    ·show none=_
     split<;>rfl
theorem xp(ts:List Token)(h:ts.all dR=true):run ⟨[],[],true⟩ ts=formulaIn ts:=by
 rw[EY (4*(ts.length+1)) 0 0 [] [] ts (by omega) h (by omega) (by decide) ⟨rfl,rfl,by simp⟩]
 unfold formulaIn
 show(level (4*(ts.length+1)) 0 0 0 ts).bind _=_
 cases e:level (4*(ts.length+1)) 0 0 0 ts with
 |none=>rfl
 |some x=>
  obtain⟨A,r⟩:=x
  match r with
  |[]=>rfl
  |.arrow::r=>rfl
  |.name a::r=>rfl
  |.sign c::r=>
   show(if endsF (.sign c::r)=true then run ⟨[],[A],false⟩ (.sign c::r) else none)=none
   split
   ·rename_i h
    have e:c=41:=eq_of_beq h
    subst e
    rfl
   ·rfl
theorem ks:∀A:Formula,multiplicative (dual A)=multiplicative A
 |.atom _ _=>rfl
 |.tensor A B=>by show(multiplicative (dual A)&&multiplicative (dual B))=_;rw[ks A,ks B];rfl
 |.par A B=>by show(multiplicative (dual A)&&multiplicative (dual B))=_;rw[ks A,ks B];rfl
 |.wth A B=>rfl
 |.plus A B=>rfl
 |.ofc A=>rfl
 |.whn A=>rfl
theorem EZ{c:UInt8}{A B:Formula}(hc:isTwo c=true)(h:multiplicative (two c A B)=true):(c=42\/c=124)/\multiplicative A=true/\multiplicative B=true:=by
 have hc':c=42\/c=124\/c=38\/c=43:=by simpa [isTwo] using hc
 rcases hc' with rfl|rfl|rfl|rfl
 ·have h':(multiplicative A&&multiplicative B)=true:=h
  rw[ag] at h'
  exact⟨.inl rfl,h'⟩
 ·have h':(multiplicative A&&multiplicative B)=true:=h
  rw[ag] at h'
  exact⟨.inr rfl,h'⟩
 ·cases(show false=true from h)
 ·cases(show false=true from h)
theorem E1:∀(f k s d ts) (A:Formula) (r:List Token),k<=2->level f k s d ts=some (A,r)->multiplicative A=true->∃pre,ts=pre++r/\pre.all dR=true:=by
 intro f
 induction f with
 |zero=>intro k s d ts A r _ h;rw[rm] at h;cases h
 |succ f ih=>
  intro k s d ts A r hk h hA
  match k,hk with
  |0,_=>
   rw[o7] at h
   cases e:level f 1 0 d ts with
   |none=>rw[e] at h;cases h
   |some x=>
    rw[e] at h
    obtain⟨x1,x2⟩:=x
    dsimp only[jw] at h
    split at h
    ·rename_i r'
     split at h
     ·cases e2:level f 0 0 (d+1) r' with
      |none=>rw[e2] at h;cases h
      |some y=>
       rw[e2] at h
       obtain⟨y1,y2⟩:=y
       cases h
       have q:(multiplicative (dual x1)&&multiplicative y1)=true:=hA
       rw[ag,ks] at q
       obtain⟨pre,rfl,hp⟩:=ih 1 0 d ts x1 _ (by omega) e q.1
       obtain⟨pre2,rfl,hp2⟩:=ih 0 0 (d+1) r' y1 _ (by omega) e2 q.2
       exact⟨pre++ .arrow::pre2,by simp,by rw[jA,bx,hp,hp2];rfl⟩
     ·cases h
    ·cases h
     exact ih 1 0 d ts _ _ (by omega) e hA
  |1,_=>
   rw[o8] at h
   cases e:level f 2 0 d ts with
   |none=>rw[e] at h;cases h
   |some x=>
    rw[e] at h
    obtain⟨x1,x2⟩:=x
    dsimp only[jw] at h
    split at h
    ·rename_i c r'
     split at h
     ·rename_i hc
      split at h
      ·cases e2:level f 1 c (d+1) r' with
       |none=>rw[e2] at h;cases h
       |some y=>
        rw[e2] at h
        obtain⟨y1,y2⟩:=y
        cases h
        obtain⟨q0,q1,q2⟩:=EZ hc.1 hA
        obtain⟨pre,rfl,hp⟩:=ih 2 0 d ts x1 _ (by omega) e q1
        obtain⟨pre2,rfl,hp2⟩:=ih 1 c (d+1) r' y1 _ (by omega) e2 q2
        exact⟨pre++ .sign c::pre2,by simp,by rw[jA,bx,hp,hp2];rcases q0 with rfl|rfl<;>rfl⟩
      ·cases h
     ·cases h;exact ih 2 0 d ts _ _ (by omega) e hA
    ·cases h;exact ih 2 0 d ts _ _ (by omega) e hA
  |2,_=>
   rw[o9] at h
   split at h
   ·cases h;rename_i a;exact⟨[.name a],rfl,rfl⟩
   ·rename_i c r'
    split at h
    ·split at h
     ·rename_i hc
      cases e2:level f 2 0 (d+1) r' with
      |none=>rw[e2] at h;cases h
      |some y=>
       rw[e2] at h
       obtain⟨y1,y2⟩:=y
       cases h
       have q:multiplicative (dual y1)=true:=hA
       rw[ks] at q
       obtain⟨pre2,rfl,hp2⟩:=ih 2 0 (d+1) r' y1 _ (by omega) e2 q
       exact⟨.sign c::pre2,rfl,by rw[bx,hp2,hc];rfl⟩
     ·split at h
      ·cases e2:level f 2 0 (d+1) r' with
       |none=>rw[e2] at h;cases h
       |some y=>
        rw[e2] at h
        cases h
        cases(show false=true from hA)
      ·split at h
       ·cases e2:level f 2 0 (d+1) r' with
        |none=>rw[e2] at h;cases h
        |some y=>
         rw[e2] at h
         cases h
         cases(show false=true from hA)
       ·split at h
        ·rename_i hc
         cases e2:level f 0 0 (d+1) r' with
         |none=>rw[e2] at h;cases h
         |some y=>
          rw[e2] at h
          obtain⟨y1,y2⟩:=y
          dsimp only[jw] at h
          split at h
          ·cases h
           obtain⟨pre2,rfl,hp2⟩:=ih 0 0 (d+1) r' _ _ (by omega) e2 hA
           exact⟨.sign c::(pre2++[.sign 41]),by simp,by rw[bx,jA,hp2,hc];rfl⟩
          ·cases h
        ·cases h
    ·cases h
   ·cases h
theorem E2{ts:List Token}{A:Formula}(h:formulaIn ts=some A)(hA:multiplicative A=true):ts.all dR=true:=by
 unfold formulaIn at h
 split at h
 ·rename_i B e
  cases h
  obtain⟨pre,e1,hp⟩:=E1 _ _ _ _ _ _ _ (by omega) e hA
  rw[e1,d8]
  exact hp
 ·cases h
def good:Formula->Bool
 |.atom _ a=>isName a
 |.tensor A B=>good A&&good B
 |.par A B=>good A&&good B
 |_=>false
def dS:Token->Bool
 |.name a=>isName a
 |t=>dR t
theorem xq{c:UInt8}(h:dS (.sign c)=true):c=126\/c=42\/c=124\/c=40\/c=41:=og h
theorem E3:∀{t:Token},dS t=true->dR t=true
 |.name _,_=>rfl
 |.sign _,h=>h
 |.arrow,_=>rfl
theorem eV:∀A:Formula,good (dual A)=good A
 |.atom _ _=>rfl
 |.tensor A B=>by show(good (dual A)&&good (dual B))=_;rw[eV A,eV B];rfl
 |.par A B=>by show(good (dual A)&&good (dual B))=_;rw[eV A,eV B];rfl
 |.wth A B=>rfl
 |.plus A B=>rfl
 |.ofc A=>rfl
 |.whn A=>rfl
theorem mJ:∀{A:Formula},good A=true->multiplicative A=true
 |.atom _ _,_=>rfl
 |.tensor A B,h=>by
  have h':(good A&&good B)=true:=h
  rw[ag] at h'
  show(multiplicative A&&multiplicative B)=true
  rw[mJ h'.1,mJ h'.2];rfl
 |.par A B,h=>by
  have h':(good A&&good B)=true:=h
  rw[ag] at h'
  show(multiplicative A&&multiplicative B)=true
  rw[mJ h'.1,mJ h'.2];rfl
 |.wth A B,h=>by cases h
 |.plus A B,h=>by cases h
 |.ofc A,h=>by cases h
 |.whn A,h=>by cases h
theorem E4:∀(f k s d ts) (A:Formula) (r:List Token),k<=2->level f k s d ts=some (A,r)->ts.all dS=true->good A=true:=by
 intro f
 induction f with
 |zero=>intro k s d ts A r _ h;rw[rm] at h;cases h
 |succ f ih=>
  intro k s d ts A r hk h hA
  match k,hk with
  |0,_=>
   rw[o7] at h
   cases e:level f 1 0 d ts with
   |none=>rw[e] at h;cases h
   |some x=>
    rw[e] at h
    obtain⟨x1,x2⟩:=x
    obtain⟨pre,_,rfl⟩:=oa _ _ _ _ _ _ _ (by omega) e
    have q:=ih 1 0 d _ x1 _ (by omega) e hA
    rw[jA,ag] at hA
    dsimp only[jw] at h
    split at h
    ·rename_i r'
     rw[bx,ag] at hA
     split at h
     ·cases e2:level f 0 0 (d+1) r' with
      |none=>rw[e2] at h;cases h
      |some y=>
       rw[e2] at h
       obtain⟨y1,y2⟩:=y
       cases h
       have q2:=ih 0 0 (d+1) r' y1 _ (by omega) e2 hA.2.2
       show(good (dual x1)&&good y1)=true
       rw[eV,q,q2]
       rfl
     ·cases h
    ·cases h
     exact q
  |1,_=>
   rw[o8] at h
   cases e:level f 2 0 d ts with
   |none=>rw[e] at h;cases h
   |some x=>
    rw[e] at h
    obtain⟨x1,x2⟩:=x
    obtain⟨pre,_,rfl⟩:=oa _ _ _ _ _ _ _ (by omega) e
    have q:=ih 2 0 d _ x1 _ (by omega) e hA
    rw[jA,ag] at hA
    dsimp only[jw] at h
    split at h
    ·rename_i c r'
     rw[bx,ag] at hA
     split at h
     ·rename_i hc
      split at h
      ·cases e2:level f 1 c (d+1) r' with
       |none=>rw[e2] at h;cases h
       |some y=>
        rw[e2] at h
        obtain⟨y1,y2⟩:=y
        cases h
        have q2:=ih 1 c (d+1) r' y1 _ (by omega) e2 hA.2.2
        rcases xq hA.2.1 with rfl|rfl|rfl|rfl|rfl
        ·exact absurd hc.1 (by decide)
        ·show(good x1&&good y1)=true
         rw[q,q2];rfl
        ·show(good x1&&good y1)=true
         rw[q,q2];rfl
        ·exact absurd hc.1 (by decide)
        ·exact absurd hc.1 (by decide)
      ·cases h
     ·cases h;exact q
    ·cases h;exact q
  |2,_=>
   rw[o9] at h
   split at h
   ·cases h;rw[bx,ag] at hA;exact hA.1
   ·rename_i c r'
    rw[bx,ag] at hA
    split at h
    ·split at h
     ·cases e2:level f 2 0 (d+1) r' with
      |none=>rw[e2] at h;cases h
      |some y=>
       rw[e2] at h
       obtain⟨y1,y2⟩:=y
       cases h
       show good (dual y1)=true
       rw[eV]
       exact ih 2 0 (d+1) r' y1 _ (by omega) e2 hA.2
     ·split at h
      ·rename_i hc
       rw[hc] at hA
       exact absurd hA.1 (by decide)
      ·split at h
       ·rename_i hc
        rw[hc] at hA
        exact absurd hA.1 (by decide)
       ·split at h
        ·cases e2:level f 0 0 (d+1) r' with
         |none=>rw[e2] at h;cases h
         |some y=>
          rw[e2] at h
          obtain⟨y1,y2⟩:=y
          dsimp only[jw] at h
          split at h
          ·cases h
           exact ih 0 0 (d+1) r' _ _ (by omega) e2 hA.2
          ·cases h
        ·cases h
    ·cases h
   ·cases h
theorem xr{ts:List Token}{A:Formula}(h:formulaIn ts=some A)(hA:ts.all dS=true):good A=true:=by
 unfold formulaIn at h
 split at h
 ·rename_i B e
  cases h
  exact E4 _ _ _ _ _ _ _ (by omega) e hA
 ·cases h
end MP
namespace MG
open Vanetc
theorem E5{α:Type}(p:α->Bool)(l:List α):(l.filter p).length<=l.length:=oC p l
theorem E6:∀(n:Nat) (l:List Nat),l.length<=n->l.eraseDups.Nodup:=by
 intro n
 induction n with
 |zero=>intro l h;rw[oE.mp (rM.mp h)];exact rN
 |succ n ih=>
  intro l h
  cases l with
  |nil=>exact rN
  |cons a r=>
   rw[DZ]
   rw[aV] at h
   refine jS.mpr ⟨?_,ih _ (bW (E5 _ _) (by omega))⟩
   rw[jT,kf]
   rintro⟨_,q⟩
   simp at q
theorem ku(l:List Nat):l.eraseDups.Nodup:=E6 l.length l (aY _)
theorem kx:∀(l m:List Nat),l.Nodup->(∀x,x∈l->x∈m)->l.length<=m.length
 |[],_,_,_=>bF _
 |a::l,m,h,hs=>by
  obtain⟨h1,h2⟩:=jS.mp h
  have hm:a∈m:=hs a (bY)
  have q:=kx l (m.erase a) h2 fun x hx=>by
   have hne:x≠a:=fun e=>h1 (e▸hx)
   exact(D0 hne).mpr (hs x (ba _ hx))
  rw[D3 hm] at q
  have hp:0<m.length:=D4 hm
  rw[aV]
  omega
theorem sD{l m:List Nat}(hl:l.Nodup)(hm:m.Nodup)(h:∀x,x∈l↔x∈m):l.length=m.length:=
 Nat.le_antisymm (kx l m hl fun x=>(h x).mp) (kx m l hm fun x=>(h x).mpr)
abbrev lb(c:Parts)(a:Nat):Nat:=c.getD a 0
theorem kz{c:Parts}{a:Nat}(h:a<c.length):lb c a∈c:=by
 show c.getD a 0∈c
 rw[d9,bU h]
 exact Lq h
theorem xt{c:Parts}{x:Nat}(h:x∈c):∃a,a<c.length/\lb c a=x:=by
 obtain⟨a,ha,e⟩:=rO h
 exact⟨a,ha,by show c.getD a 0=x;rw[d9,bU ha];exact e⟩
theorem cU(a b:Nat)(c:Parts):(join a b c).length=c.length:=aL _
theorem oj{a b:Nat}{c:Parts}{z:Nat}(h:z<c.length):lb (join a b c) z=if lb c z=lb c a then lb c b else lb c z:=by
 show(c.map fun z=>if z=c.getD a 0 then c.getD b 0 else z).getD z 0=if c.getD z 0=c.getD a 0 then c.getD b 0 else c.getD z 0
 have e:c.getD z 0=c[z]:=by rw[d9,bU h];rfl
 have e2:(c.map fun z=>if z=c.getD a 0 then c.getD b 0 else z)[z]? =some (if c.getD z 0=c.getD a 0 then c.getD b 0 else c.getD z 0):=by
  rw[bo,bU h,e]
  rfl
 rw[d9,e2]
 rfl
theorem hX{a b:Nat}{c:Parts}:together a b c=true↔lb c a=lb c b:=by
 show(c.getD a 0==c.getD b 0)=true↔_
 exact beq_iff_eq
theorem E7{a b:Nat}{c:Parts}:together a b c=false↔lb c a≠lb c b:=by
 rw[<-D5,hX]
theorem sE{a b:Nat}{c:Parts}(h:lb c a=lb c b):join a b c=c:=by
 show(c.map fun z=>if z=c.getD a 0 then c.getD b 0 else z)=c
 have e:(fun z=>if z=c.getD a 0 then c.getD b 0 else z)=fun z:Nat=>z:=by
  funext z
  have h':c.getD a 0=c.getD b 0:=h
  split
  ·rename_i q;rw[q,h']
  ·rfl
 rw[e,List.map_id']
theorem xu{a b:Nat}{c:Parts}(ha:a<c.length)(hb:b<c.length)(h:lb c a≠lb c b):countParts (join a b c)+1=countParts c:=by
 show(join a b c).eraseDups.length+1=c.eraseDups.length
 have e:(join a b c).eraseDups.length=(c.eraseDups.erase (lb c a)).length:=by
  refine sD (ku _) ((ku c).erase _) fun x=>?_
  rw[jT]
  constructor
  ·intro hx
   obtain⟨z,hz,e⟩:=xt hx
   rw[cU] at hz
   rw[oj hz] at e
   have hne:x≠lb c a:=by
    split at e
    ·rw[<-e];exact fun q=>h q.symm
    ·rw[<-e];rename_i q;exact q
   rw[D0 hne,jT,<-e]
   split
   ·exact kz hb
   ·exact kz hz
  ·intro hx
   have hne:x≠lb c a:=by
    intro q
    rw[q] at hx
    exact(List.Nodup.not_mem_erase (ku c)) hx
   rw[D0 hne,jT] at hx
   obtain⟨z,hz,e⟩:=xt hx
   have e2:lb (join a b c) z=x:=by rw[oj hz,e,if_neg hne]
   rw[<-e2]
   exact kz (by rw[cU];exact hz)
 rw[e,D3 (jT.mpr (kz ha))]
 have hp:0<c.eraseDups.length:=D4 (jT.mpr (kz ha))
 omega
theorem E8(n:Nat):countParts (bJ n)=n:=by
 show(bJ n).eraseDups.length=n
 rw[sD (ku _) List.nodup_range fun x=>jT,cS]
structure Eqv (c d:Parts):Prop where
 len:c.length=d.length
 iff:∀a b,a<c.length->b<c.length->(lb c a=lb c b↔lb d a=lb d b)
theorem Eqv.refl(c:Parts):Eqv c c:=⟨rfl,fun _ _ _ _=>Iff.rfl⟩
theorem Eqv.symm{c d:Parts}(h:Eqv c d):Eqv d c:=⟨h.len.symm,fun a b ha hb=>(h.iff a b (h.len▸ha) (h.len▸hb)).symm⟩
theorem Eqv.together{c d:Parts}(h:Eqv c d){a b:Nat}(ha:a<c.length)(hb:b<c.length):together a b c=together a b d:=by
 rw[ck,hX,hX]
 exact h.iff a b ha hb
theorem i6{a b:Nat}{c:Parts}{x y:Nat}(ha:a<c.length)(hb:b<c.length)(hx:x<c.length)(hy:y<c.length):
  lb (join a b c) x=lb (join a b c) y↔lb c x=lb c y\/(lb c x=lb c a/\lb c y=lb c b)\/(lb c x=lb c b/\lb c y=lb c a):=by
 rw[oj hx,oj hy]
 split
 ·rename_i h1
  split
  ·rename_i h2
   exact⟨fun _=>.inl (h1.trans h2.symm),fun _=>rfl⟩
  ·rename_i h2
   constructor
   ·intro q;exact .inr (.inl ⟨h1,q.symm⟩)
   ·rintro(q|⟨_,q⟩|⟨_,q⟩)
    ·exact absurd (q▸h1) h2
    ·exact q.symm
    ·exact absurd q h2
 ·rename_i h1
  split
  ·rename_i h2
   constructor
   ·intro q;exact .inr (.inr ⟨q,h2⟩)
   ·rintro(q|⟨q,_⟩|⟨q,_⟩)
    ·exact absurd (q.trans h2) h1
    ·exact absurd q h1
    ·exact q
  ·rename_i h2
   constructor
   ·intro q;exact .inl q
   ·rintro(q|⟨q,_⟩|⟨_,q⟩)
    ·exact q
    ·exact absurd q h1
    ·exact absurd q h2
theorem Eqv.join{c d:Parts}(h:Eqv c d){a b:Nat}(ha:a<c.length)(hb:b<c.length):Eqv (join a b c) (join a b d):=by
 refine⟨by rw[cU,cU];exact h.len,fun x y hx hy=>?_⟩
 rw[cU] at hx hy
 have L:=h.len
 rw[i6 ha hb hx hy,i6 (L▸ha) (L▸hb) (L▸hx) (L▸hy),h.iff x y hx hy,h.iff x a hx ha,h.iff y b hy hb,h.iff x b hx hb,h.iff y a hy ha]
theorem Eqv.count_le{c d:Parts}(h:Eqv c d):countParts c<=countParts d:=by
 show c.eraseDups.length<=d.eraseDups.length
 have hlt:∀v,v∈c->c.idxOf v<c.length:=fun v hv=>Lr.mpr hv
 have hlb:∀v,v∈c->lb c (c.idxOf v)=v:=fun v hv=>by
  show c.getD (c.idxOf v) 0=v
  rw[d9,bU (hlt v hv),Ls]
  rfl
 have e:=kx (c.eraseDups.map fun v=>lb d (c.idxOf v)) d.eraseDups ?_ ?_
 ·rw[aL] at e
  exact e
 ·show List.Pairwise _ _
  rw[List.pairwise_map]
  refine List.Pairwise.imp_of_mem (fun{v w} hv hw hne q=>?_) (ku c)
  rw[jT] at hv hw
  have:=(h.iff _ _ (hlt v hv) (hlt w hw)).mpr q
  rw[hlb v hv,hlb w hw] at this
  exact hne this
 ·intro x hx
  obtain⟨v,hv,rfl⟩:=cT.mp hx
  rw[jT] at hv⊢
  exact kz (h.len▸hlt v hv)
theorem Eqv.count{c d:Parts}(h:Eqv c d):countParts c=countParts d:=Nat.le_antisymm h.count_le h.symm.count_le
def aw(n:Nat)(es:List Edge):Prop:=∀e,e∈es->e.1<n/\e.2<n
theorem aw.tail{n:Nat}{e:Edge}{r:List Edge}(h:aw n (e::r)):aw n r:=fun x hx=>h x (ba _ hx)
theorem aw.head{n:Nat}{e:Edge}{r:List Edge}(h:aw n (e::r)):e.1<n/\e.2<n:=h e bY
theorem take_length:∀(es:List Edge) (x:Parts×Bool),(takeEdges es x).1.length=x.1.length
 |[],_=>rfl
 |e::r,x=>by
  show(takeEdges r _).1.length=_
  rw[take_length r]
  exact cU _ _ _
theorem take_append(es fs:List Edge)(x:Parts×Bool):takeEdges (es++fs) x=takeEdges fs (takeEdges es x):=by
 induction es generalizing x with
 |nil=>rfl
 |cons e r ih=>exact ih _
theorem xx:∀(es:List Edge) (c d:Parts) (b:Bool),aw c.length es->Eqv c d->Eqv (takeEdges es (c,b)).1 (takeEdges es (d,b)).1/\(takeEdges es (c,b)).2=(takeEdges es (d,b)).2
 |[],_,_,_,_,h=>⟨h,rfl⟩
 |e::r,c,d,b,hf,h=>by
  show Eqv (takeEdges r _).1 (takeEdges r _).1/\(takeEdges r _).2=(takeEdges r _).2
  have q:=xx r (join e.1 e.2 c) (join e.1 e.2 d) (b||together e.1 e.2 c) (by rw[cU];exact hf.tail) (h.join hf.head.1 hf.head.2)
  have e2:together e.1 e.2 d=together e.1 e.2 c:=(h.together hf.head.1 hf.head.2).symm
  show Eqv (takeEdges r (join e.1 e.2 c,b||together e.1 e.2 c)).1 (takeEdges r (join e.1 e.2 d,b||together e.1 e.2 d)).1/\_=(takeEdges r (join e.1 e.2 d,b||together e.1 e.2 d)).2
  rw[e2]
  exact q
def hZ(c d:Parts):Prop:=∀a b,a<c.length->b<c.length->lb c a=lb c b->lb d a=lb d b
theorem mK{a b:Nat}{c:Parts}(ha:a<c.length)(hb:b<c.length):hZ c (join a b c):=fun x y hx hy h=>(i6 ha hb hx hy).mpr (.inl h)
theorem sG{a b:Nat}{c e:Parts}(ha:a<c.length)(hb:b<c.length)(h:hZ c e)(hab:lb e a=lb e b):hZ (join a b c) e:=by
 intro x y hx hy q
 rw[cU] at hx hy
 rcases(i6 ha hb hx hy).mp q with q|⟨q1,q2⟩|⟨q1,q2⟩
 ·exact h x y hx hy q
 ·exact(h x a hx ha q1).trans (hab.trans (h y b hy hb q2).symm)
 ·exact(h x b hx hb q1).trans (hab.symm.trans (h y a hy ha q2).symm)
theorem hZ.trans{c d e:Parts}(hl:c.length=d.length)(h:hZ c d)(g:hZ d e):hZ c e:=fun a b ha hb q=>g a b (hl▸ha) (hl▸hb) (h a b ha hb q)
theorem om:∀(es:List Edge) (c:Parts) (b:Bool),aw c.length es->hZ c (takeEdges es (c,b)).1
 |[],_,_,_=>fun _ _ _ _ h=>h
 |e::r,c,b,hf=>by
  have q:=om r (join e.1 e.2 c) (b||together e.1 e.2 c) (by rw[cU];exact hf.tail)
  exact(mK hf.head.1 hf.head.2).trans (cU _ _ _).symm q
theorem sI:∀(es:List Edge) (c:Parts) (b:Bool),aw c.length es->∀e,e∈es->lb (takeEdges es (c,b)).1 e.1=lb (takeEdges es (c,b)).1 e.2
 |[],_,_,_,_,h=>nomatch h
 |e::r,c,b,hf,x,hx=>by
  rcases bc.mp hx with rfl|hx
  ·have q:=om r (join x.1 x.2 c) (b||together x.1 x.2 c) (by rw[cU];exact hf.tail)
   exact q x.1 x.2 (by rw[cU];exact hf.head.1) (by rw[cU];exact hf.head.2) ((i6 hf.head.1 hf.head.2 hf.head.1 hf.head.2).mpr (.inr (.inl ⟨rfl,rfl⟩)))
  ·exact sI r (join e.1 e.2 c) _ (by rw[cU];exact hf.tail) x hx
theorem sJ:∀(es:List Edge) (c d:Parts) (b:Bool),aw c.length es->hZ c d->(∀e,e∈es->lb d e.1=lb d e.2)->hZ (takeEdges es (c,b)).1 d
 |[],_,_,_,_,h,_=>h
 |e::r,c,d,b,hf,h,he=>sJ r (join e.1 e.2 c) d _ (by rw[cU];exact hf.tail) (sG hf.head.1 hf.head.2 h (he e bY)) fun x hx=>he x (ba _ hx)
theorem oo:∀(es:List Edge) (c:Parts),(takeEdges es (c,true)).2=true
 |[],_=>rfl
 |e::r,c=>oo r (join e.1 e.2 c)
theorem xy:∀(es:List Edge) (c:Parts) (b b':Bool),(takeEdges es (c,b)).1=(takeEdges es (c,b')).1
 |[],_,_,_=>rfl
 |e::r,c,b,b'=>xy r (join e.1 e.2 c) _ _
theorem sL:∀(es:List Edge) (c:Parts),aw c.length es->countParts c<=countParts (takeEdges es (c,false)).1+es.length/\((takeEdges es (c,false)).2=false↔countParts (takeEdges es (c,false)).1+es.length=countParts c)
 |[],c,_=>⟨aY _,⟨fun _=>rfl,fun _=>rfl⟩⟩
 |e::r,c,hf=>by
  have q:=sL r (join e.1 e.2 c) (by rw[cU];exact hf.tail)
  by_cases h:lb c e.1=lb c e.2
  ·have ht:together e.1 e.2 c=true:=hX.mpr h
   have e1:takeEdges (e::r) (c,false)=takeEdges r (c,true):=by
    show takeEdges r (join e.1 e.2 c,false||together e.1 e.2 c)=_
    rw[ht,sE h];rfl
   rw[sE h] at q
   rw[e1,oo,xy r c true false,aV]
   refine⟨by omega,⟨fun z=>(nomatch z),fun z=>?_⟩⟩
   omega
  ·have ht:together e.1 e.2 c=false:=E7.mpr h
   have e1:takeEdges (e::r) (c,false)=takeEdges r (join e.1 e.2 c,false):=by
    show takeEdges r (join e.1 e.2 c,false||together e.1 e.2 c)=_
    rw[ht];rfl
   have cj:=xu hf.head.1 hf.head.2 h
   rw[e1,aV]
   refine⟨by omega,?_⟩
   rw[q.2]
   omega
theorem yA{es fs:List Edge}{c:Parts}(h:es.Perm fs)(hf:aw c.length es):Eqv (takeEdges es (c,false)).1 (takeEdges fs (c,false)).1/\(takeEdges es (c,false)).2=(takeEdges fs (c,false)).2:=by
 have hg:aw c.length fs:=fun e he=>hf e (h.mem_iff.mpr he)
 have E:Eqv (takeEdges es (c,false)).1 (takeEdges fs (c,false)).1:=by
  refine⟨by rw[take_length,take_length],fun a b ha hb=>⟨fun q=>?_,fun q=>?_⟩⟩
  ·exact sJ es c _ false hf (om fs c false hg) (fun e he=>sI fs c false hg e (h.mem_iff.mp he)) a b ha hb q
  ·refine sJ fs c _ false hg (om es c false hf) (fun e he=>sI es c false hf e (h.mem_iff.mpr he)) a b ?_ ?_ q
   ·rw[take_length] at ha⊢;exact ha
   ·rw[take_length] at hb⊢;exact hb
 refine⟨E,?_⟩
 have h1:=(sL es c hf).2
 have h2:=(sL fs c hg).2
 rw[E.count,h.length_eq,<-h2] at h1
 cases e1:(takeEdges es (c,false)).2<;>cases e2:(takeEdges fs (c,false)).2
 ·rfl
 ·exact absurd (h1.mp e1) (by rw[e2];decide)
 ·exact absurd (h1.mpr e2) (by rw[e1];decide)
 ·rfl
def eK(c:Parts)(ps:List Par)(w:Switching):Bool:=(takeEdges (parEdges ps w) (c,false)).2||countParts (takeEdges (parEdges ps w) (c,false)).1 !=1
def dM(p:Par)(b:Bool):Nat:=if b=true then p.2.2 else p.2.1
def fb:Parts->List Par->Option Switching
 |c,[]=>if countParts c=1 then none else some []
 |c,p::ps=>
  if together p.1 p.2.1 c=true then some (false::gy ps.length false)
  else match fb (join p.1 p.2.1 c) ps with
   |some w=>some (false::w)
   |none=>
    if together p.1 p.2.2 c=true then some (true::gy ps.length false)
    else(fb (join p.1 p.2.2 c) ps).map fun w=>true::w
theorem sM(n:Nat){f:Switching->Bool}(h:∀w,w∈switchings n->f w=true):(switchings n).find? f=some (gy n false):=by
 have e:∀n,(switchings n).head?=some (gy n false):=by
  intro n
  induction n with
  |zero=>rfl
  |succ n ih=>
   show((switchings n).map (fun w=>false::w)++(switchings n).map fun w=>true::w).head?=_
   rw[List.head?_append,List.head?_map,ih]
   rfl
 have e1:=e n
 cases hs:switchings n with
 |nil=>rw[hs] at e1;cases e1
 |cons x r=>
  rw[hs] at e1 h
  have:x=gy n false:=bL e1
  rw[oF,h x bY,this]
theorem E9(c:Parts)(p:Par)(ps:List Par)(b:Bool)(w:Switching):eK c (p::ps) (b::w)=if together p.1 (dM p b) c=true then true else eK (join p.1 (dM p b) c) ps w:=by
 have e:parEdges (p::ps) (b::w)=(p.1,dM p b)::parEdges ps w:=rfl
 unfold eK
 rw[e]
 show((takeEdges (parEdges ps w) (join p.1 (dM p b) c,false||together p.1 (dM p b) c)).2||countParts (takeEdges (parEdges ps w) (join p.1 (dM p b) c,false||together p.1 (dM p b) c)).1 !=1)=_
 cases h:together p.1 (dM p b) c with
 |true=>rw[if_pos rfl];show((takeEdges _ (_,true)).2||_)=true;rw[oo];rfl
 |false=>rw[if_neg (by decide)];rfl
theorem sN:∀(ps:List Par) (c:Parts),fb c ps=(switchings ps.length).find? (eK c ps)
 |[],c=>by
  have e:(switchings ([]:List Par).length).find? (eK c [])=match eK c [] [] with
    |true=>some []
    |false=>none:=rfl
  have e2:eK c [] []=(countParts c !=1):=rfl
  rw[e,e2]
  show(if countParts c=1 then none else some [])=_
  by_cases h:countParts c=1
  ·rw[if_pos h,h];rfl
  ·rw[if_neg h,bne_iff_ne.mpr h]
 |p::ps,c=>by
  have e1:(switchings (p::ps).length).find? (eK c (p::ps))=(((switchings ps.length).find? fun w=>eK c (p::ps) (false::w)).map fun w=>false::w).or (((switchings ps.length).find? fun w=>eK c (p::ps) (true::w)).map fun w=>true::w):=by
   show((switchings ps.length).map (fun w=>false::w)++(switchings ps.length).map fun w=>true::w).find? _=_
   rw[Lu,List.find?_map,List.find?_map]
   rfl
  rw[e1]
  have side0:dM p false=p.2.1:=rfl
  have side1:dM p true=p.2.2:=rfl
  simp only[E9,side0,side1]
  unfold fb
  by_cases h0:together p.1 p.2.1 c=true
  ·rw[if_pos h0]
   simp only[h0,if_pos]
   rw[sM _ fun _ _=>rfl]
   rfl
  ·rw[if_neg h0]
   simp only[h0]
   rw[sN ps (join p.1 p.2.1 c)]
   simp only[D6,if_false]
   cases e2:(switchings ps.length).find? (eK (join p.1 p.2.1 c) ps) with
   |some w=>rfl
   |none=>
    by_cases h1:together p.1 p.2.2 c=true
    ·simp only[h1,if_pos]
     rw[sM _ fun _ _=>rfl]
     rfl
    ·simp only[h1,D6,if_false]
     rw[sN ps (join p.1 p.2.2 c)]
     rfl
theorem Ea{c d:Parts}(h:Eqv c d){ps:List Par}{w:Switching}(hf:aw c.length (parEdges ps w)):eK c ps w=eK d ps w:=by
 obtain⟨h1,h2⟩:=xx (parEdges ps w) c d false hf h
 unfold eK
 rw[h2,h1.count]
def cC(n:Nat)(ps:List Par):Prop:=∀p,p∈ps->p.1<n/\p.2.1<n/\p.2.2<n
def vd(n:Nat)(ps:List Par)(c:Parts):Bool:=match takePars n ps c with
 |some (qs,d)=>qs.isEmpty&&countParts d==1
 |none=>false
theorem oq:∀{ps:List Par} {c:Parts} {p:Par} {r:List Par},readyPar ps c=some (p,r)->∃a b,ps=a++p::b/\r=a++b/\together p.2.1 p.2.2 c=true
 |[],_,_,_,h=>nomatch h
 |q::ps,c,p,r,h=>by
  unfold readyPar at h
  split at h
  ·rename_i hq
   cases h
   exact⟨[],_,rfl,rfl,hq⟩
  ·cases e:readyPar ps c with
   |none=>rw[e] at h;cases h
   |some x=>
    rw[e] at h
    obtain⟨x1,x2⟩:=x
    cases h
    obtain⟨a,b,e1,e2,e3⟩:=oq e
    exact⟨q::a,b,by rw[e1];rfl,by rw[e2];rfl,e3⟩
theorem sO:∀{ps:List Par} {c:Parts},readyPar ps c=none->∀p,p∈ps->together p.2.1 p.2.2 c=false
 |[],_,_,_,h=>nomatch h
 |q::ps,c,h,p,hp=>by
  unfold readyPar at h
  split at h
  ·cases h
  ·rename_i hq
   have e:readyPar ps c=none:=by
    cases e:readyPar ps c with
    |none=>rfl
    |some x=>rw[e] at h;cases h
   rcases bc.mp hp with rfl|hp
   ·exact dI.mpr hq
   ·exact sO e p hp
theorem Eb{ps:List Par}{c:Parts}(h:∀p,p∈ps->together p.2.1 p.2.2 c=false):readyPar ps c=none:=by
 cases e:readyPar ps c with
 |none=>rfl
 |some x=>
  obtain⟨p,r⟩:=x
  obtain⟨a,b,e1,_,e3⟩:=oq e
  rw[h p (by rw[e1];simp)] at e3
  cases e3
theorem cC.perm{n:Nat}{ps qs:List Par}(h:ps.Perm qs)(hf:cC n ps):cC n qs:=fun p hp=>hf p (h.mem_iff.mpr hp)
theorem cC.tail{n:Nat}{p:Par}{ps:List Par}(hf:cC n (p::ps)):cC n ps:=fun q hq=>hf q (ba _ hq)
theorem cC.head{n:Nat}{p:Par}{ps:List Par}(hf:cC n (p::ps)):p.1<n/\p.2.1<n/\p.2.2<n:=hf p bY
theorem sQ{n:Nat}{ps:List Par}{c:Parts}(h:∀p,p∈ps->together p.2.1 p.2.2 c=false):vd n ps c=(ps.isEmpty&&countParts c==1):=by
 cases n with
 |zero=>rfl
 |succ n=>
  unfold vd
  rw[show takePars (n+1) ps c=(match readyPar ps c with
   |none=>some (ps,c)
   |some (p,r)=>if together p.1 p.2.1 c=true then none else takePars n r (join p.1 p.2.1 c)) from rfl,Eb h]
theorem Ec{n:Nat}{ps r:List Par}{p:Par}{c:Parts}(h:readyPar ps c=some (p,r)):vd (n+1) ps c=if together p.1 p.2.1 c=true then false else vd n r (join p.1 p.2.1 c):=by
 unfold vd
 rw[show takePars (n+1) ps c=(match readyPar ps c with
  |none=>some (ps,c)
  |some (p,r)=>if together p.1 p.2.1 c=true then none else takePars n r (join p.1 p.2.1 c)) from rfl,h]
 dsimp only
 by_cases h:together p.1 p.2.1 c=true
 ·rw[if_pos h,if_pos h]
 ·rw[if_neg h,if_neg h]
theorem yB{c:Parts}{a b x y:Nat}(ha:a<c.length)(hb:b<c.length)(hx:x<c.length)(hy:y<c.length):hZ (join a b (join x y c)) (join x y (join a b c)):=by
 have l1:=cU x y c
 have l2:=cU a b c
 refine sG (by rw[l1];exact ha) (by rw[l1];exact hb) (sG hx hy ?_ ?_) ?_
 ·exact(mK ha hb).trans l2.symm (mK (by rw[l2];exact hx) (by rw[l2];exact hy))
 ·exact(i6 (by rw[l2];exact hx) (by rw[l2];exact hy) (by rw[l2];exact hx) (by rw[l2];exact hy)).mpr (.inr (.inl ⟨rfl,rfl⟩))
 ·exact mK (by rw[l2];exact hx) (by rw[l2];exact hy) a b (by rw[l2];exact ha) (by rw[l2];exact hb) ((i6 ha hb ha hb).mpr (.inr (.inl ⟨rfl,rfl⟩)))
theorem Ed{c:Parts}{a b x y:Nat}(ha:a<c.length)(hb:b<c.length)(hx:x<c.length)(hy:y<c.length):Eqv (join a b (join x y c)) (join x y (join a b c)):=
 ⟨by simp only[cU],fun u v hu hv=>⟨yB ha hb hx hy u v hu hv,yB hx hy ha hb u v (by simp only[cU] at hu⊢;exact hu) (by simp only[cU] at hv⊢;exact hv)⟩⟩
theorem ot{c:Parts}{a b x y:Nat}(hx:x<c.length)(hy:y<c.length)(ha:a<c.length)(hb:b<c.length)(h:together a b c=true):together a b (join x y c)=true:=
 hX.mpr (mK hx hy a b ha hb (hX.mp h))
theorem yC:∀n:Nat,(∀(ps qs:List Par) (c d:Parts),ps.length=n->ps.Perm qs->Eqv c d->cC c.length ps->vd n ps c=vd n qs d)/\
  (∀(ps r:List Par) (p:Par) (c:Parts),ps.length=n+1->ps.Perm (p::r)->cC c.length ps->together p.2.1 p.2.2 c=true->
   vd (n+1) ps c=if together p.1 p.2.1 c=true then false else vd n r (join p.1 p.2.1 c)):=by
 have key:∀n:Nat,(∀(ps qs:List Par) (c d:Parts),ps.length=n->ps.Perm qs->Eqv c d->cC c.length ps->vd n ps c=vd n qs d)->
   (∀m,n=m+1->(∀(ps qs:List Par) (c d:Parts),ps.length=m->ps.Perm qs->Eqv c d->cC c.length ps->vd m ps c=vd m qs d)/\
    (∀(ps r:List Par) (p:Par) (c:Parts),ps.length=m+1->ps.Perm (p::r)->cC c.length ps->together p.2.1 p.2.2 c=true->
     vd (m+1) ps c=if together p.1 p.2.1 c=true then false else vd m r (join p.1 p.2.1 c)))->
   (∀(ps r:List Par) (p:Par) (c:Parts),ps.length=n+1->ps.Perm (p::r)->cC c.length ps->together p.2.1 p.2.2 c=true->
    vd (n+1) ps c=if together p.1 p.2.1 c=true then false else vd n r (join p.1 p.2.1 c)):=by
  intro n A B ps r p c hn hP hf hp
  have fp:=hf.perm hP
  cases e:readyPar ps c with
  |none=>rw[sO e p (hP.mem_iff.mpr bY)] at hp;cases hp
  |some x=>
   obtain⟨q,rq⟩:=x
   obtain⟨a',b',e1,e2,hq⟩:=oq e
   have hQ:ps.Perm (q::rq):=by rw[e1,e2];exact D7
   have fq:=hf.perm hQ
   rw[Ec e]
   have lq:rq.length=n:=by have:=hQ.length_eq;rw[aV] at this;omega
   have lr:r.length=n:=by have:=hP.length_eq;rw[aV] at this;omega
   by_cases hpq:q=p
   ·subst hpq
    have hrr:rq.Perm r:=(hQ.symm.trans hP).cons_inv
    rw[A rq r (join q.1 q.2.1 c) (join q.1 q.2.1 c) lq hrr (Eqv.refl _) (by rw[cU];exact fq.tail)]
   ·have hmem:p∈rq:=by
     have:=hQ.mem_iff.mp (hP.mem_iff.mpr (bY (a:=p) (l:=r)))
     rcases bc.mp this with z|z
     ·exact absurd z.symm hpq
     ·exact z
    obtain⟨m,rfl⟩:∃m,n=m+1:=⟨n-1,by have:=D4 hmem;omega⟩
    obtain⟨A',B'⟩:=B m rfl
    have hp1:rq.Perm (p::rq.erase p):=List.perm_cons_erase hmem
    have hr1:r.Perm (q::rq.erase p):=by
     have z:(p::r).Perm (p::q::rq.erase p):=hP.symm.trans (hQ.trans ((hp1.cons q).trans (List.Perm.swap p q _)))
     exact z.cons_inv
    have p1:=fp.head
    have q1:=fq.head
    have fr:cC (join p.1 p.2.1 c).length r:=by rw[cU];exact fp.tail
    have frq:cC (join q.1 q.2.1 c).length rq:=by rw[cU];exact fq.tail
    have EB1:=B' rq (rq.erase p) p (join q.1 q.2.1 c) lq hp1 frq (ot q1.1 q1.2.1 p1.2.1 p1.2.2 hp)
    have EB2:=B' r (rq.erase p) q (join p.1 p.2.1 c) lr hr1 fr (ot p1.1 p1.2.1 q1.2.1 q1.2.2 hq)
    rw[EB1,EB2]
    by_cases bq:together q.1 q.2.1 c=true
    ·rw[if_pos bq,if_pos (ot p1.1 p1.2.1 q1.1 q1.2.1 bq)]
     split<;>rfl
    ·rw[if_neg bq]
     by_cases bp:together p.1 p.2.1 c=true
     ·rw[if_pos bp,if_pos (ot q1.1 q1.2.1 p1.1 p1.2.1 bp)]
     ·rw[if_neg bp]
      have nq:lb c q.1≠lb c q.2.1:=fun z=>bq (hX.mpr z)
      have np:lb c p.1≠lb c p.2.1:=fun z=>bp (hX.mpr z)
      have hiff:together p.1 p.2.1 (join q.1 q.2.1 c)=true↔together q.1 q.2.1 (join p.1 p.2.1 c)=true:=by
       rw[hX,hX,i6 q1.1 q1.2.1 p1.1 p1.2.1,i6 p1.1 p1.2.1 q1.1 q1.2.1]
       constructor
       ·rintro(z|⟨z1,z2⟩|⟨z1,z2⟩)
        ·exact absurd z np
        ·exact .inr (.inl ⟨z1.symm,z2.symm⟩)
        ·exact .inr (.inr ⟨z2.symm,z1.symm⟩)
       ·rintro(z|⟨z1,z2⟩|⟨z1,z2⟩)
        ·exact absurd z nq
        ·exact .inr (.inl ⟨z1.symm,z2.symm⟩)
        ·exact .inr (.inr ⟨z2.symm,z1.symm⟩)
      by_cases b2:together p.1 p.2.1 (join q.1 q.2.1 c)=true
      ·rw[if_pos b2,if_pos (hiff.mp b2)]
      ·rw[if_neg b2,if_neg (fun z=>b2 (hiff.mpr z))]
       have le:(rq.erase p).length=m:=by rw[D3 hmem];omega
       refine A' _ _ _ _ le (D8 _) (Ed p1.1 p1.2.1 q1.1 q1.2.1) ?_
       simp only[cU]
       exact(fq.tail.perm hp1).tail
 intro n
 induction n with
 |zero=>
  have A0:∀(ps qs:List Par) (c d:Parts),ps.length=0->ps.Perm qs->Eqv c d->cC c.length ps->vd 0 ps c=vd 0 qs d:=by
   intro ps qs c d hn hP hE _
   have e1:ps=[]:=oE.mp hn
   subst e1
   have e2:qs=[]:=List.Perm.nil_eq hP|>.symm
   subst e2
   show(([]:List Par).isEmpty&&countParts c==1)=(([]:List Par).isEmpty&&countParts d==1)
   rw[hE.count]
  exact⟨A0,key 0 A0 fun m hm=>by omega⟩
 |succ n ih=>
  obtain⟨A,B⟩:=ih
  have A1:∀(ps qs:List Par) (c d:Parts),ps.length=n+1->ps.Perm qs->Eqv c d->cC c.length ps->vd (n+1) ps c=vd (n+1) qs d:=by
   intro ps qs c d hn hP hE hf
   have hfd:cC d.length qs:=by rw[<-hE.len];exact hf.perm hP
   cases e:readyPar ps c with
   |none=>
    have h1:=sO e
    have h2:∀p,p∈qs->together p.2.1 p.2.2 d=false:=fun p hp=>by
     have hp':=hP.mem_iff.mpr hp
     rw[<-hE.together (hf p hp').2.1 (hf p hp').2.2]
     exact h1 p hp'
    rw[sQ h1,sQ h2,hE.count]
    have:ps.isEmpty=qs.isEmpty:=by
     cases ps<;>cases qs
     ·rfl
     ·exact absurd hP.length_eq (by simp)
     ·exact absurd hP.length_eq (by simp)
     ·rfl
    rw[this]
   |some x=>
    obtain⟨p,r⟩:=x
    obtain⟨a,b,e1,e2,hp⟩:=oq e
    have hQ:ps.Perm (p::r):=by rw[e1,e2];exact D7
    have fp:=(hf.perm hQ).head
    have hpd:together p.2.1 p.2.2 d=true:=by rw[<-hE.together fp.2.1 fp.2.2];exact hp
    rw[B ps r p c hn hQ hf hp,B qs r p d (by rw[<-hP.length_eq];exact hn) (hP.symm.trans hQ) hfd hpd,hE.together fp.1 fp.2.1]
    by_cases h:together p.1 p.2.1 d=true
    ·rw[if_pos h,if_pos h]
    ·rw[if_neg h,if_neg h]
     refine A r r _ _ ?_ (D8 _) (hE.join fp.1 fp.2.1) (by rw[cU];exact(hf.perm hQ).tail)
     have:=hQ.length_eq
     rw[aV] at this
     omega
  exact⟨A1,key (n+1) A1 fun m hm=>by
   obtain rfl:n=m:=by omega
   exact⟨A,B⟩⟩
theorem Ee{ps:List Par}{c d:Parts}(h:Eqv c d)(hf:cC c.length ps):vd ps.length ps c=vd ps.length ps d:=(yC ps.length).1 ps ps c d rfl (D8 _) h hf
theorem Ef{a b:List Par}{p:Par}{c:Parts}(hf:cC c.length (a++p::b))(hp:together p.2.1 p.2.2 c=true):
  vd (a++p::b).length (a++p::b) c=if together p.1 p.2.1 c=true then false else vd (a++b).length (a++b) (join p.1 p.2.1 c):=by
 have e:(a++p::b).length=(a++b).length+1:=by simp only[aS,aV];omega
 rw[e]
 exact(yC (a++b).length).2 _ _ p c e D7 hf hp
theorem Eg(s:Net):draws s=if(takeEdges (edges s) (apart s,false)).2=true then false else vd (pars s).length (pars s) (takeEdges (edges s) (apart s,false)).1:=rfl
structure Uf (l:List Nat) (rt rk:Nat->Nat):Prop where
 lt:∀p,p<l.length->rt p<l.length
 root:∀p,p<l.length->lb l (rt p)=rt p
 step:∀p,p<l.length->lb l p<l.length/\rt (lb l p)=rt p
 fix:∀p,p<l.length->lb l p=p->rt p=p
 rank:∀p,p<l.length->lb l p≠p->rk (lb l p)<rk p
theorem i7{l:List Nat}{i j v:Nat}(hj:j<l.length):lb (l.set i v) j=if j=i then v else lb l j:=by
 show(l.set i v).getD j 0=_
 rw[d9,l8]
 by_cases h:i=j
 ·subst h;rw[if_pos rfl,if_pos hj,if_pos rfl];rfl
 ·rw[if_neg h,if_neg (fun q=>h q.symm)];exact(d9).symm
theorem Uf.halve{l:List Nat}{rt rk:Nat->Nat}(u:Uf l rt rk){p:Nat}(hp:p<l.length)(hn:lb l p≠p):Uf (l.set p (lb l (lb l p))) rt rk:=by
 have s1:=u.step p hp
 have s2:=u.step (lb l p) s1.1
 have r1:=u.rank p hp hn
 have r2:rk (lb l (lb l p))<=rk (lb l p):=by
  by_cases h:lb l (lb l p)=lb l p
  ·rw[h];exact aY _
  ·exact kg (u.rank _ s1.1 h)
 refine⟨fun q hq=>?_,fun q hq=>?_,fun q hq=>?_,fun q hq=>?_,fun q hq=>?_⟩<;>rw[cP] at hq
 ·rw[cP];exact u.lt q hq
 ·rw[i7 (u.lt q hq)]
  by_cases h:rt q=p
  ·exact absurd (by rw[<-h];exact u.root q hq) hn
  ·rw[if_neg h];exact u.root q hq
 ·rw[cP,i7 hq]
  by_cases h:q=p
  ·rw[if_pos h,h];exact⟨s2.1,s2.2.trans s1.2⟩
  ·rw[if_neg h];exact u.step q hq
 ·rw[i7 hq]
  by_cases h:q=p
  ·rw[if_pos h,h]
   intro e
   rw[e] at r2
   omega
  ·rw[if_neg h];exact u.fix q hq
 ·rw[i7 hq]
  by_cases h:q=p
  ·rw[if_pos h,h];intro _;omega
  ·rw[if_neg h];exact u.rank q hq
theorem Uf.union{l:List Nat}{rt rk:Nat->Nat}(u:Uf l rt rk){p q:Nat}(hp:p<l.length)(hq:q<l.length)(hn:rt p≠rt q):
  Uf (l.set (rt p) (rt q)) (fun z=>if rt z=rt p then rt q else rt z) (fun z=>if rt z=rt p then rk z+rk (rt q)+1 else rk z):=by
 have rr:∀z,z<l.length->rt (rt z)=rt z:=fun z hz=>u.fix (rt z) (u.lt z hz) (u.root z hz)
 refine⟨fun z hz=>?_,fun z hz=>?_,fun z hz=>?_,fun z hz=>?_,fun z hz=>?_⟩<;>rw[cP] at hz
 ·rw[cP];split
  ·exact u.lt q hq
  ·exact u.lt z hz
 ·split
  ·rw[i7 (u.lt q hq),if_neg (fun e=>hn e.symm)];exact u.root q hq
  ·rename_i h;rw[i7 (u.lt z hz),if_neg h];exact u.root z hz
 ·rw[cP,i7 hz]
  by_cases h:z=rt p
  ·rw[if_pos h]
   refine⟨u.lt q hq,?_⟩
   rw[rr q hq,if_neg (fun e=>hn e.symm),h,rr p hp,if_pos rfl]
  ·rw[if_neg h]
   have s1:=u.step z hz
   exact⟨s1.1,by rw[s1.2]⟩
 ·rw[i7 hz]
  by_cases h:z=rt p
  ·rw[if_pos h]
   intro e
   exact absurd (e.trans h).symm hn
  ·rw[if_neg h]
   intro e
   have f:=u.fix z hz e
   rw[if_neg (by rw[f];exact h)]
   exact f
 ·rw[i7 hz]
  by_cases h:z=rt p
  ·rw[if_pos h]
   intro _
   rw[rr q hq,if_neg (fun e=>hn e.symm),h,rr p hp,if_pos rfl]
   omega
  ·rw[if_neg h]
   intro e
   have s1:=u.step z hz
   rw[s1.2]
   have k:=u.rank z hz e
   split<;>omega
structure Tells (l:List Nat) (rt:Nat->Nat) (c:Parts):Prop where
 len:c.length=l.length
 iff:∀a b,a<l.length->b<l.length->(lb c a=lb c b↔rt a=rt b)
theorem Tells.together{l:List Nat}{rt:Nat->Nat}{c:Parts}(t:Tells l rt c){a b:Nat}(ha:a<l.length)(hb:b<l.length):together a b c=decide (rt a=rt b):=by
 rw[ck,hX,decide_eq_true_iff]
 exact t.iff a b ha hb
theorem Tells.set{l:List Nat}{rt:Nat->Nat}{c:Parts}(t:Tells l rt c){i v:Nat}:Tells (l.set i v) rt c:=⟨by rw[cP];exact t.len,by rw[cP];exact t.iff⟩
theorem Tells.union{l:List Nat}{rt:Nat->Nat}{c:Parts}(t:Tells l rt c){p q:Nat}(hp:p<l.length)(hq:q<l.length)(v w:Nat):
  Tells (l.set v w) (fun z=>if rt z=rt p then rt q else rt z) (join p q c):=by
 refine⟨by rw[cU,cP];exact t.len,fun a b ha hb=>?_⟩
 rw[cP] at ha hb
 have L:=t.len
 rw[i6 (L▸hp) (L▸hq) (L▸ha) (L▸hb),t.iff a b ha hb,t.iff a p ha hp,t.iff b q hb hq,t.iff a q ha hq,t.iff b p hb hp]
 constructor
 ·rintro(h|⟨h1,h2⟩|⟨h1,h2⟩)
  ·rw[h]
  ·rw[h1,if_pos rfl,h2];split<;>rfl
  ·rw[h2,if_pos rfl,h1];split<;>rfl
 ·intro h
  split at h
  ·rename_i h1
   split at h
   ·rename_i h2;exact .inl (h1.trans h2.symm)
   ·exact .inr (.inl ⟨h1,h.symm⟩)
  ·split at h
   ·rename_i h2;exact .inr (.inr ⟨h,h2⟩)
   ·exact .inl h
theorem mL{n p:Nat}(h:p<n):lb (bJ n) p=p:=by
 show(bJ n).getD p 0=p
 rw[d9,jy h]
 rfl
theorem Uf.lone(n:Nat):Uf (bJ n) (fun z=>z) (fun _=>0):=by
 refine⟨fun p h=>h,fun p h=>?_,fun p h=>?_,fun p h _=>rfl,fun p h q=>?_⟩<;>rw[cS] at h
 ·exact mL h
 ·rw[mL h,cS];exact⟨h,rfl⟩
 ·exact absurd (mL h) q
theorem Tells.lone(n:Nat):Tells (bJ n) (fun z=>z) (bJ n):=by
 refine⟨rfl,fun a b ha hb=>?_⟩
 rw[cS] at ha hb
 rw[mL ha,mL hb]
end MG
namespace MFl
abbrev C:=List (List Int)
theorem Eh(c:C):D9 c=c:=by
 unfold D9
 split<;>rfl
theorem Ei(cs:List C):cs.map D9=cs:=by
 induction cs with
 |nil=>rfl
 |cons c r ih=>rw[bg,ih,Eh]
theorem Ej{l:List Int}(h:Da l=true):∃cs,PyFlat.calls dr l.length l=some cs/\cs.length<=240/\(∀c∈cs,Dc c=true)/\Dd l=PyFlat.told (PyFlat.played gL gM cs):=by
 unfold Da at h
 unfold Dd
 unfold PyVanetc.calls at h⊢
 cases e:PyFlat.calls dr l.length l with
 |none=>rw[e] at h;cases h
 |some cs=>
  rw[e] at h
  dsimp only at h⊢
  rw[Ei] at h⊢
  rw[ag] at h
  unfold VanetcNeutral.asked at h
  rw[ag,cJ] at h
  exact⟨cs,rfl,of_decide_eq_true h.1,h.2.1,rfl⟩
theorem ft{α:Type}{c:Prop} [Decidable c]{a b:Option α}{x:α}(h:(if c then a else b)=some x):a=some x\/b=some x:=by
 by_cases e:c
 ·rw[if_pos e] at h;exact .inl h
 ·rw[if_neg e] at h;exact .inr h
theorem Ek{p:Int}{n k:Nat}(hs:dr p=some (n,k)):k=0\/(n=0/\k=1):=by
 unfold dr at hs
 rcases ft hs with h|hs
 ·cases h;exact .inr ⟨rfl,rfl⟩
 rcases ft hs with h|hs
 ·cases h;exact .inl rfl
 rcases ft hs with h|hs
 ·cases h;exact .inl rfl
 rcases ft hs with h|hs
 ·cases h;exact .inl rfl
 rcases ft hs with h|hs
 ·cases h;exact .inl rfl
 rcases ft hs with h|hs
 ·cases h;exact .inl rfl
 rcases ft hs with h|hs
 ·cases h;exact .inr ⟨rfl,rfl⟩
 rcases ft hs with h|hs
 ·cases h;exact .inl rfl
 rcases ft hs with h|hs
 ·cases h;exact .inl rfl
 rcases ft hs with h|hs
 ·cases h;exact .inl rfl
 rcases ft hs with h|hs
 ·cases h;exact .inl rfl
 rcases ft hs with h|hs
 ·cases h;exact .inl rfl
 rcases ft hs with h|hs
 ·cases h;exact .inl rfl
 ·cases hs
theorem El {f : Nat} {p : Int} {r : List Int} {cs : List C} (h : PyFlat.calls dr f (p :: r) = some cs) :
    ∃ f' c t cs', cs = c :: cs' ∧ PyFlat.calls dr f' t = some cs' ∧
      ((∃ n, dr p = some (n, 0) ∧ n ≤ r.length ∧ c = [p :: r.take n] ∧ t = r.drop n) ∨
       (∃ (k : Nat) (r' : List Int), dr p = some (0, 1) ∧ r = (k : Int) :: r' ∧ k ≤ r'.length ∧ c = [[p], r'.take k] ∧ t = r'.drop k)) := by
  cases f with
  | zero => cases h
  | succ f =>
    have h : (match PyFlat.call dr (p :: r) with | none => none | some (c, t) => match PyFlat.calls dr f t with | none => none | some cs => some (c :: cs)) = some cs := h
    cases hc : PyFlat.call dr (p :: r) with
    | none => rw [hc] at h; cases h
    | some x =>
      obtain ⟨c, t⟩ := x
      rw [hc] at h
      dsimp only at h
      cases ht : PyFlat.calls dr f t with
      | none => rw [ht] at h; cases h
      | some cs' =>
        rw [ht] at h
        cases h
        refine ⟨f, c, t, cs', rfl, ht, ?_⟩
        have hc : (match dr p with | none => none | some (n, k) => if r.length < n then none else match PyFlat.rows k (r.drop n) with | none => none | some (xs, t) => some ((p :: r.take n) :: xs, t)) = some (c, t) := hc
        cases hs : dr p with
        | none => rw [hs] at hc; cases hc
        | some y =>
          obtain ⟨n, k⟩ := y
          rw [hs] at hc
          dsimp only at hc
          have hk : k = 0 ∨ (n = 0 ∧ k = 1) := Ek hs
          by_cases hl : r.length < n
          · rw [if_pos hl] at hc; cases hc
          rw [if_neg hl] at hc
          rcases hk with rfl | ⟨rfl, rfl⟩
          · have hc : some ([p :: r.take n], r.drop n) = some (c, t) := hc
            cases hc
            exact .inl ⟨n, rfl, by omega, rfl, rfl⟩
          · rw [l9, oG] at hc
            cases r with
            | nil => cases hc
            | cons z r' =>
              by_cases hz : 0 ≤ z ∧ z.toNat ≤ r'.length
              · have e : PyFlat.rows 1 (z :: r') = some ([r'.take z.toNat], r'.drop z.toNat) := by
                  show (match (if 0 ≤ z ∧ z.toNat ≤ r'.length then some (r'.take z.toNat, r'.drop z.toNat) else none : Option (List Int × List Int)) with | none => none | some (x, s) => match PyFlat.rows 0 s with | none => none | some (xs, t) => some (x :: xs, t)) = _
                  rw [if_pos hz]; rfl
                rw [e] at hc
                dsimp only at hc
                cases hc
                refine .inr ⟨z.toNat, r', rfl, ?_, hz.2, rfl, rfl⟩
                rw [Int.toNat_of_nonneg hz.1]
              · have e : PyFlat.rows 1 (z :: r') = none := by
                  show (match (if 0 ≤ z ∧ z.toNat ≤ r'.length then some (r'.take z.toNat, r'.drop z.toNat) else none : Option (List Int × List Int)) with | none => none | some (x, s) => match PyFlat.rows 0 s with | none => none | some (xs, t) => some (x :: xs, t)) = _
                  rw [if_neg hz]
                rw [e] at hc; cases hc
def behind(s:rP)(cs:List C):rP:=cs.foldl (fun s c=>(gL s c).1) s
theorem Em(s:rP)(cs:List C)(c:C):behind s (cs++[c])=(gL (behind s cs) c).1:=by
 unfold behind
 rw[Lw];rfl
theorem yD(c:C):∀(cs:List C) (s:rP),PyFlat.played gL s (cs++[c])=PyFlat.played gL s cs++[(gL (behind s cs) c).2]
 |[],s=>rfl
 |d::r,s=>by
  show(gL s d).2::PyFlat.played gL (gL s d).1 (r++[c])=_
  rw[yD c r];rfl
theorem En(l:List (List Int))(a:List Int):PyFlat.told (l++[a])=PyFlat.told l++((a.length:Int)::a):=by
 unfold PyFlat.told
 rw[ff]
 simp
def dW(cs:List C):List Int:=PyFlat.told (PyFlat.played gL gM cs)
theorem Eo(cs:List C)(c:C):dW (cs++[c])=dW cs++(((gL (behind gM cs) c).2.length:Int)::(gL (behind gM cs) c).2):=by
 unfold dW
 rw[yD,En]
theorem step_call{s:rP}{c:C}{k:fE}(h:Lx c=some k):gL s c=((eI s k).1,Ly (eI s k).2):=by
 unfold gL
 rw[h]
end MFl
namespace MFl
def gv(p:Int):Int:=match([(7,1),(8,2),(9,1),(10,1)]:List (Int×Int)).lookup p with
 |some v=>v
 |none=>0
theorem yE{p:Int}{x:Nat×Nat}(h:dr p=some x):p=0\/p=1\/p=2\/p=3\/p=4\/p=5\/p=6\/p=7\/p=8\/p=9\/p=10\/p=11\/p=12:=by
 refine xO fun z=>?_
 unfold dr at h
 rw[if_neg (by omega),if_neg (by omega),if_neg (by omega),if_neg (by omega),if_neg (by omega),if_neg (by omega),if_neg (by omega),if_neg (by omega),if_neg (by omega),if_neg (by omega),if_neg (by omega),if_neg (by omega),if_neg (by omega)] at h
 cases h
theorem Ep{p:Int}{n:Nat}(h:dr p=some (n,0)):gv p=(n:Int)/\p≠0/\p≠6:=by
 rcases yE h with rfl|rfl|rfl|rfl|rfl|rfl|rfl|rfl|rfl|rfl|rfl|rfl|rfl
 all_goals first|exact absurd (show some 1=some 0 from congrArg (De Prod.snd) h) (by decide)|skip
 all_goals
  have e:some n=_:=(congrArg (De Prod.fst) h).symm
  cases e
  exact⟨rfl,by decide,by decide⟩
theorem Er{p:Int}(h:dr p=some (0,1)):p=0\/p=6:=by
 rcases yE h with rfl|rfl|rfl|rfl|rfl|rfl|rfl|rfl|rfl|rfl|rfl|rfl|rfl
 all_goals first|exact absurd (congrArg (De Prod.snd) h) (by decide)|skip
 ·exact .inl rfl
 ·exact .inr rfl
def tI(t:List UInt8):List Int:=t.map fun b=>(b.toNat:Int)
inductive Cl:Int->List Int->fE->Prop
 |set (t:List UInt8):t.length<=4000->Cl 0 (tI t) (.set t)
 |form:Cl 1 [] .form
 |size:Cl 2 [] .size
 |test:Cl 3 [] .test
 |bad:Cl 4 [] .bad
 |draw:Cl 5 [] .draw
 |switch (w:List Int):w.length<=200->Cl 6 w (.switch w)
 |partner (i:Int):Cl 7 [i] (.partner i)
 |swap (i j:Int):Cl 8 [i,j] (.swap i j)
 |open_ (i:Int):Cl 9 [i] (.open_ i)
 |shut (i:Int):Cl 10 [i] (.shut i)
 |bare:Cl 11 [] .bare
 |turn:Cl 12 [] .turn
theorem yF:∀{t:List Int},(t.all fun z=>xP z 8)=true->tI (t.map fun b=>lg b.toNat)=t
 |[],_=>rfl
 |z::t,h=>by
  rw[bx,ag] at h
  have q:=h.1
  unfold xP at q
  rw[ag,decide_eq_true_iff,decide_eq_true_iff] at q
  have e:(((lg z.toNat).toNat:Nat):Int)=z:=by
   rw[UInt8.toNat_ofNat']
   have:=q.2
   omega
  show(((lg z.toNat).toNat:Nat):Int)::tI (t.map fun b=>lg b.toNat)=_
  rw[e,yF h.2]
theorem Es{t:List Int}(h:(t.all fun z=>xP z 8)=true):Df t=some (t.map fun b=>lg b.toNat):=by
 have:NeutralIO.bytes t=true:=by
  unfold NeutralIO.bytes
  rw[cJ]
  intro z hz
  have q:=cJ.mp h z hz
  unfold xP at q
  rw[ag,decide_eq_true_iff,decide_eq_true_iff] at q
  rw[ag,decide_eq_true_iff,decide_eq_true_iff]
  exact⟨q.1,by have:=q.2;omega⟩
 unfold Df
 rw[if_pos this]
theorem Et{c:C}{p:Int}{g:List Int}(h:Dc c=true)(hc:c=[p::g]\/c=[[p],g]):∃k,Lx c=some k/\Cl p g k:=by
 have two:∀{x y:List Int},[x,y]=[p::g]\/[x,y]=[[p],g]->x=[p]/\y=g:=fun{x y} z=>by
  rcases z with z|z
  ·cases z
  ·cases z;exact⟨rfl,rfl⟩
 have one:∀{x:List Int},[x]=[p::g]\/[x]=[[p],g]->x=p::g:=fun{x} z=>by
  rcases z with z|z
  ·cases z;rfl
  ·cases z
 unfold Dc at h
 split at h
 ·rename_i t
  obtain⟨e1,rfl⟩:=two hc
  cases e1
  rw[ag,decide_eq_true_iff] at h
  refine⟨.set (t.map fun b=>lg b.toNat),?_,?_⟩
  ·show(Df t).map Vanetc.Call.set=_
   rw[Es h.1];rfl
  ·have q:=Cl.set (t.map fun b=>lg b.toNat) (by rw[aL];exact h.2)
   rw[yF h.1] at q
   exact q
 ·cases one hc;exact⟨_,rfl,.form⟩
 ·cases one hc;exact⟨_,rfl,.size⟩
 ·cases one hc;exact⟨_,rfl,.test⟩
 ·cases one hc;exact⟨_,rfl,.bad⟩
 ·cases one hc;exact⟨_,rfl,.draw⟩
 ·rename_i w
  obtain⟨e1,rfl⟩:=two hc
  cases e1
  rw[ag,decide_eq_true_iff] at h
  exact⟨_,rfl,.switch w h.2⟩
 ·cases one hc;exact⟨_,rfl,.partner _⟩
 ·cases one hc;exact⟨_,rfl,.swap _ _⟩
 ·cases one hc;exact⟨_,rfl,.open_ _⟩
 ·cases one hc;exact⟨_,rfl,.shut _⟩
 ·cases one hc;exact⟨_,rfl,.bare⟩
 ·cases one hc;exact⟨_,rfl,.turn⟩
 ·cases h
end MFl
namespace MF
open Vaneta MP
def bG(x:Bool×Name):List UInt8:=if x.1=true then 126::x.2 else x.2
def nl:Formula->List (List UInt8)
 |.atom n a=>[bG (n,a)]
 |.tensor A B=>[42]::(nl A++nl B)
 |.par A B=>[124]::(nl A++nl B)
 |_=>[]
def aM(fs:List Formula):List (List UInt8):=fs.flatMap nl
def bP(n:List UInt8):Bool:= !decide (n=[42])&& !decide (n=[124])
def da(n:List UInt8):List UInt8:=if n=[42] then[124] else if n=[124] then[42] else if n.take 1=[126] then n.drop 1 else 126::n
theorem lC:aM []=[]:=rfl
theorem cD(A:Formula)(fs:List Formula):aM (A::fs)=nl A++aM fs:=rfl
theorem ou(fs gs:List Formula):aM (fs++gs)=aM fs++aM gs:=ff
theorem bS{A B:Formula}:(good A&&good B)=true↔good A=true/\good B=true:=xQ
theorem mM{a:Name}(h:isName a=true):∃b r,a=b::r/\isSmall b=true:=by
 cases a with
 |nil=>cases h
 |cons b r=>
  refine⟨b,r,rfl,?_⟩
  have h':(isSmall b&&_)=true:=h
  exact(xQ.mp h').1
theorem ow{b:UInt8}(h:isSmall b=true):b≠42/\b≠124/\b≠126/\b≠40/\b≠41/\b≠45:=by
 refine⟨?_,?_,?_,?_,?_,?_⟩<;>(rintro rfl;revert h;decide)
theorem gR{t:Bool}{a:Name}(h:isName a=true):bP (bG (t,a))=true:=by
 obtain⟨b,r,rfl,hb⟩:=mM h
 have:=ow hb
 unfold bP bG
 cases t<;>simp[this]
theorem yG{t:Bool}{a:Name}(h:isName a=true):da (bG (t,a))=bG (!t,a):=by
 obtain⟨b,r,rfl,hb⟩:=mM h
 have:=ow hb
 unfold da bG
 cases t<;>simp[this]
theorem sR{x y:Bool×Name}(hx:isName x.2=true)(hy:isName y.2=true)(h:bG x=bG y):x=y:=by
 obtain⟨t,a⟩:=x
 obtain⟨u,c⟩:=y
 obtain⟨b,r,rfl,hb⟩:=mM hx
 obtain⟨b',r',rfl,hb'⟩:=mM hy
 have q:=ow hb
 have q':=ow hb'
 unfold bG at h
 cases t<;>cases u<;>simp at h
 ·rw[h.1,h.2]
 ·exact absurd h.1 q.2.2.1
 ·exact absurd h.1.symm q'.2.2.1
 ·rw[h.1,h.2]
theorem i8:∀{A:Formula},good A=true->nl (dual A)=(nl A).map da
 |.atom t a,h=>by
  show[bG (!t,a)]=[da (bG (t,a))]
  rw[yG h]
 |.tensor A B,h=>by
  have h':=bS.mp h
  show[124]::(nl (dual A)++nl (dual B))=([42]::(nl A++nl B)).map da
  rw[i8 h'.1,i8 h'.2,bg,bO];rfl
 |.par A B,h=>by
  have h':=bS.mp h
  show[42]::(nl (dual A)++nl (dual B))=([124]::(nl A++nl B)).map da
  rw[i8 h'.1,i8 h'.2,bg,bO];rfl
 |.wth A B,h=>nomatch h
 |.plus A B,h=>nomatch h
 |.ofc A,h=>nomatch h
 |.whn A,h=>nomatch h
theorem jX:∀{A:Formula},good A=true->(nl A).filter bP=(leaves A).map bG
 |.atom t a,h=>by
  show([bG (t,a)]).filter bP=[bG (t,a)]
  rw[jz,if_pos (gR h)];rfl
 |.tensor A B,h=>by
  have h':=bS.mp h
  show([42]::(nl A++nl B)).filter bP=(leaves A++leaves B).map bG
  rw[jz,if_neg (by decide),rQ,jX h'.1,jX h'.2,bO]
 |.par A B,h=>by
  have h':=bS.mp h
  show([124]::(nl A++nl B)).filter bP=(leaves A++leaves B).map bG
  rw[jz,if_neg (by decide),rQ,jX h'.1,jX h'.2,bO]
 |.wth A B,h=>nomatch h
 |.plus A B,h=>nomatch h
 |.ofc A,h=>nomatch h
 |.whn A,h=>nomatch h
theorem sS:∀{fs:List Formula},fs.all good=true->(aM fs).filter bP=(fs.flatMap leaves).map bG
 |[],_=>rfl
 |A::fs,h=>by
  rw[bx,ag] at h
  rw[cD,rQ,jX h.1,sS h.2,kh,bO]
theorem fQ:∀A:Formula,(leaves A).length=atoms A
 |.atom _ _=>rfl
 |.tensor A B=>by show(leaves A++leaves B).length=atoms A+atoms B;rw[aS,fQ A,fQ B]
 |.par A B=>by show(leaves A++leaves B).length=atoms A+atoms B;rw[aS,fQ A,fQ B]
 |.wth A B=>by show(leaves A++leaves B).length=atoms A+atoms B;rw[aS,fQ A,fQ B]
 |.plus A B=>by show(leaves A++leaves B).length=atoms A+atoms B;rw[aS,fQ A,fQ B]
 |.ofc A=>fQ A
 |.whn A=>fQ A
theorem fJ:∀{A:Formula},good A=true->(nl A).length=nodes A
 |.atom t a,_=>rfl
 |.tensor A B,h=>by
  have h':=bS.mp h
  show(nl A++nl B).length+1=1+nodes A+nodes B
  rw[aS,fJ h'.1,fJ h'.2];omega
 |.par A B,h=>by
  have h':=bS.mp h
  show(nl A++nl B).length+1=1+nodes A+nodes B
  rw[aS,fJ h'.1,fJ h'.2];omega
 |.wth A B,h=>nomatch h
 |.plus A B,h=>nomatch h
 |.ofc A,h=>nomatch h
 |.whn A,h=>nomatch h
theorem mN:∀{A:Formula},good A=true->nodes A+1=2*atoms A
 |.atom t a,_=>rfl
 |.tensor A B,h=>by
  have h':=bS.mp h
  have h1:=mN h'.1
  have h2:=mN h'.2
  show 1+nodes A+nodes B+1=2*(atoms A+atoms B)
  omega
 |.par A B,h=>by
  have h':=bS.mp h
  have h1:=mN h'.1
  have h2:=mN h'.2
  show 1+nodes A+nodes B+1=2*(atoms A+atoms B)
  omega
 |.wth A B,h=>nomatch h
 |.plus A B,h=>nomatch h
 |.ofc A,h=>nomatch h
 |.whn A,h=>nomatch h
theorem jY{A:Formula}(h:good A=true):nl A≠[]:=by
 match A,h with
 |.atom t a,_=>exact fun e=>nomatch e
 |.tensor A B,_=>exact fun e=>nomatch e
 |.par A B,_=>exact fun e=>nomatch e
theorem yH{A:Formula}(h:good A=true):inBounds A=(decide (atoms A<=60)&&decide (deep A<=40)):=by
 have e:=mN h
 show(decide (atoms A<=60)&&(decide (nodes A<=200)&&decide (deep A<=40)))=_
 by_cases h1:atoms A<=60
 ·rw[decide_eq_true h1,decide_eq_true (show nodes A<=200 by omega)];rfl
 ·rw[decide_eq_false h1];rfl
theorem dX{A:Formula}{fs:List Formula}:(A::fs).all good=true↔good A=true/\fs.all good=true:=by rw[bx,ag]
inductive gS (x:List UInt8) (gs:List Formula):List Formula->Prop
 |atom {t:Bool} {a:Name}:isName a=true->x=bG (t,a)->gS x gs (.atom t a::gs)
 |tensor {A B:Formula} {r:List Formula}:x=[42]->gs=A::B::r->gS x gs (.tensor A B::r)
 |par {A B:Formula} {r:List Formula}:x=[124]->gs=A::B::r->gS x gs (.par A B::r)
theorem mO{fs:List Formula}(h:fs.all good=true){x:List UInt8}{r:List (List UInt8)}(e:aM fs=x::r):∃gs,gs.all good=true/\r=aM gs/\gS x gs fs:=by
 cases fs with
 |nil=>cases e
 |cons A fs=>
  obtain⟨hA,hf⟩:=dX.mp h
  rw[cD] at e
  match A,hA,e with
  |.atom t a,hA,e=>
   injection e with e1 e2
   exact⟨fs,hf,e2.symm,.atom hA e1.symm⟩
  |.tensor A B,hA,e=>
   have h':=bS.mp hA
   have e':[42]::((nl A++nl B)++aM fs)=x::r:=e
   injection e' with e1 e2
   refine⟨A::B::fs,dX.mpr ⟨h'.1,dX.mpr ⟨h'.2,hf⟩⟩,?_,.tensor e1.symm rfl⟩
   rw[cD,cD,<-dh];exact e2.symm
  |.par A B,hA,e=>
   have h':=bS.mp hA
   have e':[124]::((nl A++nl B)++aM fs)=x::r:=e
   injection e' with e1 e2
   refine⟨A::B::fs,dX.mpr ⟨h'.1,dX.mpr ⟨h'.2,hf⟩⟩,?_,.par e1.symm rfl⟩
   rw[cD,cD,<-dh];exact e2.symm
theorem Eu{x:List UInt8}{gs fs fs':List Formula}(h:gS x gs fs)(h':gS x gs fs'):fs=fs':=by
 have na:∀{t:Bool} {a:Name},isName a=true->bG (t,a)≠[42]/\bG (t,a)≠[124]:=fun{t a} hn=>by
  have:=gR (t:=t) hn
  unfold bP at this
  rw[ag] at this
  exact⟨by simpa using this.1,by simpa using this.2⟩
 cases h with
 |atom hn e=>
  cases h' with
  |atom hn' e'=>
   have:=sR (x:=(_,_)) (y:=(_,_)) hn hn' (e.symm.trans e')
   injection this with i1 i2
   rw[i1,i2]
  |tensor e' _=>exact absurd (e.symm.trans e') (na hn).1
  |par e' _=>exact absurd (e.symm.trans e') (na hn).2
 |tensor e g=>
  cases h' with
  |atom hn' e'=>exact absurd (e'.symm.trans e) (na hn').1
  |tensor e' g'=>rw[g] at g';injection g' with a1 a2;injection a2 with a2 a3;rw[a1,a2,a3]
  |par e' _=>exact absurd (e.symm.trans e') (by decide)
 |par e g=>
  cases h' with
  |atom hn' e'=>exact absurd (e'.symm.trans e) (na hn').2
  |tensor e' _=>exact absurd (e.symm.trans e') (by decide)
  |par e' g'=>rw[g] at g';injection g' with a1 a2;injection a2 with a2 a3;rw[a1,a2,a3]
theorem mP:∀(xs:List (List UInt8)) (fs gs:List Formula),aM fs=xs->aM gs=xs->fs.all good=true->gs.all good=true->fs=gs:=by
 intro xs
 induction xs with
 |nil=>
  intro fs gs e1 e2 h1 h2
  have n:∀fs:List Formula,aM fs=[]->fs.all good=true->fs=[]:=fun fs e h=>by
   cases fs with
   |nil=>rfl
   |cons A r=>
    obtain⟨hA,_⟩:=dX.mp h
    rw[cD,List.append_eq_nil_iff] at e
    exact absurd e.1 (jY hA)
  rw[n fs e1 h1,n gs e2 h2]
 |cons x r ih=>
  intro fs gs e1 e2 h1 h2
  obtain⟨a,ha,ea,Ha⟩:=mO h1 e1
  obtain⟨b,hb,eb,Hb⟩:=mO h2 e2
  have:=ih a b ea.symm eb.symm ha hb
  subst this
  exact Eu Ha Hb
theorem Ew:∀(k:Nat) (fs:List Formula),fs.all good=true->∃gs,gs.all good=true/\(aM fs).drop k=aM gs:=by
 intro k
 induction k with
 |zero=>intro fs h;exact⟨fs,h,rfl⟩
 |succ k ih=>
  intro fs h
  cases e:aM fs with
  |nil=>exact⟨[],rfl,rfl⟩
  |cons x r=>
   obtain⟨gs,hg,er,_⟩:=mO h e
   rw[xR,er]
   exact ih gs hg
theorem step{fs gs:List Formula}(h:fs.all good=true){k:Nat}{x:List UInt8}(hx:(aM fs)[k]? =some x)(hg:gs.all good=true)(e:(aM fs).drop (k+1)=aM gs):
  ∃hs,hs.all good=true/\(aM fs).drop k=aM hs/\gS x gs hs:=by
 obtain⟨hs,h1,h2⟩:=Ew k fs h
 have hk:k<(aM fs).length:=(bC.mp hx).1
 have e2:(aM fs).drop k=x::(aM fs).drop (k+1):=by
  rw[fg hk]
  have:=(bC.mp hx).2
  rw[this]
 rw[h2] at e2
 obtain⟨gs',h3,h4,H⟩:=mO h1 e2
 have:=mP _ gs gs' e.symm h4.symm hg h3
 subst this
 exact⟨hs,h1,h2,H⟩
theorem gS.cases'{x:List UInt8}{gs hs:List Formula}(h:gS x gs hs):(∃t a,isName a=true/\x=bG (t,a)/\hs=.atom t a::gs)\/
  (∃c A B r,(c=42\/c=124)/\x=[c]/\gs=A::B::r/\hs=two c A B::r):=by
 cases h with
 |atom hn e=>exact .inl ⟨_,_,hn,e,rfl⟩
 |tensor e g=>exact .inr ⟨42,_,_,_,.inl rfl,e,g,rfl⟩
 |par e g=>exact .inr ⟨124,_,_,_,.inr rfl,e,g,rfl⟩
def hd:Formula->List UInt8
 |.atom t a=>bG (t,a)
 |.tensor _ _=>[42]
 |.par _ _=>[124]
 |_=>[]
def eM(n t:List UInt8):List UInt8:=if bP n=true then t else 40::(t++[41])
def fu(n m t:List UInt8):List UInt8:=if bP n=true\/n=m then t else 40::(t++[41])
theorem Ex{A:Formula}(h:good A=true):paren (signOf A !=0) (form A)=eM (hd A) (form A):=by
 match A,h with
 |.atom t a,h=>unfold eM;rw[if_pos (show bP (hd (.atom t a))=true from gR h)];rfl
 |.tensor A B,_=>rfl
 |.par A B,_=>rfl
theorem Ey{c:UInt8}(hc:c=42\/c=124){A:Formula}(h:good A=true):paren (signOf A !=0&&signOf A !=c) (form A)=fu (hd A) [c] (form A):=by
 match A,h with
 |.atom t a,h=>unfold fu;rw[if_pos (.inl (show bP (hd (.atom t a))=true from gR h))];rfl
 |.tensor A B,_=>rcases hc with rfl|rfl<;>rfl
 |.par A B,_=>rcases hc with rfl|rfl<;>rfl
theorem mQ{c:UInt8}(hc:c=42\/c=124){A B:Formula}(hA:good A=true)(hB:good B=true):form (two c A B)=eM (hd A) (form A)++([c]++fu (hd B) [c] (form B)):=by
 rw[<-Ex hA,<-Ey hc hB]
 rcases hc with rfl|rfl<;>rfl
theorem Ez{c:UInt8}(hc:c=42\/c=124)(A B:Formula):hd (two c A B)=[c]:=by rcases hc with rfl|rfl<;>rfl
theorem mR(n t:List UInt8):(eM n t).length<=t.length+2:=by
 unfold eM
 split
 ·omega
 ·simp
theorem mS(n m t:List UInt8):(fu n m t).length<=t.length+2:=by
 unfold fu
 split
 ·omega
 ·simp
theorem jZ:∀{A:Formula},good A=true->(∀n∈nl A,n.length<=100)->(form A).length<=105*(nl A).length
 |.atom t a,h,hb=>by
  have:=hb (bG (t,a)) (by simp[nl])
  have e:form (.atom t a)=bG (t,a):=rfl
  rw[e]
  show _<=105*1
  omega
 |.tensor A B,h,hb=>by
  have h':=bS.mp h
  have a1:=jZ h'.1 fun n hn=>hb n (by show n∈[42]::(nl A++nl B);simp[hn])
  have a2:=jZ h'.2 fun n hn=>hb n (by show n∈[42]::(nl A++nl B);simp[hn])
  have e:form (.tensor A B)=_:=mQ (c:=42) (.inl rfl) h'.1 h'.2
  have b1:=mR (hd A) (form A)
  have b2:=mS (hd B) [42] (form B)
  rw[e]
  show _<=105*([42]::(nl A++nl B)).length
  simp only[aS,aV,jU]
  omega
 |.par A B,h,hb=>by
  have h':=bS.mp h
  have a1:=jZ h'.1 fun n hn=>hb n (by show n∈[124]::(nl A++nl B);simp[hn])
  have a2:=jZ h'.2 fun n hn=>hb n (by show n∈[124]::(nl A++nl B);simp[hn])
  have e:form (.par A B)=_:=mQ (c:=124) (.inr rfl) h'.1 h'.2
  have b1:=mR (hd A) (form A)
  have b2:=mS (hd B) [124] (form B)
  rw[e]
  show _<=105*([124]::(nl A++nl B)).length
  simp only[aS,aV,jU]
  omega
 |.wth A B,h,_=>nomatch h
 |.plus A B,h,_=>nomatch h
 |.ofc A,h,_=>nomatch h
 |.whn A,h,_=>nomatch h
theorem yI{fs gs:List Formula}{k:Nat}(e:(aM fs).drop k=aM gs){A:Formula}(hA:A∈gs):(nl A).length<=(aM fs).length/\∀n∈nl A,n∈aM fs:=by
 have hm:∀n∈nl A,n∈aM gs:=fun n hn=>fh.mpr ⟨A,hA,hn⟩
 have hl:(nl A).length<=(aM gs).length:=by
  obtain⟨a,b,rfl⟩:=List.append_of_mem hA
  rw[ou,cD,aS,aS]
  omega
 refine⟨?_,fun n hn=>?_⟩
 ·rw[<-e,di] at hl;omega
 ·have:=hm n hn
  rw[<-e] at this
  exact oH this
end MF
namespace MT
open Vaneta MP MF
def kF(c:UInt8):List Text->List Text
 |[]=>[[c]]
 |[w]=>[w++[c]]
 |w::ws=>w::kF c ws
theorem sU(b:UInt8)(t:Text):cutAt b t≠[]:=by
 cases t with
 |nil=>exact fun e=>nomatch e
 |cons c r=>
  unfold cutAt
  split
  ·exact fun e=>nomatch e
  ·split<;>exact fun e=>nomatch e
theorem yJ(c:UInt8)(w:Text){ws:List Text}(h:ws≠[]):kF c (w::ws)=w::kF c ws:=by
 cases ws with
 |nil=>exact absurd rfl h
 |cons x r=>rfl
theorem yK(b c:UInt8):∀t:Text,cutAt b (t++[c])=if c=b then cutAt b t++[[]] else kF c (cutAt b t)
 |[]=>by
  show(if c=b then[]::cutAt b [] else _)=_
  split<;>rfl
 |d::t=>by
  have ih:=yK b c t
  have e1:cutAt b (d::t++[c])=if d=b then[]::cutAt b (t++[c]) else match cutAt b (t++[c]) with
   |w::ws=>(d::w)::ws
   |[]=>[[d]]:=rfl
  have e2:cutAt b (d::t)=if d=b then[]::cutAt b t else match cutAt b t with
   |w::ws=>(d::w)::ws
   |[]=>[[d]]:=rfl
  rw[e1,e2,ih]
  have hne:=sU b t
  by_cases hd:d=b
  ·rw[if_pos hd,if_pos hd]
   split
   ·rfl
   ·rw[yJ _ _ hne]
  ·rw[if_neg hd,if_neg hd]
   cases e:cutAt b t with
   |nil=>exact absurd e hne
   |cons w ws=>
    dsimp only
    by_cases hc:c=b
    ·rw[if_pos hc,if_pos hc];rfl
    ·rw[if_neg hc,if_neg hc]
     cases ws with
     |nil=>rfl
     |cons x r=>rfl
theorem yL(c:UInt8):∀(ws:List Text) (w:Text),kF c (ws++[w])=ws++[w++[c]]
 |[],w=>rfl
 |x::r,w=>by
  show kF c (x::(r++[w]))=_
  rw[yJ _ _ (by simp),yL c r w];rfl
theorem dropWhile_len(p:UInt8->Bool)(t:Text):(t.dropWhile p).length<=t.length:=(Dg p).length_le
def jE(k:Text->Option (List Token))(r:Text):Option (List Token):=match r with
 |111::s=>(k s).map fun l=>.arrow::l
 |_=>none
theorem mT(k:Text->Option (List Token))(s:Text):jE k (111::s)=(k s).map fun l=>.arrow::l:=rfl
theorem mU(k:Text->Option (List Token)){d:UInt8}(s:Text)(h:d≠111):jE k (d::s)=none:=by
 unfold jE
 split
 ·rename_i q;injection q with q _;exact absurd q h
 ·rfl
theorem sV(f:Nat)(c:UInt8)(r:Text):tokensFrom (f+1) (c::r)=
  if c=32 then tokensFrom f r
  else if isSign c=true then(tokensFrom f r).map fun l=>.sign c::l
  else if c=45 then jE (tokensFrom f) r
  else if isWord c=true then
   (if isName (c::r.takeWhile isWord)=true then(tokensFrom f (r.dropWhile isWord)).map fun l=>.name (c::r.takeWhile isWord)::l else none)
  else none:=rfl
theorem yM:∀(f g:Nat) (t:Text),t.length<f->t.length<g->tokensFrom f t=tokensFrom g t:=by
 intro f
 induction f with
 |zero=>intro g t h;omega
 |succ f ih=>
  intro g t hf hg
  cases g with
  |zero=>omega
  |succ g=>
   cases t with
   |nil=>rfl
   |cons c r=>
    rw[aV] at hf hg
    have ea:jE (tokensFrom f) r=jE (tokensFrom g) r:=by
     cases r with
     |nil=>rfl
     |cons d s=>
      rw[aV] at hf hg
      by_cases h:d=111
      ·subst h
       rw[mT,mT,ih g s (by omega) (by omega)]
      ·rw[mU _ _ h,mU _ _ h]
    rw[sV,sV,ih g r (by omega) (by omega),ih g (r.dropWhile isWord) (by have:=dropWhile_len isWord r;omega) (by have:=dropWhile_len isWord r;omega),ea]
theorem sW(c:UInt8)(r:Text):tokens (c::r)=
  if c=32 then tokens r
  else if isSign c=true then(tokens r).map fun l=>.sign c::l
  else if c=45 then jE tokens r
  else if isWord c=true then
   (if isName (c::r.takeWhile isWord)=true then(tokens (r.dropWhile isWord)).map fun l=>.name (c::r.takeWhile isWord)::l else none)
  else none:=by
 have ea:jE (tokensFrom (r.length+1)) r=jE tokens r:=by
  cases r with
  |nil=>rfl
  |cons d s=>
   by_cases h:d=111
   ·subst h
    rw[mT,mT]
    unfold tokens
    rw[yM ((111::s).length+1) (s.length+1) s (by rw[aV];omega) (by omega)]
   ·rw[mU _ _ h,mU _ _ h]
 have eb:tokensFrom (r.length+1) (r.dropWhile isWord)=tokens (r.dropWhile isWord):=yM _ _ _ (by have:=dropWhile_len isWord r;omega) (by omega)
 show tokensFrom ((c::r).length+1) (c::r)=_
 rw[aV,sV,ea,eb]
 rfl
def du:Token->List UInt8
 |.name a=>a
 |.sign c=>[c]
 |.arrow=>[45,111]
def eW(n:List UInt8):Bool:=(decide (1<=n.length)&&decide (n.length<=12))&&(n.head?).any isSmall
def i9(c:UInt8):Bool:=c==126||(c==42||(c==124||(c==40||c==41)))
def fw(t:Text):Option (List UInt8):=
 if(t.head?).any i9=true then some (t.take 1)
 else if t.take 2=[45,111] then some [45,111]
 else if eW (t.takeWhile isWord)=true then some (t.takeWhile isWord) else none
theorem sX{t:Text}(h:t.all isWord=true):isName t=eW t:=by
 unfold isName eW
 rw[h,Bool.and_true]
 cases t with
 |nil=>rfl
 |cons c r=>
  rw[show decide (1<=(c::r).length)=true from decide_eq_true (by rw[aV];omega),gz,Bool.and_comm]
theorem sY(p:UInt8->Bool):∀t:Text,(t.takeWhile p).all p=true
 |[]=>rfl
 |c::r=>by
  rw[ll]
  split
  ·rename_i h;rw[bx,h,sY p r];rfl
  ·rfl
theorem yN(p:UInt8->Bool):∀t:Text,t.drop (t.takeWhile p).length=t.dropWhile p
 |[]=>rfl
 |c::r=>by
  rw[ll,xS]
  split
  ·rw[aV,xR,yN p r]
  ·rfl
theorem FA{c:UInt8}(h:i9 c=true):isSign c=true/\dR (.sign c)=true/\c≠32:=by
 have:c=126\/c=42\/c=124\/c=40\/c=41:=by simpa [i9] using h
 rcases this with rfl|rfl|rfl|rfl|rfl<;>decide
theorem FB{t:Text}(h0:∀c r,t=c::r->c≠32){w:List UInt8}(h:fw t=some w):∃tk,du tk=w/\dS tk=true/\tokens t=(tokens (t.drop w.length)).map (fun l=>tk::l)/\1<=w.length/\w.length<=12:=by
 unfold fw at h
 cases t with
 |nil=>exact(nomatch (show none=some w from h))
 |cons c r=>
  have hc:=h0 c r rfl
  rw[sW,if_neg hc]
  split at h
  ·rename_i hs
   have hs:i9 c=true:=hs
   cases h
   obtain⟨h1,h2,_⟩:=FA hs
   rw[if_pos h1]
   exact⟨.sign c,rfl,h2,rfl,aY _,by show 1<=12;decide⟩
  ·rename_i hs
   have hs:¬i9 c=true:=hs
   split at h
   ·rename_i ha
    cases h
    match r,ha with
    |[],ha=>exact absurd ha (by simp)
    |d::s,ha=>
     have ha:[c,d]=[45,111]:=by simpa using ha
     injection ha with a1 a2
     injection a2 with a2 _
     subst a1 a2
     rw[if_neg (by decide),if_pos rfl,mT]
     exact⟨.arrow,rfl,rfl,rfl,by decide,by decide⟩
   ·rename_i ha
    split at h
    ·rename_i hn
     cases h
     have hw:isWord c=true:=by
      by_cases q:isWord c=true
      ·exact q
      ·rw[ll,if_neg q] at hn
       exact absurd hn (by decide)
     have et:(c::r).takeWhile isWord=c::r.takeWhile isWord:=by rw[ll,if_pos hw]
     have hn':isName (c::r.takeWhile isWord)=true:=by
      rw[<-et,sX (sY _ _)];exact hn
     have n1:¬isSign c=true:=by
      intro q
      have:c=126\/c=42\/c=124\/c=38\/c=43\/c=33\/c=63\/c=40\/c=41:=by simpa [isSign] using q
      rcases this with rfl|rfl|rfl|rfl|rfl|rfl|rfl|rfl|rfl<;>exact absurd hw (by decide)
     have n2:¬c=45:=by rintro rfl;exact absurd hw (by decide)
     rw[if_neg n1,if_neg n2,if_pos hw,if_pos hn',et]
     refine⟨.name (c::r.takeWhile isWord),rfl,hn',?_,?_,?_⟩
     ·rw[show(c::r).drop (c::r.takeWhile isWord).length=r.dropWhile isWord from yN isWord r]
     ·rw[aV];omega
     ·rw[et] at hn
      unfold eW at hn
      rw[ag,ag] at hn
      exact of_decide_eq_true hn.1.2
    ·cases h
theorem FC{t:Text}(h0:∀c r,t=c::r->c≠32)(hne:t≠[])(h:fw t=none):tokens t=none\/∃tk ts,tokens t=some (tk::ts)/\dR tk=false:=by
 unfold fw at h
 cases t with
 |nil=>exact absurd rfl hne
 |cons c r=>
  have hc:=h0 c r rfl
  rw[sW,if_neg hc]
  split at h
  ·cases h
  ·rename_i hs
   have hs:¬i9 c=true:=hs
   split at h
   ·cases h
   ·rename_i ha
    split at h
    ·cases h
    ·rename_i hn
     by_cases q:isSign c=true
     ·rw[if_pos q]
      cases e:tokens r with
      |none=>exact .inl rfl
      |some ts=>exact .inr ⟨.sign c,ts,rfl,dI.mpr hs⟩
     ·rw[if_neg q]
      left
      by_cases q2:c=45
      ·rw[if_pos q2]
       subst q2
       match r,ha with
       |[],_=>rfl
       |d::s,ha=>
        refine mU _ _ ?_
        rintro rfl
        exact absurd rfl ha
      ·rw[if_neg q2]
       by_cases q3:isWord c=true
       ·have et:(c::r).takeWhile isWord=c::r.takeWhile isWord:=by rw[ll,if_pos q3]
        rw[if_pos q3,if_neg]
        intro q4
        rw[<-et,sX (sY _ _)] at q4
        exact hn q4
       ·rw[if_neg q3]
def rd(t:Text):Option (List Token):=(tokens t).bind fun ts=>if ts.all dR=true then some ts else none
theorem FD:rd []=some []:=rfl
theorem sZ(r:Text):rd (32::r)=rd r:=by unfold rd;rw[sW,if_pos rfl]
theorem si{t:Text}(h0:∀c r,t=c::r->c≠32){w:List UInt8}(h:fw t=some w):∃tk,du tk=w/\dS tk=true/\rd t=(rd (t.drop w.length)).map (fun l=>tk::l)/\1<=w.length/\w.length<=12:=by
 obtain⟨tk,h1,h2,h3,h4,h5⟩:=FB h0 h
 refine⟨tk,h1,h2,?_,h4,h5⟩
 unfold rd
 rw[h3]
 cases e:tokens (t.drop w.length) with
 |none=>rfl
 |some ts=>
  show(if(tk::ts).all dR=true then some (tk::ts) else none)=(if ts.all dR=true then some ts else none).map _
  rw[bx,E3 h2,gz]
  split<;>rfl
theorem sj{t:Text}(h0:∀c r,t=c::r->c≠32)(hne:t≠[])(h:fw t=none):rd t=none:=by
 unfold rd
 rcases FC h0 hne h with e|⟨tk,ts,e,hk⟩
 ·rw[e];rfl
 ·rw[e]
  show(if(tk::ts).all dR=true then some (tk::ts) else none)=none
  rw[bx,hk];rfl
def dE(t:Text):Option Formula:=if 2000<t.length then none else(rd t).bind fun ts=>run ⟨[],[],true⟩ ts
theorem sk:∀(n:Nat) (t:Text),t.length<=n->∀{ts:List Token},rd t=some ts->ts.all dS=true:=by
 intro n
 induction n with
 |zero=>intro t h ts e;rw[oE.mp (rM.mp h)] at e;cases e;rfl
 |succ n ih=>
  intro t h ts e
  cases t with
  |nil=>cases e;rfl
  |cons c r=>
   rw[aV] at h
   by_cases hc:c=32
   ·subst hc
    rw[sZ] at e
    exact ih r (by omega) e
   ·have h0:∀c' r',c::r=c'::r'->c'≠32:=fun c' r' q=>by injection q with q _;rw[<-q];exact hc
    cases hk:fw (c::r) with
    |none=>rw[sj h0 (by simp) hk] at e;cases e
    |some w=>
     obtain⟨tk,h1,h2,h3,h4,h5⟩:=si h0 hk
     rw[h3] at e
     cases e2:rd ((c::r).drop w.length) with
     |none=>rw[e2] at e;cases e
     |some l=>
      rw[e2] at e
      cases e
      rw[bx,h2,ih _ (by rw[di,aV];omega) e2]
      rfl
theorem FE(t:Text):dE t=(formulaOf t).bind fun A=>if multiplicative A=true then some A else none:=by
 unfold dE formulaOf BYTES
 split
 ·rfl
 ·unfold rd
  cases e:tokens t with
  |none=>rfl
  |some ts=>
   show(if ts.all dR=true then some ts else none).bind _=(formulaIn ts).bind _
   by_cases h:ts.all dR=true
   ·rw[if_pos h]
    show run ⟨[],[],true⟩ ts=_
    rw[xp ts h]
    cases e2:formulaIn ts with
    |none=>rfl
    |some A=>
     have hg:good A=true:=xr e2 (sk t.length t (aY _) (by unfold rd;rw[e];show(if ts.all dR=true then some ts else none)=some ts;rw[if_pos h]))
     show some A=if multiplicative A=true then some A else none
     rw[if_pos (mJ hg)]
   ·rw[if_neg h]
    cases e2:formulaIn ts with
    |none=>rfl
    |some A=>
     show none=if multiplicative A=true then some A else none
     rw[if_neg]
     intro hm
     exact h (E2 e2 hm)
theorem FF{t:Text}{A:Formula}(h:dE t=some A):good A=true:=by
 unfold dE at h
 split at h
 ·cases h
 ·cases e:rd t with
  |none=>rw[e] at h;cases h
  |some ts=>
   rw[e] at h
   have hg:=sk t.length t (aY _) e
   have hk:ts.all dR=true:=by
    unfold rd at e
    cases e3:tokens t with
    |none=>rw[e3] at e;cases e
    |some us=>
     rw[e3] at e
     have e:(if us.all dR=true then some us else none)=some ts:=e
     split at e
     ·cases e;assumption
     ·cases e
   have h:run ⟨[],[],true⟩ ts=some A:=h
   rw[xp ts hk] at h
   exact xr h hg
theorem lD(b:UInt8):∀t:Text,(cutAt b t).length<=t.length+1/\∀w∈cutAt b t,w.length<=t.length
 |[]=>⟨aY _,fun w hw=>by
  have:w=[]:=by simpa [cutAt] using hw
  rw[this];exact aY _⟩
 |c::r=>by
  obtain⟨h1,h2⟩:=lD b r
  have e:cutAt b (c::r)=if c=b then[]::cutAt b r else match cutAt b r with
   |w::ws=>(c::w)::ws
   |[]=>[[c]]:=rfl
  rw[e]
  split
  ·refine⟨by simp only[aV];omega,fun w hw=>?_⟩
   rcases bc.mp hw with rfl|hw
   ·exact bF _
   ·have:=h2 w hw;simp only[aV];omega
  ·cases e2:cutAt b r with
   |nil=>exact absurd e2 (sU b r)
   |cons x ws=>
    rw[e2] at h1 h2
    dsimp only
    refine⟨by simp only[aV] at h1⊢;omega,fun w hw=>?_⟩
    rcases bc.mp hw with rfl|hw
    ·have:=h2 x bY;simp only[aV];omega
    ·have:=h2 w (ba _ hw);simp only[aV];omega
theorem FG:∀(n:Nat) (t:Text),t.length<=n->∀{ts:List Token},rd t=some ts->ts.length<=t.length:=by
 intro n
 induction n with
 |zero=>intro t h ts e;rw[oE.mp (rM.mp h)] at e;cases e;exact bF _
 |succ n ih=>
  intro t h ts e
  cases t with
  |nil=>cases e;exact bF _
  |cons c r=>
   rw[aV] at h
   by_cases hc:c=32
   ·subst hc
    rw[sZ] at e
    have:=ih r (by omega) e
    rw[aV];omega
   ·have h0:∀c' r',c::r=c'::r'->c'≠32:=fun c' r' q=>by injection q with q _;rw[<-q];exact hc
    cases hk:fw (c::r) with
    |none=>rw[sj h0 (by simp) hk] at e;cases e
    |some w=>
     obtain⟨tk,h1,h2,h3,h4,h5⟩:=si h0 hk
     rw[h3] at e
     cases e2:rd ((c::r).drop w.length) with
     |none=>rw[e2] at e;cases e
     |some l=>
      rw[e2] at e
      cases e
      have:=ih _ (by rw[di,aV];omega) e2
      rw[di,aV] at this
      rw[aV,aV];omega
end MT
namespace MS
open Vaneta MP MF
def gT:U->Bool
 |.tensor=>true
 |.par=>true
 |.arrow=>true
 |_=>false
def ia(un:List U):Nat:=(un.filter gT).length
def sz(fi:List Formula):Nat:=(fi.map fun A=>(nl A).length+1).sum
theorem j5(x:U)(un:List U):ia (x::un)=(if gT x=true then 1 else 0)+ia un:=by
 unfold ia
 rw[jz]
 split
 ·rw[aV];omega
 ·omega
theorem fz(A:Formula)(fi:List Formula):sz (A::fi)=(nl A).length+1+sz fi:=by
 unfold sz;rw[bg,ki]
theorem mV:∀fi:List Formula,fi.length<=sz fi
 |[]=>aY _
 |A::fi=>by rw[fz,aV];have:=mV fi;omega
theorem so:∀{fi:List Formula} {A:Formula},A∈fi->(nl A).length+1<=sz fi
 |B::fi,A,h=>by
  rw[fz]
  rcases bc.mp h with rfl|h
  ·omega
  ·have:=so h;omega
theorem mW{A:Formula}(h:good A=true):(nl (dual A)).length=(nl A).length:=by rw[i8 h,aL]
structure aw (un:List U) (fi:List Formula):Prop where
 good:fi.all good=true
 bal:ia un+1=fi.length
theorem aw.two{x:U}{un:List U}{fi:List Formula}(h:aw (x::un) fi)(hx:gT x=true):∃B A r,fi=B::A::r:=by
 have b:=h.bal
 rw[j5,if_pos hx] at b
 match fi,b with
 |[],b=>simp at b
 |[_],b=>simp at b
 |B::A::r,_=>exact⟨B,A,r,rfl⟩
theorem aw.one{un:List U}{fi:List Formula}(h:aw un fi):∃A r,fi=A::r:=by
 have b:=h.bal
 match fi,b with
 |[],b=>simp at b
 |A::r,_=>exact⟨A,r,rfl⟩
theorem aw.joined{x:U}{un:List U}{A B:Formula}{r:List Formula}(h:aw (x::un) (B::A::r))(hx:gT x=true):aw un (joined x A B::r)/\sz (joined x A B::r)+un.length+1=sz (B::A::r)+(x::un).length:=by
 have g:=h.good
 rw[bx,bx,ag,ag] at g
 have b:=h.bal
 rw[j5,if_pos hx,aV,aV] at b
 have gj:MP.good (MP.joined x A B)=true:=by
  match x,hx with
  |.tensor,_=>show(MP.good A&&MP.good B)=true;rw[g.2.1,g.1];rfl
  |.par,_=>show(MP.good A&&MP.good B)=true;rw[g.2.1,g.1];rfl
  |.arrow,_=>show(MP.good (dual A)&&MP.good B)=true;rw[eV,g.2.1,g.1];rfl
 have lj:(nl (MP.joined x A B)).length=1+(nl A).length+(nl B).length:=by
  match x,hx with
  |.tensor,_=>show([42]::(nl A++nl B)).length=_;rw[aV,aS];omega
  |.par,_=>show([124]::(nl A++nl B)).length=_;rw[aV,aS];omega
  |.arrow,_=>show([124]::(nl (dual A)++nl B)).length=_;rw[aV,aS,mW g.2.1];omega
 refine⟨⟨by rw[bx,gj,g.2.2];rfl,by rw[aV];omega⟩,?_⟩
 rw[fz,fz,fz,lj,aV]
 omega
theorem aw.dual{un:List U}{A:Formula}{r:List Formula}(h:aw (.tilde::un) (A::r)):aw un (lp A::r)/\sz (lp A::r)+un.length+1=sz (A::r)+(U.tilde::un).length:=by
 have g:=h.good
 rw[bx,ag] at g
 have b:=h.bal
 rw[j5,if_neg (by decide),aV] at b
 refine⟨⟨by rw[bx,eV,g.1,g.2];rfl,by rw[aV];omega⟩,?_⟩
 rw[fz,fz,mW g.1,aV]
 omega
theorem aw.endPart:∀{un:List U} {fi:List Formula},aw un fi->aw (endPart un fi).1 (endPart un fi).2/\sz (endPart un fi).2+(endPart un fi).1.length<=sz fi+un.length
 |[],fi,h=>by rw[kE (by simp)];exact⟨h,aY _⟩
 |.tilde::un,[],h=>by have:=h.bal;simp at this
 |.tilde::un,A::r,h=>by
  obtain⟨h1,h2⟩:=h.dual
  obtain⟨h3,h4⟩:=aw.endPart h1
  exact⟨h3,by show sz (MP.endPart un (lp A::r)).2+(MP.endPart un (lp A::r)).1.length<=_;omega⟩
 |.left::un,fi,h=>by rw[kE (by simp)];exact⟨h,aY _⟩
 |.tensor::un,fi,h=>by rw[kE (by simp)];exact⟨h,aY _⟩
 |.par::un,fi,h=>by rw[kE (by simp)];exact⟨h,aY _⟩
 |.arrow::un,fi,h=>by rw[kE (by simp)];exact⟨h,aY _⟩
def ib:Option U->Bool
 |some .tensor=>true
 |some .par=>true
 |_=>false
def j6:Option U->Bool
 |some .tensor=>true
 |some .par=>true
 |some .arrow=>true
 |_=>false
theorem yO{x:U}{un:List U}{A B:Formula}{r:List Formula}(h:ib (some x)=true):endChain (x::un) (B::A::r)=endChain un (joined x A B::r):=by
 match x,h with
 |.tensor,_=>rfl
 |.par,_=>rfl
theorem yP{x:U}{un:List U}{A B:Formula}{r:List Formula}(h:j6 (some x)=true):endForm (x::un) (B::A::r)=endForm un (joined x A B::r):=by
 match x,h with
 |.tensor,_=>rfl
 |.par,_=>rfl
 |.arrow,_=>rfl
theorem sq{un:List U}{fi:List Formula}(h:ib un.head?=false):endChain un fi=(un,fi):=by
 match un,h with
 |[],_=>rfl
 |.tilde::_,_=>rfl
 |.left::_,_=>rfl
 |.arrow::_,_=>rfl
theorem sr{un:List U}{fi:List Formula}(h:j6 un.head?=false):endForm un fi=(un,fi):=by
 match un,h with
 |[],_=>rfl
 |.tilde::_,_=>rfl
 |.left::_,_=>rfl
theorem yQ{o:Option U}(h:ib o=true):j6 o=true:=by
 match o,h with
 |some .tensor,_=>rfl
 |some .par,_=>rfl
theorem ox{x:U}:j6 (some x)=gT x:=by cases x<;>rfl
theorem aw.endChain:∀{un:List U} {fi:List Formula},aw un fi->aw (endChain un fi).1 (endChain un fi).2/\sz (endChain un fi).2+(endChain un fi).1.length<=sz fi+un.length:=by
 intro un
 induction un with
 |nil=>intro fi h;rw[sq rfl];exact⟨h,aY _⟩
 |cons x un ih=>
  intro fi h
  by_cases hx:ib (some x)=true
  ·have hb:gT x=true:=by rw[<-ox];exact yQ hx
   obtain⟨B,A,r,rfl⟩:=h.two hb
   obtain⟨h1,h2⟩:=h.joined hb
   obtain⟨h3,h4⟩:=ih h1
   rw[yO hx]
   exact⟨h3,by omega⟩
  ·rw[sq (by simpa using hx)];exact⟨h,aY _⟩
theorem aw.endForm:∀{un:List U} {fi:List Formula},aw un fi->aw (endForm un fi).1 (endForm un fi).2/\sz (endForm un fi).2+(endForm un fi).1.length<=sz fi+un.length:=by
 intro un
 induction un with
 |nil=>intro fi h;rw[sr rfl];exact⟨h,aY _⟩
 |cons x un ih=>
  intro fi h
  by_cases hx:j6 (some x)=true
  ·have hb:gT x=true:=by rw[<-ox];exact hx
   obtain⟨B,A,r,rfl⟩:=h.two hb
   obtain⟨h1,h2⟩:=h.joined hb
   obtain⟨h3,h4⟩:=ih h1
   rw[yP hx]
   exact⟨h3,by omega⟩
  ·rw[sr (by simpa using hx)];exact⟨h,aY _⟩
structure Ok (st:St):Prop where
 good:st.fi.all good=true
 bal:ia st.un+(if st.want=true then 0 else 1)=st.fi.length
def gU(st:St):Nat:=sz st.fi+st.un.length
theorem Ok.fit{st:St}(h:Ok st)(hw:st.want=false):aw st.un st.fi:=⟨h.good,by have:=h.bal;rw[hw] at this;exact this⟩
theorem aw.ok{un:List U}{fi:List Formula}(h:aw un fi):Ok ⟨un,fi,false⟩:=⟨h.good,h.bal⟩
theorem yR{un:List U}{fi:List Formula}(h:aw (.left::un) fi):aw un fi:=⟨h.good,by have:=h.bal;rw[j5,if_neg (by decide)] at this;omega⟩
theorem yS{st:St}(h:Ok st)(hw:st.want=true){a:Name}(ha:isName a=true):aw st.un (.atom false a::st.fi):=by
 have b:=h.bal
 rw[hw,if_pos rfl] at b
 refine⟨?_,by rw[aV];omega⟩
 rw[bx,h.good,show MP.good (.atom false a)=isName a from rfl,ha];rfl
theorem FH{st st':St}{tk:Token}(h:Ok st)(hk:dS tk=true)(e:take st tk=some st'):Ok st'/\gU st'<=gU st+2:=by
 unfold take at e
 have lid':∀{x:Option St},x.bind lid=some st'->x=some st':=fun{x} q=>by
  cases x with
  |none=>cases q
  |some y=>
   have q:lid y=some st':=q
   unfold lid at q
   split at q
   ·exact q
   ·cases q
 have e:=lid' e
 by_cases hw:st.want=true
 ·rw[if_pos hw] at e
  have b:=h.bal
  rw[hw,if_pos rfl] at b
  match tk,hk with
  |.name a,hk=>
   cases e
   obtain⟨h1,h2⟩:=(yS h hw hk).endPart
   refine⟨h1.ok,?_⟩
   rw[fz] at h2
   have:(nl (Formula.atom false a)).length=1:=rfl
   show sz (endPart st.un (.atom false a::st.fi)).2+(endPart st.un (.atom false a::st.fi)).1.length<=sz st.fi+st.un.length+2
   omega
  |.arrow,_=>cases e
  |.sign c,_=>
   have e:(if c=126 then some (⟨.tilde::st.un,st.fi,true⟩:St) else if c=40 then some ⟨.left::st.un,st.fi,true⟩ else none)=some st':=e
   split at e
   ·cases e
    exact⟨⟨h.good,by show ia (.tilde::st.un)+0=st.fi.length;rw[j5,if_neg (by decide)];omega⟩,by show sz st.fi+(st.un.length+1)<=sz st.fi+st.un.length+2;omega⟩
   ·split at e
    ·cases e
     exact⟨⟨h.good,by show ia (.left::st.un)+0=st.fi.length;rw[j5,if_neg (by decide)];omega⟩,by show sz st.fi+(st.un.length+1)<=sz st.fi+st.un.length+2;omega⟩
    ·cases e
 ·rw[if_neg hw] at e
  have F:=h.fit (by simpa using hw)
  have b:=F.bal
  match tk,hk with
  |.name a,_=>cases e
  |.arrow,_=>
   cases e
   obtain⟨h1,h2⟩:=F.endChain
   have b1:=h1.bal
   refine⟨⟨h1.good,?_⟩,?_⟩
   ·show ia (.arrow::(endChain st.un st.fi).1)+0=(endChain st.un st.fi).2.length
    rw[j5,if_pos (show gT U.arrow=true from rfl)];omega
   ·show sz (endChain st.un st.fi).2+((endChain st.un st.fi).1.length+1)<=sz st.fi+st.un.length+2
    omega
  |.sign c,_=>
   have e:(if c=42\/c=124 then fP st c else if c=41 then jW st else none)=some st':=e
   split at e
   ·rename_i hc
    unfold fP at e
    split at e
    ·cases e
     refine⟨⟨h.good,?_⟩,by show sz st.fi+(st.un.length+1)<=sz st.fi+st.un.length+2;omega⟩
     show ia (dJ c::st.un)+0=st.fi.length
     rw[j5,if_pos (by rcases hc with rfl|rfl<;>rfl)];omega
    ·cases e
   ·split at e
    ·obtain⟨h1,h2⟩:=F.endForm
     unfold jW at e
     cases e2:endForm st.un st.fi with
     |mk u f=>
      rw[e2] at e h1 h2
      match u,e,h1,h2 with
      |.left::u,e,h1,h2=>
       cases e
       obtain⟨h3,h4⟩:=(yR h1).endPart
       refine⟨h3.ok,?_⟩
       have h2:sz f+(u.length+1)<=sz st.fi+st.un.length:=h2
       have h4:sz (endPart u f).2+(endPart u f).1.length<=sz f+u.length:=h4
       show sz (endPart u f).2+(endPart u f).1.length<=sz st.fi+st.un.length+2
       omega
    ·cases e
end MS
namespace MR
open Vaneta MP MF MT
open Vanetc (numberOf pairOf risingFirst trimmed pairsOf partsOf isDigit)
theorem kG{α:Type}:∀{l:List (Option α)},none∈l->allOf l=none
 |none::l,_=>rfl
 |some a::l,h=>by
  have h':none∈l:=by simpa using h
  show(allOf l).map _=none
  rw[kG h'];rfl
theorem lE{α:Type}:∀{l:List (Option α)},none∉l->∃fs,allOf l=some fs/\l=fs.map some
 |[],_=>⟨[],rfl,rfl⟩
 |none::l,h=>absurd bY h
 |some a::l,h=>by
  obtain⟨fs,h1,h2⟩:=lE (l:=l) fun q=>h (ba _ q)
  exact⟨a::fs,by show(allOf l).map _=_;rw[h1];rfl,by rw[h2];rfl⟩
theorem FI{α:Type}(fs:List α):allOf (fs.map some)=some fs:=by
 induction fs with
 |nil=>rfl
 |cons a r ih=>show(allOf (r.map some)).map _=_;rw[ih];rfl
def iC(fs:List Formula):Option (List Formula):=if fs.all multiplicative=true then some fs else none
def c5(t:Text):Option (List Formula):=if t.all (fun b=>b==32)=true then some [] else if 20<(cutAt 44 t).length then none else allOf ((cutAt 44 t).map dE)
theorem yT:∀ts:List Text,allOf (ts.map dE)=(allOf (ts.map formulaOf)).bind iC
 |[]=>rfl
 |t::ts=>by
  show(dE t).bind (fun a=>(allOf (ts.map dE)).map fun l=>a::l)=((formulaOf t).bind fun a=>(allOf (ts.map formulaOf)).map fun l=>a::l).bind iC
  rw[yT ts,FE]
  cases formulaOf t with
  |none=>rfl
  |some A=>
   show(if multiplicative A=true then some A else none).bind _=((allOf (ts.map formulaOf)).map fun l=>A::l).bind iC
   cases allOf (ts.map formulaOf) with
   |none=>
    show(if multiplicative A=true then some A else none).bind (fun _=>none)=none
    split<;>rfl
   |some fs=>
    show _=if(A::fs).all multiplicative=true then some (A::fs) else none
    rw[bx]
    by_cases h:multiplicative A=true
    ·rw[if_pos h,h,gz]
     show(iC fs).map (fun l=>A::l)=_
     unfold iC
     split<;>rfl
    ·rw[if_neg h,dI.mpr h,lu];rfl
theorem yU(t:Text):c5 t=(sequentOf t).bind iC:=by
 unfold c5 sequentOf
 split
 ·rfl
 ·split
  ·rfl
  ·exact yT _
theorem yV{t:Text}{fs:List Formula}(h:c5 t=some fs):fs.all good=true:=by
 unfold c5 at h
 split at h
 ·cases h;rfl
 ·split at h
  ·cases h
  ·by_cases hn:none∈(cutAt 44 t).map dE
   ·rw[kG hn] at h;cases h
   ·obtain⟨gs,h1,h2⟩:=lE hn
    rw[h1] at h
    cases h
    rw[cJ]
    intro A hA
    have:some A∈(cutAt 44 t).map dE:=by rw[h2];exact cT.mpr ⟨A,hA,rfl⟩
    obtain⟨p,_,hp⟩:=cT.mp this
    exact FF hp
theorem yW{t:Text}{fs:List Formula}(h:c5 t=some fs):fs.length<=20:=by
 unfold c5 at h
 split at h
 ·cases h;exact bF _
 ·split at h
  ·cases h
  ·by_cases hn:none∈(cutAt 44 t).map dE
   ·rw[kG hn] at h;cases h
   ·obtain⟨gs,h1,h2⟩:=lE hn
    rw[h1] at h
    cases h
    have:=congrArg rR h2
    rw[aL,aL] at this
    omega
def gV(t:Text):Option (List Formula×List Formula×List (Nat×Nat)):=match cutAt 59 t with
 |[a,b,c]=>(c5 a).bind fun x=>(c5 b).bind fun y=>(pairsOf c).map fun z=>(x,y,z)
 |_=>none
theorem yX(t:Text):gV t=partsOf t:=by
 unfold gV partsOf
 generalize cutAt 59 t=l
 match l with
 |[]=>rfl
 |[_]=>rfl
 |[_,_]=>rfl
 |_::_::_::_::_=>rfl
 |[a,b,c]=>
  dsimp only
  rw[yU,yU]
  cases sequentOf a with
  |none=>rfl
  |some x=>
   cases sequentOf b with
   |none=>
    show(iC x).bind (fun _=>none)=none
    cases iC x<;>rfl
   |some y=>
    show(iC x).bind (fun x=>(iC y).bind fun y=>(pairsOf c).map fun z=>(x,y,z))=if(x++y).all multiplicative=true then(pairsOf c).map (fun z=>(x,y,z)) else none
    rw[jA]
    unfold iC
    by_cases h1:x.all multiplicative=true
    ·rw[if_pos h1,h1,gz]
     show(if y.all multiplicative=true then some y else none).bind _=_
     split<;>rfl
    ·rw[if_neg h1,dI.mpr h1,lu];rfl
theorem FJ{t:Text}{a e:Nat}(hae:a<=e)(he:e<=t.length)(h1:∀j c,j<a->t[j]? =some c->c=32)(h2:∀j c,e<=j->t[j]? =some c->c=32)
  (h3:a=e\/((∃c,t[a]? =some c/\c≠32)/\∃c,t[e-1]? =some c/\c≠32)):trimmed t=(t.drop a).take (e-a):=by
 have dw:∀(l m:Text),(∀c∈l,c=32)->(l++m).dropWhile (fun b=>b==32)=m.dropWhile fun b=>b==32:=by
  intro l m h
  induction l with
  |nil=>rfl
  |cons c r ih=>
   have hc:c=32:=h c bY
   rw[oI,xS,if_pos (by rw[hc];rfl)]
   exact ih fun x hx=>h x (ba _ hx)
 have all32:∀(l:Text),(∀c∈l,c=32)->l.dropWhile (fun b=>b==32)=[]:=fun l h=>by
  have:=dw l [] h
  rw[d8] at this
  exact this
 have ea:t=t.take a++((t.drop a).take (e-a)++t.drop e):=by
  have e1:t.drop e=(t.drop a).drop (e-a):=by rw[rS];congr 1;omega
  rw[e1,ly,ly]
 have p1:∀c∈t.take a,c=32:=fun c hc=>by
  obtain⟨j,hj,q⟩:=rO hc
  have hj':j<a:=by rw[cM] at hj;omega
  refine h1 j c hj' ?_
  rw[<-q,List.getElem_take,bU]
 have p2:∀c∈t.drop e,c=32:=fun c hc=>by
  obtain⟨j,hj,q⟩:=rO hc
  refine h2 (e+j) c (by omega) ?_
  rw[<-q,List.getElem_drop,bU]
 unfold trimmed
 have s1:t.dropWhile (fun b=>b==32)=((t.drop a).take (e-a)++t.drop e).dropWhile fun b=>b==32:=by
  conv=>lhs;rw[ea]
  exact dw _ _ p1
 rw[s1]
 rcases h3 with h3|⟨⟨c,hc,hcn⟩,d,hd,hdn⟩
 ·subst h3
  rw[kj,oG,List.nil_append,all32 _ p2]
  rfl
 ·have hlt:a<e:=by
   by_cases q:a<e
   ·exact q
   ·have:a=e:=by omega
    exact absurd (h2 a c (by omega) hc) hcn
  have hat:a<t.length:=by omega
  have e3:(t.drop a).take (e-a)=c::(t.drop (a+1)).take (e-a-1):=by
   rw[fg hat,(bC.mp hc).2]
   obtain⟨k,hk⟩:∃k,e-a=k+1:=⟨e-a-1,by omega⟩
   rw[hk,oJ];rfl
  have e4:((t.drop a).take (e-a)++t.drop e).dropWhile (fun b=>b==32)=(t.drop a).take (e-a)++t.drop e:=by
   rw[e3,oI,xS,if_neg (by simpa using hcn)]
  rw[e4,Lz,dw _ _ (fun x hx=>p2 x (List.mem_reverse.mp hx))]
  have e5:(t.drop a).take (e-a)=(t.drop a).take (e-a-1)++[d]:=by
   have hk:(t.drop a)[e-a-1]? =some d:=by
    rw[MA,show a+(e-a-1)=e-1 by omega];exact hd
   obtain⟨k,hk2⟩:∃k,e-a=k+1:=⟨e-a-1,by omega⟩
   rw[hk2] at hk⊢
   rw[show k+1-1=k by omega] at hk⊢
   rw[List.take_succ,hk];rfl
  rw[e5,Lz,List.reverse_singleton,List.singleton_append,xS,if_neg (by simpa using hdn),eU,MB]
theorem su:∀(l:List (Nat×Nat)) (x:Nat×Nat),risingFirst (l++[x])=(risingFirst l&&(match l.getLast? with
  |some y=>decide (y.1<x.1)
  |none=>true))
 |[],x=>rfl
 |[y],x=>by
  show(decide (y.1<x.1)&&true)=(true&&decide (y.1<x.1))
  rw[Bool.and_true,gz]
 |y::z::r,x=>by
  have ih:=su (z::r) x
  show(decide (y.1<z.1)&&risingFirst (z::r++[x]))=((decide (y.1<z.1)&&risingFirst (z::r))&&_)
  rw[ih,Bool.and_assoc]
  rfl
theorem yY:∀(l m:List (Nat×Nat)),risingFirst (l++m)=true->risingFirst l=true
 |l,[],h=>by rw[d8] at h;exact h
 |l,x::m,h=>by
  have:=yY (l++[x]) m (by rw[dh];exact h)
  rw[su,ag] at this
  exact this.1
end MR
namespace ML
open Vaneta Vanetc
theorem FK:∀(n:Nat) (l:List Nat),l.length<=n->l.eraseDups.length<=l.length:=by
 intro n
 induction n with
 |zero=>intro l h;rw[oE.mp (rM.mp h)];exact aY _
 |succ n ih=>
  intro l h
  cases l with
  |nil=>exact aY _
  |cons a r=>
   rw[DZ,aV,aV]
   rw[aV] at h
   have h1:=oC (fun b=> !b==a) r
   have h2:=ih (r.filter fun b=> !b==a) (by omega)
   omega
theorem FL:∀(n:Nat) (l:List Nat),l.length<=n->l.eraseDups.length=l.length->l.Nodup:=by
 intro n
 induction n with
 |zero=>intro l h _;rw[oE.mp (rM.mp h)];exact rN
 |succ n ih=>
  intro l h e
  cases l with
  |nil=>exact rN
  |cons a r=>
   rw[DZ,aV,aV] at e
   rw[aV] at h
   have h1:=oC (fun b=> !b==a) r
   have h2:=FK n (r.filter fun b=> !b==a) (by omega)
   have h3:(r.filter fun b=> !b==a).length=r.length:=by omega
   have h4:∀b∈r,(!b==a)=true:=List.length_filter_eq_length_iff.mp h3
   have h5:(r.filter fun b=> !b==a)=r:=List.filter_eq_self.mpr h4
   rw[h5] at e
   refine jS.mpr ⟨fun hm=>?_,ih r (by omega) (by omega)⟩
   have:=h4 a hm
   simp at this
def nums(l:List (Nat×Nat)):List Nat:=l.flatMap fun x=>[x.1,x.2]
theorem yZ(l m:List (Nat×Nat)):nums (l++m)=nums l++nums m:=ff
theorem sv(n:Nat)(l:List (Nat×Nat)):oncePairs n l=true↔(∀i∈nums l,i<n)/\(nums l).Nodup:=by
 unfold oncePairs
 show((nums l).all (fun i=>decide (i<n))&&(nums l).eraseDups.length==(nums l).length)=true↔_
 rw[ag,cJ,beq_iff_eq]
 constructor
 ·rintro⟨h1,h2⟩
  exact⟨fun i hi=>of_decide_eq_true (h1 i hi),FL _ _ (aY _) h2⟩
 ·rintro⟨h1,h2⟩
  exact⟨fun i hi=>decide_eq_true (h1 i hi),MG.sD (MG.ku _) h2 fun x=>jT⟩
def lk(l:List (Nat×Nat))(i:Nat):Option Nat:=(l.find? fun x=>x.1==i||x.2==i).map fun x=>if x.1=i then x.2 else x.1
theorem sy(n:Nat)(l:List (Nat×Nat)):partnersOf n l=(bJ n).map fun i=>(lk l i).getD n:=by
 unfold partnersOf lk
 refine oK fun i _=>?_
 cases l.find? fun x=>x.1==i||x.2==i<;>rfl
theorem oy{l:List (Nat×Nat)}{i:Nat}:lk l i=none↔i∉nums l:=by
 unfold lk
 rw[Option.map_eq_none_iff,MC]
 constructor
 ·intro h hm
  obtain⟨x,hx,hi⟩:=fh.mp hm
  have:=h x hx
  have hi:i=x.1\/i=x.2:=by simpa using hi
  rcases hi with rfl|rfl<;>simp at this
 ·intro h x hx q
  refine h (fh.mpr ⟨x,hx,?_⟩)
  have q:x.1=i\/x.2=i:=by simpa using q
  rcases q with rfl|rfl<;>simp
theorem FM{l:List (Nat×Nat)}{i j:Nat}(h:lk l i=some j):(i,j)∈l\/(j,i)∈l:=by
 unfold lk at h
 cases e:l.find? fun x=>x.1==i||x.2==i with
 |none=>rw[e] at h;cases h
 |some x=>
  rw[e] at h
  have hm:=Dh e
  have hp:=List.find?_some e
  have hp:x.1=i\/x.2=i:=by simpa using hp
  have h':(if x.1=i then x.2 else x.1)=j:=bL h
  clear h e
  obtain⟨x1,x2⟩:=x
  dsimp only at hp h'
  split at h'
  ·rename_i q;rw[<-q,<-h'];exact .inl hm
  ·rename_i q
   rcases hp with hp|hp
   ·exact absurd hp q
   ·rw[<-hp,<-h'];exact .inr hm
theorem y4{l m:List (Nat×Nat)}{i:Nat}:lk (l++m) i=(lk l i).or (lk m i):=by
 unfold lk
 rw[Lu]
 cases l.find? fun x=>x.1==i||x.2==i<;>rfl
theorem tD(x:Nat×Nat)(i:Nat):lk [x] i=if x.1=i then some x.2 else if x.2=i then some x.1 else none:=by
 unfold lk
 rw[oF]
 by_cases h1:x.1=i
 ·simp[h1]
 ·by_cases h2:x.2=i
  ·simp[h1,h2]
  ·have e:(x.1==i||x.2==i)=false:=by simp[h1,h2]
   rw[e,if_neg h1,if_neg h2];rfl
theorem oz:∀{l:List (Nat×Nat)} {i j:Nat},(nums l).Nodup->(i,j)∈l->lk l i=some j/\lk l j=some i
 |x::l,i,j,hn,hm=>by
  have e:nums (x::l)=[x.1,x.2]++nums l:=rfl
  rw[e] at hn
  obtain⟨n1,n2,n3⟩:=rT.mp hn
  have c:∀k,lk (x::l) k=(lk [x] k).or (lk l k):=fun k=>y4 (l:=[x])
  rw[c,c,tD,tD]
  rcases bc.mp hm with hm|hm
  ·subst hm
   dsimp only
   rw[if_pos rfl]
   have hij:i≠j:=by
    have:=(jS.mp n1).1
    simpa using this
   rw[if_neg hij,if_pos rfl]
   exact⟨rfl,rfl⟩
  ·obtain⟨h1,h2⟩:=oz n2 hm
   have mi:i∈nums l:=fh.mpr ⟨(i,j),hm,by simp⟩
   have mj:j∈nums l:=fh.mpr ⟨(i,j),hm,by simp⟩
   have a1:x.1≠i:=n3 x.1 (by simp) i mi
   have a2:x.2≠i:=n3 x.2 (by simp) i mi
   have a3:x.1≠j:=n3 x.1 (by simp) j mj
   have a4:x.2≠j:=n3 x.2 (by simp) j mj
   rw[if_neg a1,if_neg a2,if_neg a3,if_neg a4,h1,h2]
   exact⟨rfl,rfl⟩
def fits(L:List (Bool×Name))(x:Nat×Nat):Bool:=match L[x.1]?,L[x.2]? with
 |some a,some b=>fitting a b
 |_,_=>false
theorem y6(a b:Bool×Name):fitting a b=fitting b a:=by
 unfold fitting
 rw[ck,ag,ag,beq_iff_eq,beq_iff_eq,bne_iff_ne,bne_iff_ne]
 exact⟨fun h=>⟨h.1.symm,h.2.symm⟩,fun h=>⟨h.1.symm,h.2.symm⟩⟩
theorem pC{n i:Nat}{l:List (Nat×Nat)}(hi:i<n):(partnersOf n l)[i]? =some ((lk l i).getD n):=by
 rw[sy,bo,jy hi];rfl
theorem pD(n:Nat)(l:List (Nat×Nat)):(partnersOf n l).length=n:=by rw[sy,aL,cS]
theorem y8{L:List (Bool×Name)}{l:List (Nat×Nat)}(h1:∀i∈nums l,i<L.length)(h2:(nums l).Nodup):
  linked L (partnersOf L.length l)=true↔(∀x∈l,fits L x=true)/\∀i,i<L.length->lk l i≠none:=by
 unfold linked
 rw[pD]
 rw[ag,beq_iff_eq,cJ]
 constructor
 ·rintro⟨_,h⟩
  have hk:∀i,i<L.length->lk l i≠none:=fun i hi e=>by
   have:=h i (fN.mpr hi)
   rw[pC hi,e] at this
   have hge:(partnersOf L.length l)[L.length]? =none:=iW (by rw[pD];exact aY _)
   have this:((partnersOf L.length l)[L.length]? ==some i&&_)=true:=this
   rw[hge,ag] at this
   exact absurd this.1 (by simp)
  refine⟨fun x hx=>?_,hk⟩
  have m1:x.1∈nums l:=fh.mpr ⟨x,hx,by simp⟩
  have q:=h x.1 (fN.mpr (h1 _ m1))
  obtain⟨e1,e2⟩:=oz (i:=x.1) (j:=x.2) h2 hx
  rw[pC (h1 _ m1),e1] at q
  have q:((partnersOf L.length l)[x.2]? ==some x.1&&fits L x)=true:=q
  rw[ag] at q
  exact q.2
 ·rintro⟨h,hk⟩
  refine⟨rfl,fun i hi=>?_⟩
  have hi:=fN.mp hi
  cases e:lk l i with
  |none=>exact absurd e (hk i hi)
  |some j=>
   rw[pC hi,e]
   show((partnersOf L.length l)[j]? ==some i&&fits L (i,j))=true
   have key:lk l j=some i/\j<L.length/\fits L (i,j)=true:=by
    rcases FM e with hm|hm
    ·exact⟨(oz h2 hm).2,h1 _ (fh.mpr ⟨(i,j),hm,by simp⟩),h _ hm⟩
    ·refine⟨(oz h2 hm).1,h1 _ (fh.mpr ⟨(j,i),hm,by simp⟩),?_⟩
     have:=h _ hm
     unfold fits at this⊢
     dsimp only at this⊢
     cases q1:L[i]? <;>cases q2:L[j]? <;>rw[q1,q2] at this
     ·exact this
     ·exact this
     ·exact this
     ·exact(y6 _ _).trans this
   rw[pC key.2.1,key.1,key.2.2]
   simp
def row(n:Nat)(l:List (Nat×Nat)):List (Option Nat):=(bJ n).map fun i=>lk l i
theorem mX{n i:Nat}{l:List (Nat×Nat)}(hi:i<n):(row n l)[i]? =some (lk l i):=by
 unfold row
 rw[bo,jy hi];rfl
theorem lF(n:Nat)(l:List (Nat×Nat)):(row n l).length=n:=by unfold row;rw[aL,cS]
theorem FN{n:Nat}{l:List (Nat×Nat)}{x:Nat×Nat}(hx:x.1<x.2)(h1:lk l x.1=none)(h2:lk l x.2=none):row n (l++[x])=((row n l).set x.1 (some x.2)).set x.2 (some x.1):=by
 refine rV fun i=>?_
 by_cases hi:i<n
 ·rw[mX hi,y4,tD,l8,l8,cP,lF,mX hi]
  by_cases e2:x.2=i
  ·subst e2
   rw[h2,if_neg (by omega),if_pos rfl,if_pos rfl,if_pos hi];rfl
  ·rw[if_neg e2,if_neg e2]
   by_cases e1:x.1=i
   ·subst e1
    rw[h1,if_pos rfl,if_pos rfl,if_pos hi];rfl
   ·rw[if_neg e1,if_neg e1]
    cases lk l i<;>rfl
 ·rw[iW (by rw[lF];omega),iW (by rw[cP,cP,lF];omega)]
theorem FO(l:List (Nat×Nat))(x:Nat×Nat):nums (l++[x])=nums l++[x.1,x.2]:=yZ l [x]
theorem more{n:Nat}{l:List (Nat×Nat)}{x:Nat×Nat}(hx:x.1<x.2)(h1:∀i∈nums l,i<n)(h2:(nums l).Nodup)(hn:x.2<n)(e1:lk l x.1=none)(e2:lk l x.2=none):(∀i∈nums (l++[x]),i<n)/\(nums (l++[x])).Nodup:=by
 rw[FO]
 refine⟨fun i hi=>?_,rT.mpr ⟨h2,?_,fun a ha b hb=>?_⟩⟩
 ·rcases dD.mp hi with hi|hi
  ·exact h1 i hi
  ·have:i=x.1\/i=x.2:=by simpa using hi
   omega
 ·simp;omega
 ·have:b=x.1\/b=x.2:=by simpa using hb
  intro e
  rcases this with q|q
  ·exact oy.mp e1 (by rw[<-q,<-e];exact ha)
  ·exact oy.mp e2 (by rw[<-q,<-e];exact ha)
theorem FP{n:Nat}{l m:List (Nat×Nat)}{x:Nat×Nat}(h:n<=x.2\/lk l x.1≠none\/lk l x.2≠none):oncePairs n (l++x::m)=false:=by
 rw[<-D5,sv]
 rintro⟨h1,h2⟩
 have e:nums (l++x::m)=nums l++([x.1,x.2]++nums m):=by rw[yZ];rfl
 rw[e] at h1 h2
 obtain⟨_,_,n3⟩:=rT.mp h2
 rcases h with h|h|h
 ·have:=h1 x.2 (by simp);omega
 ·have:x.1∈nums l:=by
   by_cases q:x.1∈nums l
   ·exact q
   ·exact absurd (oy.mpr q) h
  exact n3 _ this _ (by simp) rfl
 ·have:x.2∈nums l:=by
   by_cases q:x.2∈nums l
   ·exact q
   ·exact absurd (oy.mpr q) h
  exact n3 _ this _ (by simp) rfl
def right(L:List (Bool×Name))(l:List (Nat×Nat)):Bool:=oncePairs L.length l&&linked L (partnersOf L.length l)
theorem FQ{L:List (Bool×Name)}{l:List (Nat×Nat)}{x:Nat×Nat}(hx:x∈l)(h:fits L x=false):right L l=false:=by
 unfold right
 cases e:oncePairs L.length l with
 |false=>rfl
 |true=>
  obtain⟨h1,h2⟩:=(sv _ _).mp e
  rw[gz,<-D5,y8 h1 h2]
  rintro⟨q,_⟩
  rw[q x hx] at h
  cases h
theorem FR{L:List (Bool×Name)}{l:List (Nat×Nat)}(h1:∀i∈nums l,i<L.length)(h2:(nums l).Nodup)(h3:∀x∈l,fits L x=true):right L l=decide (none∉row L.length l):=by
 unfold right
 rw[(sv _ _).mpr ⟨h1,h2⟩,gz,ck,y8 h1 h2,decide_eq_true_iff]
 constructor
 ·rintro⟨_,q⟩ hm
  obtain⟨i,hi,e⟩:=cT.mp hm
  exact q i (fN.mp hi) e
 ·intro q
  exact⟨h3,fun i hi e=>q (cT.mpr ⟨i,fN.mpr hi,e⟩)⟩
theorem FS{n:Nat}{l:List (Nat×Nat)}(h:none∉row n l):row n l=(partnersOf n l).map some:=by
 rw[sy]
 unfold row
 rw[jB]
 refine oK fun i hi=>?_
 cases e:lk l i with
 |none=>exact absurd (cT.mpr ⟨i,hi,e⟩) h
 |some j=>simp[e]
end ML
namespace MGr
open Vaneta MP MF
open Vanetc (Point pointsOf pointsFrom points leafPoints rootsFrom tensorEdges linkEdges inPairs cutEdges edges pars Net formulas Edge Par)
def zA(o:Nat):Formula->List (Nat×Point)
 |.tensor A B=>(o,.tensor (o+1) (o+1+nodes A))::(zA (o+1) A++zA (o+1+nodes A) B)
 |.par A B=>(o,.par (o+1) (o+1+nodes A))::(zA (o+1) A++zA (o+1+nodes A) B)
 |_=>[(o,.leaf)]
def zs(o:Nat):List Formula->List (Nat×Point)
 |[]=>[]
 |A::r=>zA o A++zs (o+nodes A) r
theorem j7:∀{A:Formula},good A=true->∀o,(pointsOf o A).length=nodes A
 |.atom t a,_,o=>rfl
 |.tensor A B,h,o=>by
  have h':=bS.mp h
  show(pointsOf (o+1) A++pointsOf (o+1+nodes A) B).length+1=1+nodes A+nodes B
  rw[aS,j7 h'.1,j7 h'.2];omega
 |.par A B,h,o=>by
  have h':=bS.mp h
  show(pointsOf (o+1) A++pointsOf (o+1+nodes A) B).length+1=1+nodes A+nodes B
  rw[aS,j7 h'.1,j7 h'.2];omega
 |.wth A B,h,_=>nomatch h
 |.plus A B,h,_=>nomatch h
 |.ofc A,h,_=>nomatch h
 |.whn A,h,_=>nomatch h
theorem tF(o a b:Nat):kl o (a+b)=kl o a++kl (o+a) b:=by
 rw[<-List.range'_append_1]
theorem mY:∀{A:Formula},good A=true->∀o,(kl o (nodes A)).zip (pointsOf o A)=zA o A
 |.atom t a,_,o=>rfl
 |.tensor A B,h,o=>by
  have h':=bS.mp h
  show(kl o (1+nodes A+nodes B)).zip (.tensor (o+1) (o+1+nodes A)::(pointsOf (o+1) A++pointsOf (o+1+nodes A) B))=_
  rw[show 1+nodes A+nodes B=(nodes A+nodes B)+1 by omega,MD,ME,tF,xT (by rw[xU,j7 h'.1]),mY h'.1,mY h'.2]
  rfl
 |.par A B,h,o=>by
  have h':=bS.mp h
  show(kl o (1+nodes A+nodes B)).zip (.par (o+1) (o+1+nodes A)::(pointsOf (o+1) A++pointsOf (o+1+nodes A) B))=_
  rw[show 1+nodes A+nodes B=(nodes A+nodes B)+1 by omega,MD,ME,tF,xT (by rw[xU,j7 h'.1]),mY h'.1,mY h'.2]
  rfl
 |.wth A B,h,_=>nomatch h
 |.plus A B,h,_=>nomatch h
 |.ofc A,h,_=>nomatch h
 |.whn A,h,_=>nomatch h
theorem tG:∀{fs:List Formula},fs.all good=true->∀o,(pointsFrom o fs).length=(aM fs).length
 |[],_,_=>rfl
 |A::r,h,o=>by
  obtain⟨h1,h2⟩:=dX.mp h
  show(pointsOf o A++pointsFrom (o+nodes A) r).length=_
  rw[aS,j7 h1,tG h2,cD,aS,fJ h1]
theorem tH:∀{fs:List Formula},fs.all good=true->∀o,(kl o (aM fs).length).zip (pointsFrom o fs)=zs o fs
 |[],_,_=>rfl
 |A::r,h,o=>by
  obtain⟨h1,h2⟩:=dX.mp h
  show(kl o (aM (A::r)).length).zip (pointsOf o A++pointsFrom (o+nodes A) r)=zA o A++zs (o+nodes A) r
  rw[cD,aS,fJ h1,tF,xT (by rw[xU,j7 h1]),mY h1,tH h2]
theorem pF{fs:List Formula}(h:fs.all good=true):(bJ (pointsFrom 0 fs).length).zip (pointsFrom 0 fs)=zs 0 fs:=by
 rw[tG h,List.range_eq_range',tH h]
def fork(x:Nat×Point):Option (Nat×Nat×Nat):=match x.2 with
 |.leaf=>none
 |.tensor l r=>some (x.1,l,r)
 |.par l r=>some (x.1,l,r)
def fk(o:Nat)(fs:List Formula):List (Nat×Nat×Nat):=(zs o fs).filterMap fork
theorem FT(o:Nat)(t:Bool)(a:Name)(gs:List Formula):fk o (.atom t a::gs)=fk (o+1) gs:=rfl
theorem pG{c:UInt8}(hc:c=42\/c=124)(o:Nat)(A B:Formula)(r:List Formula):∃p,(p=Point.tensor (o+1) (o+1+nodes A)/\c=42\/p=Point.par (o+1) (o+1+nodes A)/\c=124)/\zs o (two c A B::r)=(o,p)::zs (o+1) (A::B::r):=by
 rcases hc with rfl|rfl
 ·refine⟨_,.inl ⟨rfl,rfl⟩,?_⟩
  show((o,Point.tensor (o+1) (o+1+nodes A))::(zA (o+1) A++zA (o+1+nodes A) B))++zs (o+(1+nodes A+nodes B)) r=(o,Point.tensor (o+1) (o+1+nodes A))::(zA (o+1) A++(zA (o+1+nodes A) B++zs (o+1+nodes A+nodes B) r))
  rw[oI,dh,show o+(1+nodes A+nodes B)=o+1+nodes A+nodes B by omega]
 ·refine⟨_,.inr ⟨rfl,rfl⟩,?_⟩
  show((o,Point.par (o+1) (o+1+nodes A))::(zA (o+1) A++zA (o+1+nodes A) B))++zs (o+(1+nodes A+nodes B)) r=(o,Point.par (o+1) (o+1+nodes A))::(zA (o+1) A++(zA (o+1+nodes A) B++zs (o+1+nodes A+nodes B) r))
  rw[oI,dh,show o+(1+nodes A+nodes B)=o+1+nodes A+nodes B by omega]
theorem FU{c:UInt8}(hc:c=42\/c=124)(o:Nat)(A B:Formula)(r:List Formula):fk o (two c A B::r)=(o,o+1,o+1+nodes A)::fk (o+1) (A::B::r):=by
 obtain⟨p,hp,e⟩:=pG hc o A B r
 unfold fk
 rw[e]
 rcases hp with⟨rfl,_⟩|⟨rfl,_⟩<;>rfl
theorem FV{c:UInt8}(hc:c=42\/c=124)(A B:Formula):nodes (two c A B)=1+nodes A+nodes B:=by rcases hc with rfl|rfl<;>rfl
theorem FW{c:UInt8}(hc:c=42\/c=124)(o:Nat)(A B:Formula)(r:List Formula):rootsFrom o (two c A B::r)=o::rootsFrom (o+1+nodes A+nodes B) r:=by
 show o::rootsFrom (o+nodes (two c A B)) r=_
 rw[FV hc,show o+(1+nodes A+nodes B)=o+1+nodes A+nodes B by omega]
def tJ(m o:Nat)(n:List UInt8):Point->Prop
 |.leaf=>bP n=true
 |.tensor l r=>n=[42]/\o<=l/\l<o+m/\o<=r/\r<o+m
 |.par l r=>n=[124]/\o<=l/\l<o+m/\o<=r/\r<o+m
theorem tK:∀{fs:List Formula},fs.all good=true->∀(o i:Nat) (p:Point),(i,p)∈zs o fs->o<=i/\∃n,(aM fs)[i-o]? =some n/\tJ (aM fs).length o n p:=by
 have key:∀(m:Nat) (fs:List Formula),(aM fs).length<=m->fs.all good=true->∀(o i:Nat) (p:Point),(i,p)∈zs o fs->o<=i/\∃n,(aM fs)[i-o]? =some n/\tJ (aM fs).length o n p:=by
  intro m
  induction m with
  |zero=>
   intro fs hl hg o i p hm
   cases fs with
   |nil=>cases hm
   |cons A r=>
    obtain⟨h1,_⟩:=dX.mp hg
    rw[cD,aS] at hl
    have:=jx.mpr (jY h1)
    omega
  |succ m ih=>
   intro fs hl hg o i p hm
   have shift:∀{gs:List Formula} {x:List UInt8},aM fs=x::aM gs->gs.all good=true->(i,p)∈zs (o+1) gs->o<=i/\∃n,(aM fs)[i-o]? =some n/\tJ (aM fs).length o n p:=fun{gs x} e hgs hm'=>by
    rw[e,aV] at hl
    obtain⟨h1,n,h2,h3⟩:=ih gs (by omega) hgs (o+1) i p hm'
    refine⟨by omega,n,?_,?_⟩
    ·rw[e,show i-o=(i-(o+1))+1 by omega,MI];exact h2
    ·have el:(aM fs).length=(aM gs).length+1:=by rw[e,aV]
     cases p with
     |leaf=>exact h3
     |tensor l r=>
      obtain⟨q1,q2,q3,q4,q5⟩:=h3
      exact⟨q1,by omega,by omega,by omega,by omega⟩
     |par l r=>
      obtain⟨q1,q2,q3,q4,q5⟩:=h3
      exact⟨q1,by omega,by omega,by omega,by omega⟩
   cases fs with
   |nil=>cases hm
   |cons A r=>
    obtain⟨hA,hr⟩:=dX.mp hg
    match A,hA with
    |.atom t a,hA=>
     have hm:(i,p)∈(o,Point.leaf)::zs (o+1) r:=hm
     rcases bc.mp hm with hm|hm
     ·cases hm
      exact⟨aY _,bG (t,a),by rw[kj];rfl,gR hA⟩
     ·exact shift (gs:=r) (x:=bG (t,a)) rfl hr hm
    |.tensor A B,hA=>
     have h':=bS.mp hA
     have en:aM (.tensor A B::r)=[42]::aM (A::B::r):=by
      rw[cD,cD,cD];show([42]::(nl A++nl B))++aM r=_;rw[oI,dh]
     have hgs:(A::B::r).all good=true:=dX.mpr ⟨h'.1,dX.mpr ⟨h'.2,hr⟩⟩
     obtain⟨q,hq,e⟩:=pG (c:=42) (.inl rfl) o A B r
     rw[show(Formula.tensor A B)=two 42 A B from rfl,e] at hm
     rcases bc.mp hm with hm|hm
     ·cases hm
      rcases hq with⟨rfl,_⟩|⟨_,hx⟩
      ·refine⟨aY _,[42],by rw[kj,en];rfl,rfl,by omega,?_,by omega,?_⟩
       ·rw[en,aV,cD,aS,fJ h'.1]
        have:=jx.mpr (jY h'.1)
        rw[fJ h'.1] at this
        omega
       ·rw[en,aV,cD,aS,fJ h'.1,cD,aS]
        have:=jx.mpr (jY h'.2)
        omega
      ·exact absurd hx (by decide)
     ·exact shift en hgs hm
    |.par A B,hA=>
     have h':=bS.mp hA
     have en:aM (.par A B::r)=[124]::aM (A::B::r):=by
      rw[cD,cD,cD];show([124]::(nl A++nl B))++aM r=_;rw[oI,dh]
     have hgs:(A::B::r).all good=true:=dX.mpr ⟨h'.1,dX.mpr ⟨h'.2,hr⟩⟩
     obtain⟨q,hq,e⟩:=pG (c:=124) (.inr rfl) o A B r
     rw[show(Formula.par A B)=two 124 A B from rfl,e] at hm
     rcases bc.mp hm with hm|hm
     ·cases hm
      rcases hq with⟨_,hx⟩|⟨rfl,_⟩
      ·exact absurd hx (by decide)
      ·refine⟨aY _,[124],by rw[kj,en];rfl,rfl,by omega,?_,by omega,?_⟩
       ·rw[en,aV,cD,aS,fJ h'.1]
        have:=jx.mpr (jY h'.1)
        rw[fJ h'.1] at this
        omega
       ·rw[en,aV,cD,aS,fJ h'.1,cD,aS]
        have:=jx.mpr (jY h'.2)
        omega
     ·exact shift en hgs hm
 intro fs hg o i p hm
 exact key (aM fs).length fs (aY _) hg o i p hm
def dA:Nat->List (List UInt8)->List Nat
 |_,[]=>[]
 |o,x::r=>(if bP x=true then[o] else[])++dA (o+1) r
theorem y9(x:List UInt8):∀(l:List (List UInt8)) (o:Nat),dA o (l++[x])=dA o l++(if bP x=true then[o+l.length] else[])
 |[],o=>by show(if bP x=true then[o] else[])++[]=[]++_;rw[d8];rfl
 |y::l,o=>by
  show(if bP y=true then[o] else[])++dA (o+1) (l++[x])=((if bP y=true then[o] else[])++dA (o+1) l)++_
  rw[y9 x l (o+1),dh,aV,show o+1+l.length=o+(l.length+1) by omega]
def FX(x:Nat×Point):Option Nat:=match x.2 with
 |.leaf=>some x.1
 |_=>none
theorem FY:∀(m:Nat) (fs:List Formula),(aM fs).length<=m->fs.all good=true->∀o,dA o (aM fs)=(zs o fs).filterMap FX:=by
 intro m
 induction m with
 |zero=>
  intro fs hl hg o
  cases fs with
  |nil=>rfl
  |cons A r=>
   obtain⟨h1,_⟩:=dX.mp hg
   rw[cD,aS] at hl
   have:=jx.mpr (jY h1)
   omega
 |succ m ih=>
  intro fs hl hg o
  cases e:aM fs with
  |nil=>
   have:fs=[]:=mP _ fs [] e rfl hg rfl
   subst this
   rfl
  |cons x r=>
   obtain⟨gs,hgs,er,hH⟩:=mO hg e
   have hl':(aM gs).length<=m:=by rw[<-er];rw[e,aV] at hl;omega
   rw[er]
   show(if bP x=true then[o] else[])++dA (o+1) (aM gs)=_
   rw[ih gs hl' hgs (o+1)]
   rcases hH.cases' with⟨t,a,hn,ex,rfl⟩|⟨c,A,B,r',hc,ex,rfl,rfl⟩
   ·rw[ex,if_pos (gR hn)];rfl
   ·obtain⟨p,hp,ez⟩:=pG hc o A B r'
    rw[ez,ex,if_neg (by rcases hc with rfl|rfl<;>decide)]
    rcases hp with⟨rfl,_⟩|⟨rfl,_⟩<;>rfl
theorem FZ{fs:List Formula}(h:fs.all good=true):leafPoints (pointsFrom 0 fs)=dA 0 (aM fs):=by
 rw[FY _ fs (aY _) h 0,<-pF h]
 rfl
theorem tL:∀(ns:List (List UInt8)) (o:Nat),(dA o ns).length=(ns.filter bP).length
 |[],_=>rfl
 |x::r,o=>by
  show((if bP x=true then[o] else[])++dA (o+1) r).length=_
  rw[aS,tL r,jz]
  split
  ·simp only[aV,jU];omega
  ·simp only[jU];omega
theorem yb:∀(ns:List (List UInt8)) (o:Nat),∀i∈dA o ns,o<=i/\i<o+ns.length
 |x::r,o,i,h=>by
  have h:i∈(if bP x=true then[o] else[])++dA (o+1) r:=h
  rw[aV]
  rcases dD.mp h with h|h
  ·split at h
   ·have:=gO.mp h;omega
   ·cases h
  ·have:=yb r (o+1) i h;omega
def tE(x:Nat×Point):List Edge:=match x.2 with
 |.tensor l r=>[(x.1,l),(x.1,r)]
 |_=>[]
def pE(x:Nat×Point):Option Par:=match x.2 with
 |.par l r=>some (x.1,l,r)
 |_=>none
def gW(ns:List (List UInt8))(fs:List (Nat×Nat×Nat)):List Edge:=fs.flatMap fun x=>if ns.getD x.1 []=[42] then[(x.1,x.2.1),(x.1,x.2.2)] else[]
def iD(ns:List (List UInt8))(fs:List (Nat×Nat×Nat)):List Par:=fs.filter fun x=>decide (ns.getD x.1 []=[124])
theorem tM{fs:List Formula}(h:fs.all good=true):tensorEdges (pointsFrom 0 fs)=gW (aM fs) (fk 0 fs):=by
 unfold tensorEdges
 rw[pF h]
 unfold gW fk
 have key:∀l:List (Nat×Point),(∀x∈l,x∈zs 0 fs)->l.flatMap tE=(l.filterMap fork).flatMap fun x=>if(aM fs).getD x.1 []=[42] then[(x.1,x.2.1),(x.1,x.2.2)] else[]:=by
  intro l
  induction l with
  |nil=>intro _;rfl
  |cons x l ih=>
   intro hl
   obtain⟨i,p⟩:=x
   obtain⟨_,n,hn,hk⟩:=tK h 0 i p (hl _ bY)
   rw[xV] at hn
   have hd:(aM fs).getD i []=n:=by rw[d9,hn];rfl
   have ih':=ih fun y hy=>hl y (ba _ hy)
   cases p with
   |leaf=>exact ih'
   |tensor a b=>
    show[(i,a),(i,b)]++l.flatMap tE=(if(aM fs).getD i []=[42] then[(i,a),(i,b)] else[])++(l.filterMap fork).flatMap _
    rw[hd,if_pos hk.1,ih']
   |par a b=>
    show[]++l.flatMap tE=(if(aM fs).getD i []=[42] then[(i,a),(i,b)] else[])++(l.filterMap fork).flatMap _
    rw[hd,if_neg (by rw[hk.1];decide),ih']
 exact key (zs 0 fs) fun _ hx=>hx
theorem F0{fs:List Formula}(h:fs.all good=true):(((bJ (pointsFrom 0 fs).length).zip (pointsFrom 0 fs)).filterMap pE)=iD (aM fs) (fk 0 fs):=by
 rw[pF h]
 unfold iD fk
 have key:∀l:List (Nat×Point),(∀x∈l,x∈zs 0 fs)->l.filterMap pE=(l.filterMap fork).filter fun x=>decide ((aM fs).getD x.1 []=[124]):=by
  intro l
  induction l with
  |nil=>intro _;rfl
  |cons x l ih=>
   intro hl
   obtain⟨i,p⟩:=x
   obtain⟨_,n,hn,hk⟩:=tK h 0 i p (hl _ bY)
   rw[xV] at hn
   have hd:(aM fs).getD i []=n:=by rw[d9,hn];rfl
   have ih':=ih fun y hy=>hl y (ba _ hy)
   cases p with
   |leaf=>exact ih'
   |tensor a b=>
    show l.filterMap pE=((i,a,b)::l.filterMap fork).filter _
    rw[jz,if_neg,ih']
    show¬decide ((aM fs).getD i []=[124])=true
    rw[hd,hk.1];decide
   |par a b=>
    show(i,a,b)::l.filterMap pE=((i,a,b)::l.filterMap fork).filter _
    rw[jz,if_pos,ih']
    show decide ((aM fs).getD i []=[124])=true
    rw[hd,hk.1];decide
 exact key (zs 0 fs) fun _ hx=>hx
theorem kH:∀(fs:List Formula) (o:Nat),(rootsFrom o fs).length=fs.length
 |[],_=>rfl
 |A::r,o=>by show(rootsFrom _ r).length+1=r.length+1;rw[kH r]
theorem yc:∀{fs:List Formula},fs.all good=true->∀o,∀i∈rootsFrom o fs,o<=i/\i<o+(aM fs).length
 |A::r,h,o,i,hi=>by
  obtain⟨h1,h2⟩:=dX.mp h
  have hp:=jx.mpr (jY h1)
  have hi:i∈o::rootsFrom (o+nodes A) r:=hi
  rw[cD,aS]
  rw[fJ h1] at hp⊢
  rcases bc.mp hi with rfl|hi
  ·omega
  ·have:=yc h2 _ i hi;omega
theorem yd(A:Formula):∀(fs:List Formula) (o:Nat),rootsFrom o (fs++[A])=rootsFrom o fs++[o+(fs.map nodes).sum]
 |[],o=>rfl
 |B::r,o=>by
  show o::rootsFrom (o+nodes B) (r++[A])=o::(rootsFrom (o+nodes B) r++[o+(nodes B+(r.map nodes).sum)])
  rw[yd A r,Nat.add_assoc]
theorem ye:∀{l:List Nat} {e:Edge},e∈inPairs l->e.1∈l/\e.2∈l
 |a::b::r,e,h=>by
  have h:e∈(a,b)::inPairs r:=h
  rcases bc.mp h with rfl|h
  ·exact⟨by simp,by simp⟩
  ·obtain⟨h1,h2⟩:=ye h
   exact⟨by simp[h1],by simp[h2]⟩
 |[],e,h=>by cases h
 |[a],e,h=>by cases h
theorem yf:∀(l:List Nat) (k:Nat),2*k<=l.length->inPairs (l.take (2*k))=(bJ k).map fun i=>(l.getD (2*i) 0,l.getD (2*i+1) 0)
 |l,0,_=>by simp[inPairs]
 |[],k+1,h=>by simp at h
 |[a],k+1,h=>by simp at h;omega
 |a::b::r,k+1,h=>by
  have ih:=yf r k (by simp only[aV] at h;omega)
  rw[show 2*(k+1)=(2*k)+1+1 by omega,oJ,oJ]
  show(a,b)::inPairs (r.take (2*k))=_
  rw[ih,MJ,bg,jB]
  rfl
end MGr
namespace L2
open PySem PySem.Spec PyProof.Rows
abbrev Key:=Sum Int Str
def yh:Key->Value->Bool
 |.inl k,v=>Value.isInt k v
 |.inr x,v=>Value.isStrOf x v
def F1(w:World):Key->Int
 |.inl k=>hashInt k
 |.inr x=>hashStr w x
theorem jF:∀{k:Key} {v:Value},yh k v=true->(∃i t,k=Sum.inl i/\v=Value.int i t)\/(∃x t,k=Sum.inr x/\v=Value.str x t)
 |.inl i,v,h=>by
  obtain⟨t,e⟩:=Value.isInt_shape (k:=i) (v:=v) h
  exact .inl ⟨i,t,rfl,e⟩
 |.inr x,v,h=>by
  obtain⟨t,e⟩:=Value.isStrOf_shape (x:=x) (v:=v) h
  exact .inr ⟨x,t,rfl,e⟩
theorem F2(a b:Int):decide ((Sum.inl a:Key)=Sum.inl b)=(a==b):=by
 by_cases e:a=b
 ·subst e;simp
 ·have h:¬(Sum.inl a:Key)=Sum.inl b:=fun q=>e (Sum.inl.inj q)
  rw[decide_eq_false h]
  exact(beq_eq_false_iff_ne.mpr e).symm
theorem F3(a b:Str):decide ((Sum.inr a:Key)=Sum.inr b)=decide (a=b):=by
 by_cases e:a=b
 ·subst e;simp
 ·have h:¬(Sum.inr a:Key)=Sum.inr b:=fun q=>e (Sum.inr.inj q)
  rw[decide_eq_false h,decide_eq_false e]
theorem F4(a:Int)(b:Str):decide ((Sum.inl a:Key)=Sum.inr b)=false:=decide_eq_false (fun q=>nomatch q)
theorem F5(a:Str)(b:Int):decide ((Sum.inr a:Key)=Sum.inl b)=false:=decide_eq_false (fun q=>nomatch q)
def tN(prog:Program)(w:World):PySem.KeyKind prog w Key where
 is:=yh
 hash:=F1 w
 inj:=fun v a b ha hb=>by
  rcases jF ha with⟨i,t,rfl,rfl⟩|⟨x,t,rfl,rfl⟩
  ·rcases jF hb with⟨j,u,rfl,e⟩|⟨y,u,rfl,e⟩
   ·injection e with e1 _;rw[e1]
   ·exact nomatch e
  ·rcases jF hb with⟨j,u,rfl,e⟩|⟨y,u,rfl,e⟩
   ·exact nomatch e
   ·injection e with e1 _;rw[e1]
 byValue:=fun k v h=>by
  rcases jF h with⟨i,t,rfl,rfl⟩|⟨x,t,rfl,rfl⟩<;>rfl
 pyHash:=fun hv h=>by
  rcases jF hv with⟨i,t,rfl,rfl⟩|⟨x,t,rfl,rfl⟩
  ·exact wpAny_pyHash_int h
  ·exact wpAny_pyHash_str h
 eqBool:=fun hu hv h=>by
  rcases jF hu with⟨i,t,rfl,rfl⟩|⟨x,t,rfl,rfl⟩
  ·rcases jF hv with⟨j,u,rfl,rfl⟩|⟨y,u,rfl,rfl⟩
   ·rw[F2] at h;exact wpAny_eqBool_int h
   ·rw[F4] at h;exact SeqAt.EqAt.int_str i t y u _ _ _ _ h
  ·rcases jF hv with⟨j,u,rfl,rfl⟩|⟨y,u,rfl,rfl⟩
   ·rw[F5] at h;exact SeqAt.EqAt.str_int x t j u _ _ _ _ h
   ·rw[F3] at h;exact wpAny_eqBool_str h
 «strs»:=fun k x t v h=>by
  rcases jF h with⟨i,u,rfl,e⟩|⟨y,u,rfl,e⟩
  ·exact nomatch e
  ·injection e with e1 _
   subst e1
   cases v<;>rfl
inductive V where
 |non|bl (b:Bool)|int (i:Int)|str (x:Str)|byt (b:Array UInt8)|flt (b:UInt64)|ref (a:Addr)|ty (n:String)
 deriving DecidableEq
def RelV:V->Value->Prop
 |.non,u=>u=Value.none
 |.bl b,u=>u=Value.bool b
 |.int i,u=>∃t,u=Value.int i t
 |.str x,u=>∃t,u=Value.str x t
 |.byt b,u=>∃t,u=Value.bytes b t
 |.flt b,u=>∃t,u=Value.float b t
 |.ref a,u=>u=Value.ref a
 |.ty n,u=>u=Value.type n
abbrev ab:List V->List Value->Prop:=Paired RelV
theorem ab.length{xs:List V}{us:List Value}(r:ab xs us):xs.length=us.length:=Paired.length r
theorem ab.get:∀{xs:List V} {us:List Value} {i:Nat} {x:V},ab xs us->xs[i]? =some x->∃u,us[i]? =some u/\RelV x u
 |_,_,_,_,.nil,e=>by simp at e
 |_,_,0,_,.cons r _,e=>by simp at e;subst e;exact⟨_,rfl,r⟩
 |_,_,i+1,x,.cons _ t,e=>by
  obtain⟨u,h1,h2⟩:=ab.get (i:=i) (x:=x) t (by simpa using e)
  exact⟨u,by simpa using h1,h2⟩
theorem ab.set{x:V}{u:Value}(r:RelV x u):∀{xs:List V} {us:List Value} (i:Nat),ab xs us->ab (xs.set i x) (us.set i u)
 |_,_,_,.nil=>.nil
 |_,_,0,.cons _ t=>.cons r t
 |_,_,i+1,.cons q t=>.cons q (ab.set r i t)
theorem ab.append:∀{xs ys:List V} {us ws:List Value},ab xs us->ab ys ws->ab (xs++ys) (us++ws)
 |_,_,_,_,.nil,s=>s
 |_,_,_,_,.cons r t,s=>.cons r (ab.append t s)
theorem ab.take:∀{xs:List V} {us:List Value} (n:Nat),ab xs us->ab (xs.take n) (us.take n)
 |_,_,0,_=>.nil
 |_,_,_+1,.nil=>.nil
 |_,_,n+1,.cons r t=>.cons r (ab.take n t)
theorem ab.drop:∀{xs:List V} {us:List Value} (n:Nat),ab xs us->ab (xs.drop n) (us.drop n)
 |_,_,0,r=>r
 |_,_,_+1,.nil=>.nil
 |_,_,n+1,.cons _ t=>ab.drop n t
def ic:Option V->Option Value->Prop
 |some v,some u=>RelV v u
 |none,none=>True
 |_,_=>False
def KV{κ:Type}:List (κ×V)->List (κ×Value)->Prop:=Paired fun(p:κ×V) (q:κ×Value)=>p.1=q.1/\RelV p.2 q.2
def kV:Key->V
 |.inl i=>.int i
 |.inr x=>.str x
inductive HO where
 |lst (xs:List V)
 |tup (xs:List V)
 |dK (kvs:List (Key×V))|dT (kvs:List (List Key×V))
 |set (S:Int->Bool) (n:Nat)
 |ins (C dx:Addr) (fs:List (Str×V))
 |own (x:Addr)
 |xd (fs:List (Str×V))
 |met (f x:Addr)
 |rng (lo hi:Int)
 |frz (o:Obj) (u:HO)
 |tbl (ps:Array Value)
 |ext (φ:Heap->Prop)
abbrev Hp:=Addr->Option HO
def upd(H:Hp)(a:Addr)(o:HO):Hp:=fun b=>if b=a then some o else H b
theorem aF{H:Hp}{a:Addr}{o:HO}:upd H a o a=some o:=by unfold upd;rw[if_pos rfl]
theorem aP{H:Hp}{a b:Addr}{o:HO}(h:b≠a):upd H a o b=H b:=by unfold upd;rw[if_neg h]
theorem eX{H:Hp}{a:Addr}{o u:HO}:upd (upd H a o) a u=upd H a u:=by
 funext b;unfold upd;split<;>rfl
theorem dG{H:Hp}{a b:Addr}{o u:HO}(h:H a=some o)(h':H b=some u)(d:o≠u):a≠b:=by
 intro e;subst e;rw[h] at h';exact d (bL h')
theorem ae{H:Hp}{a b:Addr}{o:HO}(h:H a=some o)(h':H b=none):a≠b:=by
 intro e;subst e;rw[h] at h';cases h'
section
variable(P:Program)(w:World)
def dO(H:Hp)(h:Heap)(a:Addr):HO->Prop
 |.lst xs=>xs.length<=sizeLine/\∃(its:List Value) (n:Nat),ab xs its/\h.get? a=some {cls:=.type "list",data:=.seq its.toArray n}
 |.tup xs=>xs.length<=sizeLine/\∃its:List Value,ab xs its/\IsTup h a its.toArray
 |.dK kvs=>kvs.length<=sizeLine/\(a==sysModules)=false/\∃vs,KV kvs vs/\h.DictOf (tN P w) a vs
 |.dT kvs=>kvs.length<=sizeLine/\(a==sysModules)=false/\∃xs:List (List Key×Addr×Value),
   Paired (fun(p:List Key×V) (q:List Key×Addr×Value)=>p.1=q.1/\H q.2.1=some (.tup (p.1.map kV))/\RelV p.2 q.2.2) kvs xs/\
   ∃o es ep,h.get? a=some o/\o.ExactDict/\o.data=.dict es ep/\es.toList=xs.map (entryOfKey (tupleKind (tN P w)))/\(xs.map (·.1)).Nodup
 |.set S n=>h.SetOf (intKind P w) a S n
 |.ins C dx fs=>H dx=some (.own a)/\fs.length<=1000/\dx≠a/\h.get? a=some (km C dx)/\
   ∃mA,h.Ns1 dx mA/\(∀f,ic (fs.lookup f) (mA f))/\Di mA (fs.map (·.1))
 |.own _=>∃o,h.get? a=some o
 |.xd fs=>∃mA,h.Ns1 a mA/\∀f,ic (fs.lookup f) (mA f)
 |.rng lo hi=>∃t u v,h.get? a=some {cls:=.type "range",data:=.fields #[.int lo t,.int hi u,.int 1 v]}
 |.frz o u=>h.get? a=some o/\dO H h a u
 |.tbl ps=>h.get? a=some {cls:=.none,data:=.fields ps}
 |.met f x=>h.get? a=some (Dj (.ref f) (.ref x))
 |.ext φ=>φ h/\(∃o,h.get? a=some o)/\∀h1 h2:Heap,φ h1->(∀o,h1.get? a=some o->h2.get? a=some o)->φ h2
def cN(H:Hp)(h:Heap):Prop:=∀a o,H a=some o->dO P w H h a o
end
section
variable{P:Program}{w:World}{H H':Hp}{h h':Heap}{a:Addr}{o:HO}
theorem dO.lt(x:dO P w H h a o):a<h.objs.size:=by
 cases o with
 |lst xs=>obtain⟨_,_,_,_,e⟩:=x;exact Heap.lt_size e
 |tup xs=>obtain⟨_,_,_,p⟩:=x;exact p.lt
 |dK kvs=>obtain⟨_,_,_,_,o,_,_,e,_⟩:=x;exact Heap.lt_size e
 |dT kvs=>obtain⟨_,_,_,_,o,_,_,e,_⟩:=x;exact Heap.lt_size e
 |set S n=>obtain⟨o,_,_,_,e,_⟩:=x;exact Heap.lt_size e
 |ins C dx fs=>obtain⟨_,_,_,e,_⟩:=x;exact Heap.lt_size e
 |own y=>obtain⟨_,e⟩:=x;exact Heap.lt_size e
 |xd fs=>obtain⟨_,⟨_,_,_,e,_⟩,_⟩:=x;exact Heap.lt_size e
 |rng lo hi=>obtain⟨_,_,_,e⟩:=x;exact Heap.lt_size e
 |frz ob u=>obtain⟨e,_⟩:=x;exact Heap.lt_size e
 |tbl ps=>exact Heap.lt_size (show h.get? a=some _ from x)
 |met f y=>exact Heap.lt_size (show h.get? a=some _ from x)
 |ext φ=>obtain⟨_,⟨_,e⟩,_⟩:=x;exact Heap.lt_size e
theorem Paired.mapP{α β:Type}{F G:α->β->Prop}:∀{l₁:List α} {l₂:List β},Paired F l₁ l₂->(∀a b,F a b->G a b)->Paired G l₁ l₂
 |_,_,.nil,_=>.nil
 |_,_,.cons r t,f=>.cons (f _ _ r) (Paired.mapP t f)
theorem dO.stay(x:dO P w H h a o)(k:∀b u,(b=a\/H b=some (.own a))->h.get? b=some u->h'.get? b=some u)
  (ho:∀b,H b=some (.own a)->H' b=some (.own a))(ht:∀b xs,H b=some (.tup xs)->H' b=some (.tup xs)):dO P w H' h' a o:=by
 induction o with
 |lst xs=>obtain⟨z,its,n,r,e⟩:=x;exact⟨z,its,n,r,k _ _ (.inl rfl) e⟩
 |tup xs=>obtain⟨z,its,r,ob,e,c⟩:=x;exact⟨z,its,r,ob,k _ _ (.inl rfl) e,c⟩
 |dK kvs=>obtain⟨z,y,vs,r,ob,es,ep,e,c⟩:=x;exact⟨z,y,vs,r,ob,es,ep,k _ _ (.inl rfl) e,c⟩
 |dT kvs=>
  obtain⟨z,y,xs,r,ob,es,ep,e,c⟩:=x
  exact⟨z,y,xs,Paired.mapP r fun p q z=>⟨z.1,ht _ _ z.2.1,z.2.2⟩,ob,es,ep,k _ _ (.inl rfl) e,c⟩
 |set S n=>obtain⟨ob,es,ep,t,e,c⟩:=x;exact⟨ob,es,ep,t,k _ _ (.inl rfl) e,c⟩
 |ins C dx fs=>
  obtain⟨d,z,ne,e,mA,⟨od,es,ep,e2,c⟩,r⟩:=x
  exact⟨ho _ d,z,ne,k _ _ (.inl rfl) e,mA,⟨od,es,ep,k _ _ (.inr d) e2,c⟩,r⟩
 |own y=>obtain⟨ob,e⟩:=x;exact⟨ob,k _ _ (.inl rfl) e⟩
 |xd fs=>obtain⟨mA,⟨od,es,ep,e,c⟩,r⟩:=x;exact⟨mA,⟨od,es,ep,k _ _ (.inl rfl) e,c⟩,r⟩
 |rng lo hi=>obtain⟨t,u,v,e⟩:=x;exact⟨t,u,v,k _ _ (.inl rfl) e⟩
 |frz ob u ih=>obtain⟨e,q⟩:=x;exact⟨k _ _ (.inl rfl) e,ih q⟩
 |tbl ps=>
  have e:h.get? a=some {cls:=.none,data:=.fields ps}:=x
  show h'.get? a=some {cls:=.none,data:=.fields ps}
  exact k a _ (.inl rfl) e
 |met f y=>
  have e:h.get? a=some (Dj (.ref f) (.ref y)):=x
  show h'.get? a=some (Dj (.ref f) (.ref y))
  exact k a _ (.inl rfl) e
 |ext φ=>obtain⟨p,⟨o,e⟩,st⟩:=x;exact⟨st _ _ p fun o q=>k _ _ (.inl rfl) q,⟨o,k _ _ (.inl rfl) e⟩,st⟩
theorem cN.lt(x:cN P w H h)(e:H a=some o):a<h.objs.size:=(x a o e).lt
theorem cN.fresh(x:cN P w H h)(e:h.objs.size<=a):H a=none:=by
 cases q:H a with
 |none=>rfl
 |some u=>exact absurd (fF (x.lt q) e) (jV _)
theorem cN.kept(x:cN P w H h)(k:∀b u,h.get? b=some u->h'.get? b=some u):cN P w H h':=fun a o e=>
 (x a o e).stay (fun b u _ q=>k b u q) (fun _ q=>q) fun _ _ q=>q
theorem cN.laid(x:cN P w H h)(k:∀b u,h.get? b=some u->h'.get? b=some u)(hp:h.objs.size<=a)(new:dO P w (upd H a o) h' a o):cN P w (upd H a o) h':=fun b u e=>by
 have hn:=x.fresh hp
 by_cases hb:b=a
 ·subst hb;rw[aF] at e;cases e;exact new
 ·rw[aP hb] at e
  exact(x b u e).stay (fun c v _ q=>k c v q) (fun c q=>by rw[aP (ae q hn)];exact q) fun c xs q=>by rw[aP (ae q hn)];exact q
end
def Rd(H:Hp)(a:Addr)(u:HO):Prop:=H a=some u\/∃o,H a=some (.frz o u)
theorem Rd.ok{P:Program}{w:World}{H:Hp}{h:Heap}{a:Addr}{u:HO}(r:Rd H a u)(x:cN P w H h):dO P w H h a u:=by
 rcases r with r|⟨o,r⟩
 ·exact x a u r
 ·obtain⟨_,q⟩:=x a _ r
  exact q
def kI:Option HO->Prop
 |some (.lst _)=>True
 |some (.dK _)=>True
 |some (.dT _)=>True
 |some (.set _ _)=>True
 |some (.ins _ _ _)=>True
 |some (.ext _)=>True
 |_=>False
section
variable{P:Program}{w:World}{H:Hp}{h h':Heap}{x e:Addr}{o':HO}
theorem cN.write(ok:cN P w H h)(mu:kI (H x))(he:e=x\/H e=some (.own x))(k:∀b u,b≠e->h.get? b=some u->h'.get? b=some u)(heo:∃u,h'.get? e=some u)
  (new:dO P w (upd H x o') h' x o'):cN P w (upd H x o') h':=fun b u q=>by
 have nown:∀c y,H c=some (.own y)->c≠x:=fun c y r z=>by subst z;rw[r] at mu;exact mu
 have ntup:∀c xs,H c=some (.tup xs)->c≠x:=fun c xs r z=>by subst z;rw[r] at mu;exact mu
 by_cases hb:b=x
 ·subst hb;rw[aF] at q;cases q;exact new
 ·rw[aP hb] at q
  by_cases hbe:b=e
  ·have q':H b=some (.own x):=by
    rcases he with z|z
    ·exact absurd (hbe.trans z) hb
    ·rw[hbe];exact z
   rw[q] at q';cases q'
   obtain⟨v,hv⟩:=heo
   exact⟨v,by rw[hbe];exact hv⟩
  ·refine(ok b u q).stay (fun c v hc r=>k c v ?_ r) (fun c r=>by rw[aP (nown c b r)];exact r) fun c xs r=>by rw[aP (ntup c xs r)];exact r
   rcases hc with rfl|hc
   ·exact hbe
   ·rintro rfl
    rcases he with z|z
    ·exact nown c b hc z
    ·rw[hc] at z;cases z;exact hb rfl
end
structure Un (fs ex:List Addr) (H H':Hp) (h h':Heap):Prop where
 keep:∀b o,h.get? b=some o->H b=none->b∉fs->b∉ex->h'.get? b=some o
 slot:∀b o,h.get? b=some o->H b=none->b∈fs->b∉ex->∃sl,h'.get? b=some {o with slots:=sl}
 free:∀b o,h.get? b=some o->H b=none->b∉ex->H' b=none
 there:∀b o,h.get? b=some o->b∉ex->∃o',h'.get? b=some o'
 tups:∀b xs,H b=some (.tup xs)->H' b=some (.tup xs)
 frzs:∀b o u,H b=some (.frz o u)->H' b=some (.frz o u)
 tbls:∀b ps,H b=some (.tbl ps)->∃more,H' b=some (.tbl (ps++more))
section
variable{fs fs' ex ex':List Addr}{H H1 H2:Hp}{h h1 h2 h':Heap}{a x e:Addr}{o:HO}
theorem Un.any(u:Un fs ex H H1 h h1){b:Addr}{ob:Obj}(q:h.get? b=some ob)(n:H b=none)(hx:b∉ex):∃sl,h1.get? b=some {ob with slots:=sl}:=by
 by_cases hb:b∈fs
 ·exact u.slot b ob q n hb hx
 ·exact⟨ob.slots,u.keep b ob q n hb hx⟩
theorem Un.kept(k:∀b u,h.get? b=some u->h'.get? b=some u):Un fs ex H H h h':=
 ⟨fun b ob q _ _ _=>k b ob q,fun b ob q _ _ _=>⟨ob.slots,k b ob q⟩,fun _ _ _ n _=>n,fun b ob q _=>⟨ob,k b ob q⟩,fun _ _ q=>q,fun _ _ _ q=>q,fun _ ps q=>⟨#[],by rw[q];simp⟩⟩
theorem Un.refl:Un fs ex H H h h:=Un.kept fun _ _ q=>q
theorem Un.laid(k:∀b u,h.get? b=some u->h'.get? b=some u)(hp:h.objs.size<=a)(hn:H a=none):Un fs ex H (upd H a o) h h' where
 keep:=fun b u q _ _ _=>k b u q
 slot:=fun b u q _ _ _=>⟨u.slots,k b u q⟩
 free:=fun b u q n _=>by rw[aP (fG (fF (Heap.lt_size q) hp))];exact n
 there:=fun b u q _=>⟨u,k b u q⟩
 tups:=fun b xs q=>by rw[aP (ae q hn)];exact q
 frzs:=fun b u xs q=>by rw[aP (ae q hn)];exact q
 tbls:=fun b ps q=>⟨#[],by rw[aP (ae q hn),q];simp⟩
theorem Un.write(mu:kI (H x))(he:e=x\/H e=some (.own x))(k:∀b u,b≠e->h.get? b=some u->h'.get? b=some u)(heo:∃u,h'.get? e=some u):Un fs ex H (upd H x o) h h':=by
 have hx:∀b,H b=none->b≠x:=fun b n z=>by subst z;rw[n] at mu;exact mu
 have hb:∀b,H b=none->b≠e:=fun b n z=>by
  subst z
  rcases he with r|r
  ·exact hx b n r
  ·rw[n] at r;cases r
 have hm:∀b u,H b=some u->¬kI (some u)->b≠x:=fun b u q nm z=>by subst z;rw[q] at mu;exact nm mu
 refine⟨fun b u q n _ _=>k b u (hb b n) q,fun b u q n _ _=>⟨u.slots,k b u (hb b n) q⟩,fun b u q n _=>by rw[aP (hx b n)];exact n,fun b u q _=>?_,
  fun b xs q=>by rw[aP (hm b _ q fun z=>z)];exact q,fun b u xs q=>by rw[aP (hm b _ q fun z=>z)];exact q,fun b ps q=>⟨#[],by rw[aP (hm b _ q fun z=>z),q];simp⟩⟩
 by_cases hbe:b=e
 ·subst hbe;exact heo
 ·exact⟨u,k b u hbe q⟩
end
def pH(h:Heap)(H:Hp):List Addr:=(bJ h.objs.size).filter fun a=>(H a).isSome
def jG(h:Heap)(H:Hp):Heap:=PySem.W.hideAll h (pH h H)
theorem F6(h:Heap)(H:Hp):(jG h H).objs.size=h.objs.size:=PySem.W.hideAll_size _ _
theorem F7{h:Heap}{H:Hp}{b:Addr}{o:Obj}(e:h.get? b=some o)(n:H b=none):(jG h H).get? b=some o:=
 PySem.W.hideAll_get _ e fun hm=>by
  have q:(H b).isSome=true:=(kf.mp hm).2
  rw[n] at q;simp at q
theorem F8{h:Heap}{H:Hp}{b:Addr}{o:Obj}(e:(jG h H).get? b=some o):h.get? b=some o/\H b=none:=by
 have e':h.get? b=some o:=PySem.W.of_hideAll (pH h H) e
 refine⟨e',?_⟩
 cases q:H b with
 |none=>rfl
 |some x=>
  have hm:b∈pH h H:=kf.mpr ⟨fN.mpr (Heap.lt_size e'),by simp[q]⟩
  have z:(jG h H).get? b=none:=PySem.W.hideAll_none (pH h H) hm
  rw[z] at e;cases e
structure Mod (K:aD) (mg:Str->Option Value) (base:Heap):Prop where
 kin:K.In base
 glob:base.Ns mainGlobals mg
 blt:∃mb,base.Ns builtinsNs mb/\∀x:Str,x≠"__name__"->mb x=bootBuiltins x
 nolimit:base.NoLimit
structure Cx where
 prog:Program
 w:World
 K:aD
 mg:Str->Option Value
 base:Heap
 A:Around
 N:List Str
 s_0:Shared
 H_0:Hp
 env:Env
 outer:List Env
 stack:List Env
 ex:List Addr
 fn:Str->Bool
 calm:Bool
 pn:List (Addr×Obj)
 xe:Value->Shared->Prop
def iE(l:List Env):List Addr:=l.filterMap (·.frame)
abbrev Cx.fs(X:Cx):List Addr:=iE X.outer
def kJ(sc:Scope)(x:Str):Prop:=sc.names.lookup x=some .local\/sc.names.lookup x=some .cell\/sc.names.lookup x=some .free
def Loc(sc:Scope)(x:Str):Prop:=sc.names.lookup x=some .local\/sc.names.lookup x=some .cell
def Look(env:Env)(h:Heap)(m:Str->Option Value)(x:Str)(u:Value):Prop:=
 (env.kindOf x=some .local/\m x=some u)\/((env.kindOf x=some .cell\/env.kindOf x=some .free)/\∃c,env.cells.lookup x=some c/\h.IsCell c (some u))
structure Cx.Ok (X:Cx):Prop where
 mod:Mod X.K X.mg X.base
 kind:X.env.scope.kind=.function
 glob:X.env.globals=mainGlobals
 blt:X.env.builtins=builtinsNs
 above:X.s_0.heap.objs.size<=X.env.locals
 inj:∀x y c,X.env.cells.lookup x=some c->X.env.cells.lookup y=some c->x=y
 has:∀x,(X.env.kindOf x=some .cell\/X.env.kindOf x=some .free)->∃c,X.env.cells.lookup x=some c
 cab:∀x c,X.fn x=true->X.env.cells.lookup x=some c->X.s_0.heap.objs.size<=c
 hd:X.calm=true->X.A.handled=none
 frames:X.A.frames=some X.stack
 stk:X.stack=X.outer\/(X.stack=X.env::X.outer/\X.env.frame=some X.env.locals)
 exf:∀b∈X.ex,b≠X.env.locals/\∀x c,X.env.cells.lookup x=some c->c≠b
 bs:∀b o,X.base.get? b=some o->X.s_0.heap.get? b=some o/\X.H_0 b=none
 bsz:X.base.objs.size<=X.s_0.heap.objs.size
 noex:∀b o,X.base.get? b=some o->b∉X.ex
 exfs:∀b∈X.ex,b∉X.fs
 funs:X.s_0.heap.FunFrames X.base X.outer
 frf:∀b∈X.fs,X.H_0 b=none
structure aH (X:Cx) (pins:List (Addr×Obj)) (σ:List (Option V)) (H:Hp) (s:Shared):Prop where
 ok:X.Ok
 os:s.os=X.s_0.os
 bare:AllBare s.gens
 base:Un X.fs X.ex X.H_0 H X.s_0.heap s.heap
 loc:∃m,s.heap.Ns X.env.locals m/\∀(i:Nat) (x:Str) (v:V),X.N[i]? =some x->σ[i]? =some (some v)->kJ X.env.scope x->∃u,RelV v u/\Look X.env s.heap m x u
 cell:∀x c,X.env.cells.lookup x=some c->∃v,s.heap.IsCell c v
 free:H X.env.locals=none
 freeC:∀x c,X.env.cells.lookup x=some c->H c=none
 pin:∀p∈X.pn++pins,s.heap.get? p.1=some p.2/\H p.1=none/\p.1≠X.env.locals/\p.1∉X.fs/\∀v,p.2.data≠ .cell v
 hok:cN X.prog X.w H s.heap
 len:σ.length=X.N.length
section
variable{X:Cx}{pins:List (Addr×Obj)}{σ:List (Option V)}{H H':Hp}{s:Shared}{h':Heap}
theorem Cx.Ok.nofr(ok:X.Ok){b:Addr}{o:Obj}(e:X.base.get? b=some o):b∉X.fs:=fun hb=>by
 have:=(ok.funs.mem hb).1
 rw[e] at this;cases this
theorem aH.bs(I:aH X pins σ H s):∀b o,X.base.get? b=some o->s.heap.get? b=some o/\H b=none:=fun b o e=>
 ⟨I.base.keep b o (I.ok.bs b o e).1 (I.ok.bs b o e).2 (I.ok.nofr e) (I.ok.noex b o e),I.base.free b o (I.ok.bs b o e).1 (I.ok.bs b o e).2 (I.ok.noex b o e)⟩
theorem aH.bk(I:aH X pins σ H s):∀b o,X.base.get? b=some o->s.heap.get? b=some o:=fun b o e=>(I.bs b o e).1
theorem aH.mod(I:aH X pins σ H s):Mod X.K X.mg X.base:=I.ok.mod
theorem aH.kIn(I:aH X pins σ H s):X.K.In s.heap:=I.ok.mod.kin.keeps I.bk
theorem aH.lt(I:aH X pins σ H s):X.env.locals<s.heap.objs.size:=let⟨_,hn,_⟩:=I.loc;hn.lt
theorem aH.sz(I:aH X pins σ H s):X.s_0.heap.objs.size<=s.heap.objs.size:=bW I.ok.above (kg I.lt)
theorem aH.nofs(I:aH X pins σ H s){a:Addr}(h:s.heap.objs.size<=a):a∉X.fs:=fun hb=>by
 obtain⟨_,o,ho,_⟩:=I.ok.funs.mem hb
 exact absurd (fF (Heap.lt_size ho) (bW I.sz h)) (jV _)
theorem aH.cne(I:aH X pins σ H s):∀x c,X.env.cells.lookup x=some c->c≠X.env.locals:=fun x c e z=>by
 obtain⟨v,o,ho,hd⟩:=I.cell x c e
 obtain⟨m,⟨o',es,ep,ho',hd',_⟩,_⟩:=I.loc
 rw[z,ho'] at ho;cases ho;rw[hd'] at hd;cases hd
theorem aH.funs(I:aH X pins σ H s):s.heap.FunFrames X.base X.outer:=by
 have all:∀(l:List Env),(∀b∈iE l,b∈X.fs)->X.s_0.heap.FunFrames X.base l->s.heap.FunFrames X.base l:=by
  intro l
  induction l with
  |nil=>intro _ _;trivial
  |cons env r ih=>
   intro hs hl
   obtain⟨hk,⟨L,o,hf,hn,ho,hd⟩,hr⟩:=hl
   have hL:L∈X.fs:=hs L (by unfold iE;rw[oM,hf];exact bY)
   obtain⟨sl,e⟩:=I.base.slot L o ho (I.ok.frf L hL) hL fun z=>I.ok.exfs L z hL
   exact⟨hk,⟨L,_,hf,hn,e,hd⟩,ih (fun b hb=>hs b (by unfold iE;rw[oM,hf];exact ba _ hb)) hr⟩
 exact all X.outer (fun _ hb=>hb) I.ok.funs
theorem aH.stack(I:aH X pins σ H s):s.heap.FunFrames X.base X.stack:=by
 rcases I.ok.stk with e|⟨e,hf⟩
 ·rw[e];exact I.funs
 ·rw[e]
  obtain⟨m,hn,_⟩:=I.loc
  refine .cons (by rw[I.ok.kind];decide) hf hn ?_ I.funs
  exact Heap.get?_none_of_le (bW I.ok.bsz I.ok.above)
theorem aH.stkSub(I:aH X pins σ H s):∀b∈iE X.stack,b∈X.env.locals::X.fs:=fun b hb=>by
 rcases I.ok.stk with e|⟨e,hf⟩
 ·rw[e] at hb;exact ba _ hb
 ·rw[e] at hb
  unfold iE at hb
  rw[oM,hf] at hb
  exact hb
theorem aH.stkFree(I:aH X pins σ H s):∀b∈iE X.stack,H b=none:=fun b hb=>by
 rcases bc.mp (I.stkSub b hb) with e|hb
 ·rw[e];exact I.free
 ·obtain⟨_,o,ho,_⟩:=I.ok.funs.mem hb
  exact I.base.free b o ho (I.ok.frf b hb) fun z=>I.ok.exfs b z hb
theorem aH.step{g':Array GenState}{t':Nat}{d':Drawn}{ch:List Addr}(I:aH X pins σ H s)
  (hch:∀b∈ch,(b∈X.ex\/X.s_0.heap.objs.size<=b)/\b≠X.env.locals/\(∀x c,X.env.cells.lookup x=some c->c≠b)/\∀p∈X.pn++pins,p.1≠b)
  (keep:∀b o,b≠X.env.locals->b∉X.fs->b∉ch->s.heap.get? b=some o->H b=none->h'.get? b=some o)
  (slot:∀b o,b≠X.env.locals->b∈X.fs->b∉ch->s.heap.get? b=some o->H b=none->∃sl,h'.get? b=some {o with slots:=sl})(free:∀b o,b∉ch->s.heap.get? b=some o->H b=none->H' b=none)
  (there:∀b o,b∉ch->s.heap.get? b=some o->∃o',h'.get? b=some o')
  (tups:∀b xs,H b=some (.tup xs)->H' b=some (.tup xs))(frzs:∀b o u,H b=some (.frz o u)->H' b=some (.frz o u))(tbls:∀b ps,H b=some (.tbl ps)->∃more,H' b=some (.tbl (ps++more)))
  (ns:∀m,s.heap.Ns X.env.locals m->h'.Ns X.env.locals m)(hok:cN X.prog X.w H' h')(hg:AllBare g'):
  aH X pins σ H' {s with heap:=h',gens:=g',drawn:=d',toks:=t'}:=by
 have neL:∀b o,X.s_0.heap.get? b=some o->b≠X.env.locals:=fun b o e=>fG (fF (Heap.lt_size e) I.ok.above)
 have neC:∀b o,X.s_0.heap.get? b=some o->b∉X.ex->b∉ch:=fun b o e hx hb=>by
  rcases(hch b hb).1 with z|z
  ·exact hx z
  ·exact absurd (fF (Heap.lt_size e) z) (jV _)
 have cellK:∀x c,X.env.cells.lookup x=some c->∀v,s.heap.IsCell c v->h'.IsCell c v:=fun x c e v ⟨o,ho,hd⟩=>by
  have nch:c∉ch:=fun z=>(hch c z).2.2.1 x c e rfl
  by_cases hc:c∈X.fs
  ·obtain⟨sl,q⟩:=slot c o (I.cne x c e) hc nch ho (I.freeC x c e)
   exact⟨_,q,hd⟩
  ·exact⟨o,keep c o (I.cne x c e) hc nch ho (I.freeC x c e),hd⟩
 refine⟨I.ok,I.os,hg,⟨fun b o e n hb hx=>?_,fun b o e n hb hx=>?_,fun b o e n hx=>?_,fun b o e hx=>?_,fun b xs e=>tups b xs (I.base.tups b xs e),fun b o xs e=>frzs b o xs (I.base.frzs b o xs e),fun b ps e=>?_⟩,?_,fun x c e=>?_,?_,fun x c e=>?_,fun p hp=>?_,hok,I.len⟩
 ·exact keep b o (neL b o e) hb (neC b o e hx) (I.base.keep b o e n hb hx) (I.base.free b o e n hx)
 ·obtain⟨sl,e1⟩:=I.base.slot b o e n hb hx
  obtain⟨sl',e2⟩:=slot b _ (neL b o e) hb (neC b o e hx) e1 (I.base.free b o e n hx)
  exact⟨sl',e2⟩
 ·obtain⟨o',e1⟩:=I.base.there b o e hx
  exact free b o' (neC b o e hx) e1 (I.base.free b o e n hx)
 ·obtain⟨o',e1⟩:=I.base.there b o e hx
  exact there b o' (neC b o e hx) e1
 ·obtain⟨m1,e1⟩:=I.base.tbls b ps e
  obtain⟨m2,e2⟩:=tbls b _ e1
  exact⟨m1++m2,by rw[e2,Array.append_assoc]⟩
 ·obtain⟨m,hn,hl⟩:=I.loc
  refine⟨m,ns m hn,fun i x v e1 e2 e3=>?_⟩
  obtain⟨u,r,l⟩:=hl i x v e1 e2 e3
  refine⟨u,r,?_⟩
  rcases l with l|⟨k,c,e,z⟩
  ·exact .inl l
  ·exact .inr ⟨k,c,e,cellK x c e _ z⟩
 ·obtain⟨v,z⟩:=I.cell x c e
  exact⟨v,cellK x c e v z⟩
 ·obtain⟨m,⟨o,_,_,ho,_⟩,_⟩:=I.loc
  exact free _ o (fun z=>(hch _ z).2.1 rfl) ho I.free
 ·obtain⟨v,o,ho,hd⟩:=I.cell x c e
  exact free c o (fun z=>(hch c z).2.2.1 x c e rfl) ho (I.freeC x c e)
 ·obtain⟨e,n,ne,nf,d⟩:=I.pin p hp
  have nch:p.1∉ch:=fun z=>(hch p.1 z).2.2.2 p hp rfl
  exact⟨keep p.1 p.2 ne nf nch e n,free p.1 p.2 nch e n,ne,nf,d⟩
theorem aH.un{t':Nat}(I:aH X pins σ H s)(u:Un X.fs [] H H' s.heap h')(hok:cN X.prog X.w H' h'):aH X pins σ H' {s with heap:=h',toks:=t'}:=by
 obtain⟨m,⟨o,es,ep,ho,r⟩,_⟩:=id I.loc
 obtain⟨sl,hL⟩:=u.any ho I.free (by simp)
 exact I.step (g':=s.gens) (d':=s.drawn) (ch:=[]) (fun _ z=>nomatch z) (fun b o _ hb _ e n=>u.keep b o e n hb (by simp)) (fun b o _ hb _ e n=>u.slot b o e n hb (by simp)) (fun b o _ e n=>u.free b o e n (by simp)) (fun b o _ e=>u.there b o e (by simp)) u.tups u.frzs u.tbls (fun m' hm=>by
  obtain⟨o',es',ep',ho',r'⟩:=hm
  rw[ho] at ho';cases ho'
  exact⟨_,es',ep',hL,r'⟩) hok I.bare
theorem aH.call{g':Array GenState}{t':Nat}{d':Drawn}{ch:List Addr}(I:aH X pins σ H s)(u:Un (iE X.stack) ch H H' s.heap h')(hok:cN X.prog X.w H' h')(hg:AllBare g')
  (hch:∀b∈ch,(b∈X.ex\/X.s_0.heap.objs.size<=b)/\b≠X.env.locals/\(∀x c,X.env.cells.lookup x=some c->c≠b)/\∀p∈X.pn++pins,p.1≠b):
  aH X pins σ H' {s with heap:=h',gens:=g',drawn:=d',toks:=t'}:=by
 obtain⟨m,⟨o,es,ep,ho,r⟩,_⟩:=id I.loc
 obtain⟨sl,hL⟩:=u.any ho I.free fun z=>(hch _ z).2.1 rfl
 exact I.step (ch:=ch) hch (fun b o hL hb hc e n=>u.keep b o e n (fun z=>(bc.mp (I.stkSub b z)).elim hL hb) hc) (fun b o _ _ hc e n=>u.any e n hc) (fun b o hc e n=>u.free b o e n hc) (fun b o hc e=>u.there b o e hc) u.tups u.frzs u.tbls (fun m' hm=>by
  obtain⟨o',es',ep',ho',r'⟩:=hm
  rw[ho] at ho';cases ho'
  exact⟨_,es',ep',hL,r'⟩) hok hg
theorem aH.turned{t':Nat}{it:Addr}(I:aH X pins σ H s)(k:∀b o,b≠it->s.heap.get? b=some o->h'.get? b=some o)(hn:H it=none)(hL:it≠X.env.locals)
  (h1:it∈X.ex\/X.s_0.heap.objs.size<=it)(h2:∀x c,X.env.cells.lookup x=some c->c≠it)(h3:∀p∈X.pn++pins,p.1≠it):aH X pins σ H {s with heap:=h',toks:=t'}:=by
 have nit:∀b u,H b=some u->b≠it:=fun b u e z=>by rw[z,hn] at e;cases e
 refine I.step (g':=s.gens) (d':=s.drawn) (ch:=[it]) (fun b hb=>?_) (fun b o _ _ hc e _=>k b o (fun z=>hc (by simp[z])) e) (fun b o _ _ hc e _=>⟨o.slots,k b o (fun z=>hc (by simp[z])) e⟩) (fun _ _ _ _ n=>n)
  (fun b o hc e=>⟨o,k b o (fun z=>hc (by simp[z])) e⟩) (fun _ _ e=>e) (fun _ _ _ e=>e) (fun b ps e=>⟨#[],by rw[e];simp⟩) (fun m hm=>?_) (fun b u e=>?_) I.bare
 ·have e:b=it:=by simpa using hb
  subst e
  exact⟨h1,hL,h2,h3⟩
 ·obtain⟨o,es,ep,ho,r⟩:=hm
  exact⟨o,es,ep,k _ o (Ne.symm hL) ho,r⟩
 ·refine(I.hok b u e).stay (fun c v hc q=>k c v ?_ q) (fun _ q=>q) fun _ _ q=>q
  rcases hc with z|z
  ·rw[z];exact nit b u e
  ·exact nit c _ z
theorem aH.tok(I:aH X pins σ H s)(t:Nat):aH X pins σ H {s with toks:=t}:=I.un (h':=s.heap) (t':=t) Un.refl I.hok
theorem aH.kept{t':Nat}(I:aH X pins σ H s)(k:∀b u,s.heap.get? b=some u->h'.get? b=some u):aH X pins σ H {s with heap:=h',toks:=t'}:=I.un (Un.kept k) (I.hok.kept k)
theorem aH.laid{a:Addr}{o:HO}{t':Nat}(I:aH X pins σ H s)(k:∀b u,s.heap.get? b=some u->h'.get? b=some u)(hp:s.heap.objs.size<=a)(new:dO X.prog X.w (upd H a o) h' a o):
  aH X pins σ (upd H a o) {s with heap:=h',toks:=t'}:=I.un (Un.laid k hp (I.hok.fresh hp)) (I.hok.laid k hp new)
theorem aH.write{x e:Addr}{o:HO}{t':Nat}(I:aH X pins σ H s)(mu:kI (H x))(he:e=x\/H e=some (.own x))(k:∀b u,b≠e->s.heap.get? b=some u->h'.get? b=some u)(heo:∃u,h'.get? e=some u)
  (new:dO X.prog X.w (upd H x o) h' x o):aH X pins σ (upd H x o) {s with heap:=h',toks:=t'}:=I.un (Un.write mu he k heo) (I.hok.write mu he k heo new)
theorem aH.weak{σ':List (Option V)}(I:aH X pins σ H s)(hl:σ'.length=σ.length)(w:∀(i:Nat) v,σ'[i]? =some (some v)->σ[i]? =some (some v)):aH X pins σ' H s:=
 ⟨I.ok,I.os,I.bare,I.base,let⟨m,hn,hl'⟩:=I.loc;⟨m,hn,fun i x v e1 e2 e3=>hl' i x v e1 (w i v e2) e3⟩,I.cell,I.free,I.freeC,I.pin,I.hok,hl.trans I.len⟩
theorem aH.pins_of{pins':List (Addr×Obj)}(I:aH X pins σ H s)(h:∀p∈pins',s.heap.get? p.1=some p.2/\H p.1=none/\p.1≠X.env.locals/\p.1∉X.fs/\∀v,p.2.data≠ .cell v):aH X pins' σ H s:=
 ⟨I.ok,I.os,I.bare,I.base,I.loc,I.cell,I.free,I.freeC,fun p hp=>(dD.mp hp).elim (fun z=>I.pin p (MM _ z)) (h p),I.hok,I.len⟩
theorem tO{N:List Str}(hN:N.Nodup){i j:Nat}{x:Str}(a:N[i]? =some x)(b:N[j]? =some x):i=j:=by
 obtain⟨h1,e1⟩:=bC.mp a
 obtain⟨h2,e2⟩:=bC.mp b
 exact(List.getElem_inj hN).mp (e1.trans e2.symm)
theorem yi{M:Model}{A:Around}{E:Value->Shared->Prop}{i:Nat}{x:Str}{v:V}{u:Value}{Q:Unit->Shared->Prop}(I:aH X pins σ H s)(hN:X.N.Nodup)(hi:X.N[i]? =some x)(hx:Loc X.env.scope x)(r:RelV v u)
  (h:∀s',aH X pins (σ.set i (some v)) H s'->(∃a,Heap.SameBut a s.heap s'.heap/\(a=X.env.locals\/X.env.cells.lookup x=some a))->Q () s')(hf:X.fn x=true\/X.env.scope.names.lookup x=some .local:=by first|exact .inl rfl|exact .inr rfl|assumption):wpAny M A (storeName X.env x u) Q E s:=by
 obtain⟨m,hn,hl⟩:=id I.loc
 have hcls:(X.env.scope.kind==.class||(X.env.scope.kind==.module&&X.env.locals !=X.env.globals))=false:=by rw[I.ok.kind];rfl
 have hiσ:i<σ.length:=by rw[I.len];exact(bC.mp hi).1
 have cne:=I.cne
 have tracked:∀{a:Addr} {h':Heap},(∃o,s.heap.get? a=some o/\H a=none)->Heap.SameBut a s.heap h'->cN X.prog X.w H h':=fun{a h'} ha hs b ob e=>by
  obtain⟨_,_,hfree⟩:=ha
  refine(I.hok b ob e).stay (fun c w' hc q=>(hs.2 c ?_).trans q) (fun _ q=>q) fun _ _ q=>q
  rintro rfl
  rcases hc with rfl|hc
  ·rw[hfree] at e;cases e
  ·rw[hfree] at hc;cases hc
 rcases hx with hk|hk
 ·refine wpAny_storeName_local hk hn (fun h' hn' hs=>?_) hcls
  obtain⟨oL,_,_,hoL,_⟩:=id hn
  refine h _ ⟨I.ok,I.os,I.bare,⟨fun b o e n hb hx=>?_,fun b o e n hb hx=>?_,I.base.free,fun b o e hx=>?_,I.base.tups,I.base.frzs,I.base.tbls⟩,⟨_,hn',fun j y v' e1 e2 e3=>?_⟩,fun y c e=>?_,I.free,I.freeC,fun p hp=>?_,tracked ⟨oL,hoL,I.free⟩ hs,by simpa using I.len⟩ ⟨_,hs,.inl rfl⟩
  ·exact(hs.2 b (fG (fF (Heap.lt_size e) I.ok.above))).trans (I.base.keep b o e n hb hx)
  ·obtain⟨sl,e1⟩:=I.base.slot b o e n hb hx
   exact⟨sl,(hs.2 b (fG (fF (Heap.lt_size e) I.ok.above))).trans e1⟩
  ·obtain⟨o',e1⟩:=I.base.there b o e hx
   exact⟨o',(hs.2 b (fG (fF (Heap.lt_size e) I.ok.above))).trans e1⟩
  ·by_cases hj:j=i
   ·subst hj
    rw[hi] at e1;cases e1
    rw[rW hiσ] at e2
    cases e2
    exact⟨u,r,.inl ⟨hk,by simp⟩⟩
   ·rw[lz (Ne.symm hj)] at e2
    obtain⟨u',r',q⟩:=hl j y v' e1 e2 e3
    refine⟨u',r',?_⟩
    rcases q with⟨k,e⟩|⟨k,c,e,z⟩
    ·refine .inl ⟨k,?_⟩
     have:y≠x:=fun e=>hj (tO hN e1 (e▸hi))
     simp[this,e]
    ·exact .inr ⟨k,c,e,z.sameBut hs (cne y c e)⟩
  ·obtain⟨w',z⟩:=I.cell y c e
   exact⟨w',z.sameBut hs (cne y c e)⟩
  ·obtain⟨e,n,ne,nf,d⟩:=I.pin p hp
   exact⟨(hs.2 p.1 ne).trans e,n,ne,nf,d⟩
 ·have hfn:X.fn x=true:=by
   rcases hf with z|z
   ·exact z
   ·rw[z] at hk;cases hk
  obtain⟨c,hc⟩:=I.ok.has x (.inl hk)
  obtain⟨w',z⟩:=I.cell x c hc
  refine wpAny_storeName_cell I.ok.kind hk hc z (fun h' hc' hs=>?_)
  obtain⟨oc,hoc,hocd⟩:=id z
  refine h {s with heap:=h'} ⟨I.ok,I.os,I.bare,⟨fun b o e n hb hx=>?_,fun b o e n hb hx=>?_,I.base.free,fun b o e hx=>?_,I.base.tups,I.base.frzs,I.base.tbls⟩,⟨m,hn.sameBut hs (Ne.symm (cne x c hc)),fun j y v' e1 e2 e3=>?_⟩,fun y c' e=>?_,I.free,I.freeC,fun p hp=>?_,tracked ⟨oc,hoc,I.freeC x c hc⟩ hs,by simpa using I.len⟩ ⟨c,hs,.inr hc⟩
  ·exact(hs.2 b (fG (fF (Heap.lt_size e) (I.ok.cab x c hfn hc)))).trans (I.base.keep b o e n hb hx)
  ·obtain⟨sl,e1⟩:=I.base.slot b o e n hb hx
   exact⟨sl,(hs.2 b (fG (fF (Heap.lt_size e) (I.ok.cab x c hfn hc)))).trans e1⟩
  ·obtain⟨o',e1⟩:=I.base.there b o e hx
   exact⟨o',(hs.2 b (fG (fF (Heap.lt_size e) (I.ok.cab x c hfn hc)))).trans e1⟩
  ·by_cases hj:j=i
   ·subst hj
    rw[hi] at e1;cases e1
    rw[rW hiσ] at e2
    cases e2
    exact⟨u,r,.inr ⟨.inl hk,c,hc,hc'⟩⟩
   ·rw[lz (Ne.symm hj)] at e2
    obtain⟨u',r',q⟩:=hl j y v' e1 e2 e3
    refine⟨u',r',?_⟩
    rcases q with q|⟨k,c',e,z'⟩
    ·exact .inl q
    ·refine .inr ⟨k,c',e,z'.sameBut hs ?_⟩
     rintro rfl
     exact hj (tO hN e1 (I.ok.inj _ _ _ e hc▸hi))
  ·by_cases hcc:c'=c
   ·subst hcc;exact⟨_,hc'⟩
   ·obtain⟨w2,z2⟩:=I.cell y c' e
    exact⟨w2,z2.sameBut hs hcc⟩
  ·obtain⟨e,n,ne,nf,d⟩:=I.pin p hp
   refine⟨(hs.2 p.1 ?_).trans e,n,ne,nf,d⟩
   intro q
   rw[q,hoc] at e
   have q':oc=p.2:=bL e
   exact d w' (by rw[<-q'];exact hocd)
theorem tP{M:Model}{A:Around}{E:Value->Shared->Prop}{i:Nat}{x:Str}{v:V}{u:Value}{Q:Unit->Shared->Prop}(I:aH X pins σ H s)(hN:X.N.Nodup)(hi:X.N[i]? =some x)(hx:Loc X.env.scope x)(r:RelV v u)
  (h:∀s',aH X pins (σ.set i (some v)) H s'->Q () s')(hf:X.fn x=true\/X.env.scope.names.lookup x=some .local:=by first|exact .inl rfl|exact .inr rfl|assumption):wpAny M A (storeName X.env x u) Q E s:=
 yi I hN hi hx r (fun s' I' _=>h s' I') hf
theorem aH.call'{s':Shared}{ch:List Addr}(I:aH X pins σ H s)(ho:s'.os=s.os)(u:Un (iE X.stack) ch H H' s.heap s'.heap)(hok:cN X.prog X.w H' s'.heap)(hg:AllBare s'.gens)
  (hch:∀b∈ch,(b∈X.ex\/X.s_0.heap.objs.size<=b)/\b≠X.env.locals/\(∀x c,X.env.cells.lookup x=some c->c≠b)/\∀p∈X.pn++pins,p.1≠b):aH X pins σ H' s':=by
 obtain⟨h',g',d',t',o'⟩:=s'
 have e:o'=s.os:=ho
 subst e
 exact I.call (g':=g') (t':=t') (d':=d') u hok hg hch
end
abbrev XK:=Value->Option Addr->Hp->Prop
abbrev St:=List (Option V)
abbrev VK:=V->Hp->Prop
abbrev TE:=St->Hp->VK->Prop
abbrev TT:=St->Hp->(Bool->Hp->Prop)->Prop
abbrev TA:=St->Hp->(List V->Hp->Prop)->Prop
structure Ends where
 nx:St->Hp->Prop
 rt:VK
 bk:St->Hp->Prop:=fun _ _=>False
 ct:St->Hp->Prop:=fun _ _=>False
abbrev TS:=Ends->St->Hp->Prop
def EP(X:Cx)(pins:List (Addr×Obj))(σ:St)(Q:VK)(u:Value)(s':Shared):Prop:=∃v H',aH X pins σ H' s'/\RelV v u/\Q v H'
def TP(X:Cx)(pins:List (Addr×Obj))(σ:St)(Q:Bool->Hp->Prop)(b:Bool)(s':Shared):Prop:=∃H',aH X pins σ H' s'/\Q b H'
def AP(X:Cx)(pins:List (Addr×Obj))(σ:St)(Q:List V->Hp->Prop)(us:List Value)(s':Shared):Prop:=∃vs H',aH X pins σ H' s'/\ab vs us/\Q vs H'
def SP(X:Cx)(pins:List (Addr×Obj))(D:Ends)(f:Flow)(s':Shared):Prop:=
 match f with
 |.next=>∃σ' H',aH X pins σ' H' s'/\D.nx σ' H'
 |.brk=>∃σ' H',aH X pins σ' H' s'/\D.bk σ' H'
 |.cont=>∃σ' H',aH X pins σ' H' s'/\D.ct σ' H'
 |.ret u=>∃v σ' H',aH X pins σ' H' s'/\RelV v u/\D.rt v H'
def PE(X:Cx)(e:Expr)(t:TE):Prop:=
 ∀(pins:List (Addr×Obj)) (s:Shared) (σ:St) (H:Hp) (Q:VK),aH X pins σ H s->t σ H Q->wpAny (model X.prog X.w) X.A (eval e X.env) (EP X pins σ Q) X.xe s
def PT(X:Cx)(e:Expr)(t:TT):Prop:=
 ∀(pins:List (Addr×Obj)) (s:Shared) (σ:St) (H:Hp) (Q:Bool->Hp->Prop),aH X pins σ H s->t σ H Q->wpAny (model X.prog X.w) X.A (isTrue e X.env (eval e X.env)) (TP X pins σ Q) X.xe s
def PW(X:Cx)(e:Expr)(t:TT):Prop:=
 ∀(whole:Sem Value) (pins:List (Addr×Obj)) (s:Shared) (σ:St) (H:Hp) (Q:Bool->Hp->Prop),aH X pins σ H s->t σ H Q->wpAny (model X.prog X.w) X.A (isTrue e X.env whole) (TP X pins σ Q) X.xe s
theorem PW.pt{X:Cx}{e:Expr}{t:TT}(h:PW X e t):PT X e t:=h _
def PA(X:Cx)(es:List Expr)(t:TA):Prop:=
 ∀(pos:Pos) (pins:List (Addr×Obj)) (s:Shared) (σ:St) (H:Hp) (Q:List V->Hp->Prop),aH X pins σ H s->t σ H Q->wpAny (model X.prog X.w) X.A (spliced (backTo pos (starEach es X.env))) (AP X pins σ Q) X.xe s
def PS(X:Cx)(st:Stmt)(t:TS):Prop:=
 ∀(pins:List (Addr×Obj)) (s:Shared) (σ:St) (H:Hp) (D:Ends),aH X pins σ H s->t D σ H->wpAny (model X.prog X.w) X.A (exec st X.env) (SP X pins D) X.xe s
def eY(X:Cx)(st:List Stmt)(t:TS):Prop:=
 ∀(pins:List (Addr×Obj)) (s:Shared) (σ:St) (H:Hp) (D:Ends),aH X pins σ H s->t D σ H->wpAny (model X.prog X.w) X.A (execs st X.env) (SP X pins D) X.xe s
theorem af{α:Type}{t:Sem α}{Q Q':α->Shared->Prop}{M:Model}{A:Around}{E:Value->Shared->Prop}{s:Shared}(h:wpAny M A t Q E s)(hQ:∀a s,Q a s->Q' a s):wpAny M A t Q' E s:=wpAny_mono h hQ fun _ _ x=>x
section
variable{X:Cx}
def ax(i:Nat):TE:=fun σ H Q=>∃v,σ[i]? =some (some v)/\Q v H
def tC(v:V):TE:=fun _ H Q=>Q v H
theorem yj{i:Nat}{x:Str}{pos:Pos}(hN:X.N[i]? =some x)(hv:kJ X.env.scope x)(hd:(x==("__debug__":Str))=false:=by decide)(hcd:(x==("__classdict__":Str))=false:=by decide):PE X (.Name x pos) (ax i):=by
 intro pins s σ H Q I h
 obtain⟨v,e,h⟩:=h
 obtain⟨m,hn,hl⟩:=I.loc
 obtain⟨u,r,l⟩:=hl i x v hN e hv
 have fin:EP X pins σ Q u s:=⟨v,H,I,r,h⟩
 rcases l with⟨hk,hm⟩|⟨hk,c,hc,hcell⟩
 ·exact wpAny_Name (wpAny_loadName_local I.ok.kind hk hn hm fin) hd
 ·rcases hk with hk|hk
  ·exact wpAny_Name (wpAny_loadName_cell I.ok.kind hk hc hcell fin) hd
  ·exact wpAny_Name (wpAny_loadName_free I.ok.kind hk hc hcell fin hcd) hd
theorem aR{i j pos}:PE X (.Constant (.int i) j pos) (tC (.int i)):=fun _ _ _ H _ I h=>wpAny_Constant_int ⟨.int i,H,I.tok _,⟨_,rfl⟩,h⟩
theorem dj{b j pos}:PE X (.Constant (.bool b) j pos) (tC (.bl b)):=fun _ _ _ H _ I h=>Constant_bool ⟨.bl b,H,I,rfl,h⟩
theorem bu{j pos}:PE X (.Constant .none j pos) (tC .non):=fun _ _ _ H _ I h=>Constant_none ⟨.non,H,I,rfl,h⟩
theorem F9{x j pos}:PE X (.Constant (.str x) j pos) (tC (.str x)):=fun _ _ _ H _ I h=>Calls.Constant_str ⟨.str x,H,I.tok _,⟨_,rfl⟩,h⟩
def Gl(X:Cx)(x:Str):Prop:=X.env.kindOf x=some .globalImplicit
theorem kK{E:Value->Shared->Prop}{pins:List (Addr×Obj)}{s:Shared}{σ:St}{H:Hp}{x:Str}{u:Value}{pos:Pos}{Q:Value->Shared->Prop}(I:aH X pins σ H s)(hg:Gl X x)(hm:X.mg x=some u)(h:Q u s)
  (hd:(x==("__debug__":Str))=false:=by decide):wpAny (model X.prog X.w) X.A (eval (.Name x pos) X.env) Q E s:=
 Calls.Name_function_global I.ok.kind hg (Calls.loadGlobal_global (by rw[I.ok.glob];exact I.mod.glob.keeps I.bk) hm h) hd
theorem j8{E:Value->Shared->Prop}{pins:List (Addr×Obj)}{s:Shared}{σ:St}{H:Hp}{x:Str}{u:Value}{pos:Pos}{Q:Value->Shared->Prop}(I:aH X pins σ H s)(hg:Gl X x)(hm:X.mg x=none)(hv:bootBuiltins x=some u)(h:Q u s)
  (hn:x≠"__name__":=by decide)(hd:(x==("__debug__":Str))=false:=by decide):wpAny (model X.prog X.w) X.A (eval (.Name x pos) X.env) Q E s:=by
 obtain⟨mb,h1,h2⟩:=I.mod.blt
 exact Calls.Name_function_global I.ok.kind hg (Calls.loadGlobal_builtin (by rw[I.ok.glob];exact I.mod.glob.keeps I.bk) hm (by rw[I.ok.blt];exact h1.keeps I.bk) ((h2 x hn).trans hv) h) hd
theorem tQ{x:Str}{v:V}{u:Value}{pos:Pos}(hg:Gl X x)(hm:X.mg x=some u)(r:RelV v u)(hd:(x==("__debug__":Str))=false:=by decide):PE X (.Name x pos) (tC v):=
 fun _ _ _ H _ I h=>kK I hg hm ⟨v,H,I,r,h⟩ hd
variable{a b:Expr}{ta tb:TE}{pos:Pos}
def tB(t:TE):TT:=fun σ H Q=>t σ H fun x H1=>∃c,x=.bl c/\Q c H1
theorem Fb{e:Expr}{t:TE}(h:PE X e t)(he:∀whole,isTrue e X.env whole=(do let v<-whole;standAt e.pos;holding [v] (truthy v)):=by intro _;rfl):PT X e (tB t):=by
 intro pins s σ H Q I hw
 refine isTrue_plain (af (h pins s σ H _ I hw) fun v s1 ⟨x,H1,I1,r1,q1⟩=>?_) (he _)
 obtain⟨d,rfl,q⟩:=q1
 cases r1
 exact wpAny_truthy_bool ⟨H1,I1,q⟩
variable{tA tB':TT}{rest:List Expr}
def yk(t u:TT):TT:=fun σ H Q=>t σ H fun c H1=>if c=true then u σ H1 Q else Q false H1
def Fc(t u:TT):TT:=fun σ H Q=>t σ H fun c H1=>if c=true then Q true H1 else u σ H1 Q
def ym(t:TT):TT:=fun σ H Q=>t σ H fun c H1=>Q (!c) H1
theorem lG(ha:PT X a tA):PW X (.BoolOp .And [a] pos) tA:=by
 intro wh pins s σ H Q I h
 refine isTrue_and (af (ha pins s σ H Q I h) fun c s1 e=>?_)
 cases c with
 |true=>exact isTrue_and_nil e
 |false=>exact e
theorem ie(ha:PT X a tA):PW X (.BoolOp .Or [a] pos) tA:=by
 intro wh pins s σ H Q I h
 refine isTrue_or (af (ha pins s σ H Q I h) fun c s1 e=>?_)
 cases c with
 |false=>exact isTrue_or_nil e
 |true=>exact e
theorem lH(ha:PT X a tA)(hb:PW X (.BoolOp .And (b::rest) pos) tB'):PW X (.BoolOp .And (a::b::rest) pos) (yk tA tB'):=by
 intro wh pins s σ H Q I h
 refine isTrue_and (af (ha pins s σ H _ I h) fun c s1 ⟨H1,I1,q1⟩=>?_)
 cases c with
 |true=>exact hb wh pins s1 σ H1 Q I1 q1
 |false=>exact⟨H1,I1,q1⟩
theorem iF(ha:PT X a tA)(hb:PW X (.BoolOp .Or (b::rest) pos) tB'):PW X (.BoolOp .Or (a::b::rest) pos) (Fc tA tB'):=by
 intro wh pins s σ H Q I h
 refine isTrue_or (af (ha pins s σ H _ I h) fun c s1 ⟨H1,I1,q1⟩=>?_)
 cases c with
 |true=>exact⟨H1,I1,q1⟩
 |false=>exact hb wh pins s1 σ H1 Q I1 q1
theorem dH(ha:PT X a tA):PT X (.UnaryOp .Not a pos) (ym tA):=by
 intro pins s σ H Q I h
 exact isTrue_not (ha pins s σ H (fun c H1=>Q (!c) H1) I h)
def tR(ta tb:TE):TE:=fun σ H Q=>ta σ H fun x H1=>∃c,x=.bl c/\if c=true then tb σ H1 Q else Q (.bl false) H1
theorem lI{op}{t:TE}(h:PE X a t):PE X (.BoolOp op [a] pos) t:=fun pins s σ H Q I hw=>BoolOp_one (h pins s σ H Q I hw)
theorem lJ(ha:PE X a ta)(hb:PE X (.BoolOp .And (b::rest) pos) tb):PE X (.BoolOp .And (a::b::rest) pos) (tR ta tb):=by
 intro pins s σ H Q I h
 refine BoolOp_and (af (ha pins s σ H _ I h) fun v s1 ⟨x,H1,I1,r1,q1⟩=>?_)
 obtain⟨c,rfl,q1⟩:=q1
 cases r1
 refine wpAny_truthy_bool ?_
 cases c with
 |true=>exact hb pins s1 σ H1 Q I1 q1
 |false=>exact⟨.bl false,H1,I1,rfl,q1⟩
def pI(t:TT)(ta tb:TE):TE:=fun σ H Q=>t σ H fun c H1=>if c=true then ta σ H1 Q else tb σ H1 Q
theorem iG{c:Expr}(hc:PT X c tA)(ha:PE X a ta)(hb:PE X b tb):PE X (.IfExp c a b pos) (pI tA ta tb):=by
 intro pins s σ H Q I h
 refine wpAny_IfExp (af (hc pins s σ H _ I h) fun d s1 ⟨H1,I1,q1⟩=>?_)
 cases d with
 |true=>exact ha pins s1 σ H1 Q I1 q1
 |false=>exact hb pins s1 σ H1 Q I1 q1
end
def aE(K:aD)(H:Hp)(a:Addr)(xs:List V):Prop:=
 Rd H a (.lst xs)\/
  ∃(o:Obj) (its:Array Value) (n:Nat),K.lookup a=some o/\o.cls=.type "list"/\o.dict=none/\o.data=.seq its n/\its.size<=sizeLine/\ab xs its.toList
def aW(K:aD)(H:Hp)(a:Addr)(xs:List V):Prop:=
 Rd H a (.tup xs)\/
  ∃(o:Obj) (its:Array Value) (n:Nat),K.lookup a=some o/\o.cls=.type "tuple"/\o.data=.seq its n/\its.size<=sizeLine/\ab xs its.toList
def pK:Value->Option V
 |.none=>some .non
 |.bool b=>some (.bl b)
 |.int i _=>some (.int i)
 |.str x _=>some (.str x)
 |.bytes b _=>some (.byt b)
 |.float b _=>some (.flt b)
 |.ref a=>some (.ref a)
 |.type n=>some (.ty n)
 |_=>none
theorem RelV.abs{x:V}{u:Value}(r:RelV x u):pK u=some x:=by
 cases x with
 |non=>cases r;rfl
 |bl _=>cases r;rfl
 |int _=>obtain⟨t,rfl⟩:=r;rfl
 |str _=>obtain⟨t,rfl⟩:=r;rfl
 |byt _=>obtain⟨t,rfl⟩:=r;rfl
 |flt _=>obtain⟨t,rfl⟩:=r;rfl
 |ref _=>cases r;rfl
 |ty _=>cases r;rfl
theorem RelV.inj{x y:V}{u:Value}(r:RelV x u)(q:RelV y u):x=y:=bL (r.abs.symm.trans q.abs)
theorem ab.inj:∀{xs ys:List V} {us:List Value},ab xs us->ab ys us->xs=ys
 |_,_,_,.nil,.nil=>rfl
 |_,_,_,.cons r t,.cons r' t'=>by rw[r.inj r',ab.inj t t']
section
variable{X:Cx}{pins:List (Addr×Obj)}{σ:St}{H:Hp}{s:Shared}{a:Addr}{xs ys:List V}
theorem aE.of{K:aD}(h:H a=some (.lst xs)):aE K H a xs:=.inl (.inl h)
theorem aW.of{K:aD}(h:H a=some (.tup xs)):aW K H a xs:=.inl (.inl h)
theorem aH.list(I:aH X pins σ H s)(h:aE X.K H a xs):∃its:List Value,ab xs its/\PlainL s.heap a its.toArray/\xs.length<=sizeLine:=by
 rcases h with h|⟨o,its,n,hk,hc,hd,hs,hz,r⟩
 ·obtain⟨z,its,n,r,e⟩:=h.ok I.hok
  exact⟨its,r,⟨_,n,e,rfl,rfl,rfl⟩,z⟩
 ·refine⟨its.toList,r,⟨o,n,I.kIn a o hk,hc,hd,by simpa using hs⟩,?_⟩
  have e:=r.length
  simp only[oN] at e
  omega
theorem aH.tuple(I:aH X pins σ H s)(h:aW X.K H a xs):∃its:List Value,ab xs its/\IsTup s.heap a its.toArray/\xs.length<=sizeLine:=by
 rcases h with h|⟨o,its,n,hk,hc,hs,hz,r⟩
 ·obtain⟨z,its,r,p⟩:=h.ok I.hok
  exact⟨its,r,p,z⟩
 ·refine⟨its.toList,r,⟨o,I.kIn a o hk,hc,n,by simpa using hs⟩,?_⟩
  have e:=r.length
  simp only[oN] at e
  omega
theorem aH.list_inj(I:aH X pins σ H s)(h:aE X.K H a xs)(h':aE X.K H a ys):xs=ys:=by
 obtain⟨its,r,⟨o,n,e,_,_,d⟩,_⟩:=I.list h
 obtain⟨its',r',⟨o',n',e',_,_,d'⟩,_⟩:=I.list h'
 rw[e] at e';cases e'
 rw[d] at d'
 injection d' with d1 _
 have:its=its':=by simpa using congrArg Dk d1
 subst this
 exact r.inj r'
theorem aH.tuple_inj(I:aH X pins σ H s)(h:aW X.K H a xs)(h':aW X.K H a ys):xs=ys:=by
 obtain⟨its,r,⟨o,e,_,n,d⟩,_⟩:=I.tuple h
 obtain⟨its',r',⟨o',e',_,n',d'⟩,_⟩:=I.tuple h'
 rw[e] at e';cases e'
 rw[d] at d'
 injection d' with d1 _
 have:its=its':=by simpa using congrArg Dk d1
 subst this
 exact r.inj r'
end
abbrev Cx.wish(X:Cx)(E:Value->Shared->Prop):Cx:={X with xe:=E}
abbrev Cx.nox(X:Cx):Cx:=X.wish fun _ _=>False
theorem Cx.Ok.wish{X:Cx}(ok:X.Ok)(E:Value->Shared->Prop):(X.wish E).Ok:=
 ⟨ok.mod,ok.kind,ok.glob,ok.blt,ok.above,ok.inj,ok.has,ok.cab,ok.hd,ok.frames,ok.stk,ok.exf,ok.bs,ok.bsz,ok.noex,ok.exfs,ok.funs,ok.frf⟩
theorem Cx.Ok.unwish{X:Cx}{E:Value->Shared->Prop}(ok:(X.wish E).Ok):X.Ok:=
 ⟨ok.mod,ok.kind,ok.glob,ok.blt,ok.above,ok.inj,ok.has,ok.cab,ok.hd,ok.frames,ok.stk,ok.exf,ok.bs,ok.bsz,ok.noex,ok.exfs,ok.funs,ok.frf⟩
section
variable{X:Cx}{pins:List (Addr×Obj)}{σ:St}{H:Hp}{s:Shared}{E:Value->Shared->Prop}
theorem aH.wish(I:aH X pins σ H s)(E:Value->Shared->Prop):aH (X.wish E) pins σ H s:=⟨I.ok.wish E,I.os,I.bare,I.base,I.loc,I.cell,I.free,I.freeC,I.pin,I.hok,I.len⟩
theorem aH.unwish(I:aH (X.wish E) pins σ H s):aH X pins σ H s:=⟨I.ok.unwish,I.os,I.bare,I.base,I.loc,I.cell,I.free,I.freeC,I.pin,I.hok,I.len⟩
theorem SP.unwish{D:Ends}{f:Flow}{s':Shared}(h:SP (X.wish E) pins D f s'):SP X pins D f s':=by
 cases f with
 |next=>obtain⟨σ',H',I,q⟩:=h;exact⟨σ',H',I.unwish,q⟩
 |brk=>obtain⟨σ',H',I,q⟩:=h;exact⟨σ',H',I.unwish,q⟩
 |cont=>obtain⟨σ',H',I,q⟩:=h;exact⟨σ',H',I.unwish,q⟩
 |ret u=>obtain⟨v,σ',H',I,r,q⟩:=h;exact⟨v,σ',H',I.unwish,r,q⟩
theorem eY.nox{st:List Stmt}{t:TS}(h:eY X.nox st t):eY X st t:=fun pins s σ H D I hw=>
 wpAny_mono (h pins s σ H D (I.wish _) hw) (fun _ _ q=>q.unwish) fun _ _ z=>fH z
end
section
variable{X:Cx}{st:Stmt}{rest:List Stmt}{t u:TS}{e:Expr}{te:TE}{pos:Pos}
def tS:TS:=fun D σ H=>D.nx σ H
def ig(t u:TS):TS:=fun D σ H=>t {D with nx:=u D} σ H
theorem ay:eY X [] tS:=fun _ _ σ H _ I h=>wpAny_execs_nil ⟨σ,H,I,h⟩
theorem aG(h1:PS X st t)(h2:eY X rest u):eY X (st::rest) (ig t u):=by
 intro pins s σ H D I h
 refine wpAny_execs_cons (af (h1 pins s σ H {D with nx:=u D} I h) fun f s1 q=>?_)
 cases f with
 |next=>
  obtain⟨σ',H',I',q⟩:=q
  exact h2 pins s1 σ' H' D I' q
 |ret v=>exact q
 |brk=>exact q
 |cont=>exact q
theorem aI(h1:PS X st t):eY X [st] t:=by
 intro pins s σ H D I h
 refine wpAny_execs_cons (af (h1 pins s σ H D I h) fun f s1 q=>?_)
 cases f with
 |next=>exact wpAny_execs_nil q
 |ret v=>exact q
 |brk=>exact q
 |cont=>exact q
theorem aH.quiet{pins:List (Addr×Obj)}{σ:St}{H:Hp}{s:Shared}(I:aH X pins σ H s):interactive X.env=false:=by simp[interactive,I.ok.kind]
def jH(te:TE):TS:=fun D σ H=>te σ H fun _ H1=>D.nx σ H1
theorem bV(he:PE X e te)(hs:swapsWith e none pos.line X.env=pure false:=by rfl):PS X (.Expr e pos) (jH te):=by
 intro pins s σ H D I h
 exact wpAny_Expr_any (af (he pins s σ H _ I h) fun v s1 ⟨x,H1,I1,r1,q1⟩=>⟨σ,H1,I1,q1⟩) I.quiet hs
def eZ(te:TE):TS:=fun D σ H=>te σ H D.rt
theorem aN(he:PE X e te):PS X (.Return (some e) pos) (eZ te):=by
 intro pins s σ H D I h
 exact wpAny_Return_some (af (he pins s σ H _ I h) fun v s1 ⟨x,H1,I1,r1,q1⟩=>⟨x,σ,H1,I1,r1,q1⟩)
def tT(c:TT)(t u:TS):TS:=fun D σ H=>c σ H fun b H1=>if b=true then t D σ H1 else u D σ H1
theorem aj{c:Expr}{a b:List Stmt}{tc:TT}(hc:PT X c tc)(ha:eY X a t)(hb:eY X b u):PS X (.If c a b pos) (tT tc t u):=by
 intro pins s σ H D I h
 refine wpAny_If (af (hc pins s σ H _ I h) fun d s1 ⟨H1,I1,q1⟩=>?_)
 cases d with
 |true=>exact ha pins s1 σ H1 D I1 q1
 |false=>exact hb pins s1 σ H1 D I1 q1
def Fd:TS:=fun _ _ _=>False
theorem yn{sts:List Stmt}:eY X sts Fd:=fun _ _ _ _ _ _ h=>h.elim
end
abbrev TG:=V->St->Hp->(St->Hp->Prop)->Prop
abbrev kL:=List V->St->Hp->(St->Hp->Prop)->Prop
def PG(X:Cx)(target:Expr)(t:TG):Prop:=
 ∀(pins:List (Addr×Obj)) (s:Shared) (σ:St) (H:Hp) (v:V) (u:Value) (Q:St->Hp->Prop),aH X pins σ H s->RelV v u->t v σ H Q->
  wpAny (model X.prog X.w) X.A (assign target X.env u) (fun _ s'=>∃σ' H',aH X pins σ' H' s'/\Q σ' H') X.xe s
def pL(X:Cx)(ts:List Expr)(t:kL):Prop:=
 ∀(pins:List (Addr×Obj)) (s:Shared) (σ:St) (H:Hp) (vs:List V) (us:List Value) (Q:St->Hp->Prop),aH X pins σ H s->ab vs us->t vs σ H Q->
  wpAny (model X.prog X.w) X.A (assignInOrder ((assignEach ts X.env).map (·.2)) us) (fun _ s'=>∃σ' H',aH X pins σ' H' s'/\Q σ' H') X.xe s
abbrev tU:=V->V->V->Hp->(Hp->Prop)->Prop
def yo(X:Cx)(t:tU):Prop:=
 ∀(pins:List (Addr×Obj)) (s:Shared) (σ:St) (H:Hp) (o i v:V) (ov iv u:Value) (Q:Hp->Prop),aH X pins σ H s->RelV o ov->RelV i iv->RelV v u->t o i v H Q->
  wpAny (model X.prog X.w) X.A (setItem ov iv u) (fun _ s'=>∃H',aH X pins σ H' s'/\Q H') X.xe s
abbrev pM:=V->V->Hp->VK->Prop
def tV(X:Cx)(op:Operator)(t:pM):Prop:=
 ∀(pins:List (Addr×Obj)) (s:Shared) (σ:St) (H:Hp) (x y:V) (v u:Value) (Q:VK),aH X pins σ H s->RelV x v->RelV y u->t x y H Q->
  wpAny (model X.prog X.w) X.A (inplaceOp op v u) (EP X pins σ Q) X.xe s
section
variable{X:Cx}{pos:Pos}
def eO(i:Nat):TG:=fun v σ H Q=>Q (σ.set i (some v)) H
theorem bN{i:Nat}{x:Str}(hN:X.N.Nodup)(hi:X.N[i]? =some x)(hx:Loc X.env.scope x)(hf:X.fn x=true\/X.env.scope.names.lookup x=some .local:=by first|exact .inl rfl|exact .inr rfl|assumption):PG X (.Name x pos) (eO i):=by
 intro pins s σ H v u Q I r h
 exact wpAny_assign_Name (tP I hN hi hx r (fun s' I'=>⟨_,H,I',h⟩) hf)
def lK:kL:=fun vs σ H Q=>vs=[]/\Q σ H
def iH(t:TG)(u:kL):kL:=fun vs σ H Q=>∃v r,vs=v::r/\t v σ H fun σ' H'=>u r σ' H' Q
theorem jI:pL X [] lK:=by
 intro pins s σ H vs us Q I r h
 obtain⟨e,h⟩:=h
 subst e
 cases r
 exact assignInOrder_nil ⟨σ,H,I,h⟩
theorem dv{e:Expr}{es:List Expr}{t:TG}{u:kL}(h1:PG X e t)(h2:pL X es u)
  (hs:(assignEach (e::es) X.env).map (·.2)=assign e X.env::(assignEach es X.env).map (·.2):=by rfl):pL X (e::es) (iH t u):=by
 intro pins s σ H vs us Q I r h
 obtain⟨v,vr,e1,h⟩:=h
 subst e1
 cases r with
 |cons r rr=>
  rw[hs]
  refine assignInOrder_cons (af (h1 pins s σ H _ _ _ I r h) fun _ s1 ⟨σ1,H1,I1,q1⟩=>?_)
  exact h2 pins s1 σ1 H1 _ _ Q I1 rr q1
def lL(K:aD)(n:Nat)(t:kL):TG:=fun v σ H Q=>∃a xs,v=.ref a/\aW K H a xs/\xs.length=n/\t xs σ H Q
theorem jJ{es:List Expr}{k:Nat}{t:kL}{n:Nat}(hc:X.calm=true)(h:pL X es t)
  (hn:(assignEach es X.env).length=n:=by rfl)(hst:(assignEach es X.env).findIdx? (·.1)=none:=by rfl):PG X (.Tuple es k pos) (lL X.K n t):=by
 intro pins s σ H v u Q I r hw
 obtain⟨a,xs,e1,hq,hl,hw⟩:=hw
 subst e1
 cases r
 obtain⟨its,rv,ht,hz⟩:=I.tuple hq
 refine assign_Tuple_tuple (I.ok.hd hc) ht (by simp[hn,<-hl,rv.length]) hst fun h' hx=>?_
 have I1:aH X pins σ H {s with heap:=h'}:=I.kept (t':=s.toks) fun b o e=>hx b o (fG (Heap.lt_size e)) e
 exact h pins _ σ H xs _ Q I1 (by simpa using rv) hw
def Fe(to ti:TE)(t:tU):TG:=fun v σ H Q=>to σ H fun o H1=>ti σ H1 fun i H2=>t o i v H2 fun H3=>Q σ H3
theorem jK{o i:Expr}{to ti:TE}{t:tU}(ho:PE X o to)(hi:PE X i ti)(hs:yo X t)
  (ha:∀v,assign (.Subscript o i pos) X.env v=(do
   let ov<-holding [v] (eval o X.env)
   let iv<-holding [v,ov] (eval i X.env)
   standAt pos
   holding [v,ov,iv] (setItem ov iv v)
   release [v,ov,iv] []):=by intro _;rfl):PG X (.Subscript o i pos) (Fe to ti t):=by
 intro pins s σ H v u Q I r h
 rw[ha]
 refine wpAny_bind (wpAny_holding (af (ho pins s σ H _ I h) fun ov s1 ⟨x,H1,I1,r1,q1⟩=>?_))
 refine wpAny_bind (wpAny_holding (af (hi pins s1 σ H1 _ I1 q1) fun iv s2 ⟨y,H2,I2,r2,q2⟩=>?_))
 refine wpAny_bind (wpAny_standAt (wpAny_bind (wpAny_holding (af (hs pins s2 σ H2 x y v ov iv u _ I2 r1 r2 r q2) fun _ s3 ⟨H3,I3,q3⟩=>?_))))
 exact wpAny_release ⟨σ,H3,I3,q3⟩
def mZ(te:TE)(g:TG):TS:=fun D σ H=>te σ H fun x H1=>g x σ H1 D.nx
theorem jL{tg e:Expr}{te:TE}{g:TG}(he:PE X e te)(hg:PG X tg g)(hs:swapsWithSole [tg] e pos.line X.env=pure false:=by rfl)(hw:swappedStores [tg] e X.env=pure none:=by rfl)
  (h1:(assignEach [tg] X.env).map (·.2)=[assign tg X.env]:=by rfl):PS X (.Assign [tg] e pos) (mZ te g):=by
 intro pins s σ H D I h
 refine wpAny_Assign_stores (af (he pins s σ H _ I h) fun v s1 ⟨x,H1,I1,r1,q1⟩=>?_) hs hw
 rw[h1]
 exact af (hg pins s1 σ H1 x v _ I1 r1 q1) fun _ s2 q=>q
theorem aT{i:Nat}{x:Str}{e:Expr}{te:TE}{pos':Pos}(hN:X.N.Nodup)(hi:X.N[i]? =some x)(hx:Loc X.env.scope x)(he:PE X e te)(hs:swapsWith e (some (.Name x pos')) pos.line X.env=pure false:=by rfl)(hf:X.fn x=true\/X.env.scope.names.lookup x=some .local:=by first|exact .inl rfl|exact .inr rfl|assumption):
  PS X (.Assign [.Name x pos'] e pos) (mZ te (eO i)):=by
 intro pins s σ H D I h
 refine wpAny_Assign_Name (af (he pins s σ H _ I h) fun v s1 ⟨y,H1,I1,r1,q1⟩=>?_) hs
 exact tP I1 hN hi hx r1 (fun s2 I2=>⟨_,H1,I2,q1⟩) hf
def yp(i:Nat)(te:TE)(ti:pM):TS:=fun D σ H=>∃x,σ[i]? =some (some x)/\te σ H fun y H1=>ti x y H1 fun z H2=>D.nx (σ.set i (some z)) H2
theorem j9{i:Nat}{x:Str}{e:Expr}{te:TE}{op:Operator}{ti:pM}{pos':Pos}(hN:X.N.Nodup)(hi:X.N[i]? =some x)(hx:Loc X.env.scope x)(he:PE X e te)(ho:tV X op ti)(hf:X.fn x=true\/X.env.scope.names.lookup x=some .local:=by first|exact .inl rfl|exact .inr rfl|assumption):
  PS X (.AugAssign (.Name x pos') op e pos) (yp i te ti):=by
 intro pins s σ H D I h
 obtain⟨v,e1,h⟩:=h
 obtain⟨m,hn,hl⟩:=I.loc
 have vis:kJ X.env.scope x:=by rcases hx with k|k;exact .inl k;exact .inr (.inl k)
 obtain⟨u,r,l⟩:=hl i x v hi e1 vis
 refine wpAny_AugAssign_Name ?_
 have go:wpAny (model X.prog X.w) X.A (eval e X.env) (fun w s₂=>wpAny (model X.prog X.w) X.A (inplaceOp op u w) (fun r s₃=>wpAny (model X.prog X.w) X.A (storeName X.env x r) (fun _=>SP X pins D .next) X.xe s₃) X.xe s₂) X.xe s:=by
  refine af (he pins s σ H _ I h) fun w s1 ⟨y,H1,I1,r1,q1⟩=>?_
  refine af (ho pins s1 σ H1 v y u w _ I1 r r1 q1) fun z s2 ⟨zv,H2,I2,r2,q2⟩=>?_
  exact tP I2 hN hi hx r2 (fun s3 I3=>⟨_,H2,I3,q2⟩) hf
 rcases l with⟨hk,hm⟩|⟨hk,c,hc,hcell⟩
 ·exact wpAny_loadName_local I.ok.kind hk hn hm go
 ·rcases hk with hk|hk
  ·exact wpAny_loadName_cell I.ok.kind hk hc hcell go
  ·rcases hx with k|k
   ·have:X.env.scope.names.lookup x=some .free:=hk
    rw[k] at this;cases this
   ·have:X.env.scope.names.lookup x=some .free:=hk
    rw[k] at this;cases this
def tW(f:Int->Int->Int):pM:=fun x y H Q=>∃i j,x=.int i/\y=.int j/\Q (.int (f i j)) H
theorem kM:tV X .Add (tW fun i j=>i+j):=by
 intro pins s σ H x y v u Q I r1 r2 h
 obtain⟨i,j,e1,e2,q⟩:=h
 subst e1;subst e2
 obtain⟨t,rfl⟩:=r1
 obtain⟨t',rfl⟩:=r2
 exact iadd_int ⟨.int _,H,I.tok _,⟨_,rfl⟩,q⟩
theorem Ff:tV X .Sub (tW fun i j=>i-j):=by
 intro pins s σ H x y v u Q I r1 r2 h
 obtain⟨i,j,e1,e2,q⟩:=h
 subst e1;subst e2
 obtain⟨t,rfl⟩:=r1
 obtain⟨t',rfl⟩:=r2
 exact isub_int ⟨.int _,H,I.tok _,⟨_,rfl⟩,q⟩
end
section
variable{X:Cx}{pos:Pos}
def yq(c:TT)(tb:TS):TS:=fun D σ H=>∃W:Nat->St->Hp->Prop,(∃m,W m σ H)/\∀m σ H,W m σ H->
 c σ H fun b H1=>if b=true then∃N:St->Hp->Prop,(∀σ' H',N σ' H'->∃m',m'<m/\W m' σ' H')/\tb {D with nx:=N,ct:=N,bk:=D.nx} σ H1 else D.nx σ H1
theorem iI{c:Expr}{body:List Stmt}{tc:TT}{tb:TS}(hp:PassesOwn (model X.prog X.w) X.A X.env X.xe)(hc:PT X c tc)(hb:eY X body tb):PS X (.While c body [] pos) (yq tc tb):=by
 intro pins s σ H D I h
 obtain⟨W,⟨m0,w0⟩,turn⟩:=h
 refine wpAny_While (codeAny_whileLoop (fun n s'=>∃σ' H',aH X pins σ' H' s'/\W n σ' H') ?_ m0 ⟨σ,H,I,w0⟩)
 rintro n s1 ⟨σ1,H1,I1,w1⟩
 refine wpAny_passesOwn hp (af (hc pins s1 σ1 H1 _ I1 (turn n σ1 H1 w1)) fun b s2 ⟨H2,I2,q2⟩=>?_)
 cases b with
 |true=>
  obtain⟨N,hN,q2⟩:=q2
  rw[if_pos rfl]
  refine wpAny_passesOwn hp (af (hb pins s2 σ1 H2 _ I2 q2) fun f s3 q3=>?_)
  cases f with
  |next=>
   obtain⟨σ3,H3,I3,n3⟩:=q3
   obtain⟨m',hm,w3⟩:=hN σ3 H3 n3
   exact⟨m',hm,σ3,H3,I3,w3⟩
  |cont=>
   obtain⟨σ3,H3,I3,n3⟩:=q3
   obtain⟨m',hm,w3⟩:=hN σ3 H3 n3
   exact⟨m',hm,σ3,H3,I3,w3⟩
  |brk=>exact q3
  |ret v=>exact q3
 |false=>
  rw[if_neg dQ]
  exact wpAny_execs_nil ⟨σ1,H2,I2,q2⟩
end
structure It where
 go:Nat->Hp->Prop
 yld:Nat->Hp->V->Hp->Prop
 stop:Nat->Hp->Prop
def gX(X:Cx)(pins:List (Addr×Obj))(H:Hp)(b:Addr):Prop:=
 H b=none/\b≠X.env.locals/\b∉X.fs/\(b∈X.ex\/X.s_0.heap.objs.size<=b)/\(∀x c,X.env.cells.lookup x=some c->c≠b)/\∀p∈X.pn++pins,p.1≠b
theorem aH.fpOk{X:Cx}{pins:List (Addr×Obj)}{σ:St}{H H':Hp}{s:Shared}{b:Addr}(I:aH X pins σ H s)(hb:s.heap.objs.size<=b)(hn:H' b=none):gX X pins H' b:=by
 refine⟨hn,Dl (fF I.lt hb),I.nofs hb,.inr (bW I.sz hb),fun x c e z=>?_,fun p hp z=>?_⟩
 ·obtain⟨v,q⟩:=I.cell x c e
  exact absurd (fF q.lt (by rw[z];exact hb)) (jV _)
 ·exact absurd (fF (Heap.lt_size (I.pin p hp).1) (by rw[z];exact hb)) (jV _)
structure Turn (P:Program) (w:World) (K:aD) (tg:Expr) (J:It) (fp:List Addr) (it:Addr) (tn:Nat->Heap->Prop):Prop where
 mem:it∈fp
 obj:∀i h,tn i h->∀b∈fp,∃o,h.get? b=some o/\∀v,o.data≠ .cell v
 keep:∀i h h',tn i h->(∀b∈fp,∀o,h.get? b=some o->h'.get? b=some o)->tn i h'
 item:∀(X:Cx),X.prog=P->X.w=w->X.K=K->X.calm=true->∀(i:Nat) (pins:List (Addr×Obj)) (s:Shared) (σ:St) (H:Hp) (E:Value->Shared->Prop),aH X pins σ H s->(∀b∈fp,gX X pins H b)->tn i s.heap->J.go i H->
  wpAny (model P w) X.A (pyNext (.ref it)) (fun r s1=>∃u,r=some u/\
   wpAny (model P w) X.A (letOwnedTupleGo tg (.ref it) u) (fun _ s2=>∃x H',aH X pins σ H' s2/\RelV x u/\J.yld i H x H'/\tn (i+1) s2.heap/\∀b∈fp,H' b=none) E s1) E s
 done:∀(X:Cx),X.prog=P->X.w=w->X.K=K->X.calm=true->∀(i:Nat) (pins:List (Addr×Obj)) (s:Shared) (σ:St) (H:Hp) (E:Value->Shared->Prop),aH X pins σ H s->(∀b∈fp,gX X pins H b)->tn i s.heap->J.stop i H->
  wpAny (model P w) X.A (pyNext (.ref it)) (fun r s1=>r=none/\aH X pins σ H s1) E s
 self:∀(A:Around) (i:Nat) (s:Shared) (Q:Value->Shared->Prop) (E:Value->Shared->Prop),tn i s.heap->Q (.ref it) s->wpAny (model P w) A (pyIter (.ref it)) Q E s
abbrev TI:=St->Hp->(It->Hp->Prop)->Prop
def yr(X:Cx)(pins:List (Addr×Obj))(σ:St)(tg:Expr)(R:It->Hp->Prop)(itv:Value)(s2:Shared):Prop:=
 ∃(it:Addr) (fp:List Addr) (tn:Nat->Heap->Prop) (J:It) (H':Hp),itv=.ref it/\aH X pins σ H' s2/\Turn X.prog X.w X.K tg J fp it tn/\tn 0 s2.heap/\(∀b∈fp,gX X pins H' b)/\R J H'
def PI(X:Cx)(tg iter:Expr)(wi:TI):Prop:=
 ∀(pins:List (Addr×Obj)) (s:Shared) (σ:St) (H:Hp) (R:It->Hp->Prop),aH X pins σ H s->wi σ H R->
  wpAny (model X.prog X.w) X.A (eval iter X.env) (fun v s1=>wpAny (model X.prog X.w) X.A (pyIter v) (yr X pins σ tg R) X.xe s1) X.xe s
theorem ma {M : Model} {A : Around} {E : Value → Shared → Prop} {s : Shared} {tg : Expr} {it : Addr} {u : Value} {o : Obj} {n : String} {vs : Array Value} {Q : Unit → Shared → Prop} (ho : s.heap.get? it = some o) (hc : o.cls = .type n) (hd : o.data = .fields vs)
    (hn : ["enumerate", "zip", "dict_itemiterator", "dict_reverseitemiterator", "odict_iterator", "itertools.zip_longest", "itertools.pairwise"].contains n = false) (hQ : Q () s) : wpAny M A (letOwnedTupleGo tg (.ref it) u) Q E s := by
  unfold letOwnedTupleGo
  cases tg <;> first
    | exact wpAny_pure hQ
    | (cases u <;> first
        | exact wpAny_pure hQ
        | (refine wpAny_bind (wpAny_load ho ?_)
           rw [hc, hd]
           show wpAny M A (if (["enumerate", "zip", "dict_itemiterator", "dict_reverseitemiterator", "odict_iterator", "itertools.zip_longest", "itertools.pairwise"].contains n && vs[0]? == some (rawInt _)) = true then _ else _) Q E s
           rw [if_neg (by intro h; rw [hn, lu] at h; cases h)]
           exact wpAny_pure hQ))
def ja(K:aD)(a:Addr):It:=
 ⟨fun i H=>∃xs x,aE K H a xs/\xs[i]? =some x,fun i H x H'=>H'=H/\∀xs,aE K H a xs->xs[i]? =some x,fun i H=>∃xs,aE K H a xs/\xs.length<=i⟩
def me(K:aD)(a:Addr):It:=
 ⟨fun i H=>∃xs x,aW K H a xs/\xs[i]? =some x,fun i H x H'=>H'=H/\∀xs,aW K H a xs->xs[i]? =some x,fun i H=>∃xs,aW K H a xs/\xs.length<=i⟩
theorem Fg{P:Program}{w:World}{K:aD}{tg:Expr}(a it:Addr):Turn P w K tg (ja K a) [it] it (fun i h=>h.IsListIter it a i) where
 mem:=by simp
 obj:=fun i h st b hb=>by
  have e:b=it:=by simpa using hb
  subst e
  obtain⟨o,e,c,d⟩:=st
  exact⟨o,e,fun v z=>by rw[d] at z;cases z⟩
 keep:=fun i h h' st k=>st.at fun o e=>k it (by simp) o e
 item:=by
  intro X hP hw hK hc i pins s σ H E I hf st hg
  subst hP hw hK
  obtain⟨xs,x,hq,hx⟩:=hg
  obtain⟨its,rv,p,hz⟩:=I.list hq
  obtain⟨u,hu,ru⟩:=rv.get hx
  obtain⟨f0,f1,f2,f3,f4,f5⟩:=hf it (by simp)
  refine wpAny_pyNext_list_item st p.isList (x:=u) (by simpa using hu) fun h' st' sb=>?_
  have I1:aH X pins σ H {s with heap:=h'}:=I.turned (t':=s.toks) (fun b o hb e=>(sb.2 b hb).trans e) f0 f1 f3 f4 f5
  obtain⟨o,e,c,d⟩:=id st'
  exact⟨u,rfl,ma (s:={s with heap:=h'}) e c d (by decide) ⟨x,H,I1,ru,⟨rfl,fun ys hy=>by rw[I.list_inj hy hq];exact hx⟩,st',fun b hb=>(hf b hb).1⟩⟩
 done:=by
  intro X hP hw hK hc i pins s σ H E I hf st hg
  subst hP hw hK
  obtain⟨xs,hq,hx⟩:=hg
  obtain⟨its,rv,p,hz⟩:=I.list hq
  obtain⟨f0,f1,f2,f3,f4,f5⟩:=hf it (by simp)
  have hl:=rv.length
  exact wpAny_pyNext_list_end (I.ok.hd hc) st p.isList (by simp;omega) fun h' eb=>⟨rfl,I.turned (t':=s.toks) (fun b o hb e=>eb b o hb e) f0 f1 f3 f4 f5⟩
 self:=fun _ _ _ _ _ st h=>wpAny_pyIter_listiter st h
theorem Fh{P:Program}{w:World}{K:aD}{tg:Expr}(a it:Addr):Turn P w K tg (me K a) [it] it (fun i h=>h.IsTupleIter it a i) where
 mem:=by simp
 obj:=fun i h st b hb=>by
  have e:b=it:=by simpa using hb
  subst e
  obtain⟨o,e,c,d⟩:=st
  exact⟨o,e,fun v z=>by rw[d] at z;cases z⟩
 keep:=fun i h h' st k=>st.at fun o e=>k it (by simp) o e
 item:=by
  intro X hP hw hK hc i pins s σ H E I hf st hg
  subst hP hw hK
  obtain⟨xs,x,hq,hx⟩:=hg
  obtain⟨its,rv,p,hz⟩:=I.tuple hq
  obtain⟨u,hu,ru⟩:=rv.get hx
  obtain⟨f0,f1,f2,f3,f4,f5⟩:=hf it (by simp)
  refine wpAny_pyNext_tuple_item st (show s.heap.IsTuple a its.toArray from p) (x:=u) (by simpa using hu) fun h' st' sb=>?_
  have I1:aH X pins σ H {s with heap:=h'}:=I.turned (t':=s.toks) (fun b o hb e=>(sb.2 b hb).trans e) f0 f1 f3 f4 f5
  obtain⟨o,e,c,d⟩:=id st'
  exact⟨u,rfl,ma (s:={s with heap:=h'}) e c d (by decide) ⟨x,H,I1,ru,⟨rfl,fun ys hy=>by rw[I.tuple_inj hy hq];exact hx⟩,st',fun b hb=>(hf b hb).1⟩⟩
 done:=by
  intro X hP hw hK hc i pins s σ H E I hf st hg
  subst hP hw hK
  obtain⟨xs,hq,hx⟩:=hg
  obtain⟨its,rv,p,hz⟩:=I.tuple hq
  obtain⟨f0,f1,f2,f3,f4,f5⟩:=hf it (by simp)
  have hl:=rv.length
  exact wpAny_pyNext_tuple_end (I.ok.hd hc) st (show s.heap.IsTuple a its.toArray from p) (by simp;omega) fun h' eb=>⟨rfl,I.turned (t':=s.toks) (fun b o hb e=>eb b o hb e) f0 f1 f3 f4 f5⟩
 self:=fun _ _ _ _ _ st h=>wpAny_pyIter_tupleiter st h
section
variable{X:Cx}{tg:Expr}
def yt(K:aD)(tl:TE):TI:=fun σ H R=>tl σ H fun x H1=>∃a,x=.ref a/\(∃xs,aE K H1 a xs)/\R (ja K a) H1
def Fi(K:aD)(tl:TE):TI:=fun σ H R=>tl σ H fun x H1=>∃a,x=.ref a/\(∃xs,aW K H1 a xs)/\R (me K a) H1
theorem c6{l:Expr}{tl:TE}(hl:PE X l tl):PI X tg l (yt X.K tl):=by
 intro pins s σ H R I h
 refine af (hl pins s σ H _ I h) fun v s1 ⟨x,H1,I1,r1,q1⟩=>?_
 obtain⟨a,e,⟨xs,hq⟩,q⟩:=q1
 subst e
 cases r1
 obtain⟨its,rv,p,hz⟩:=I1.list hq
 refine wpAny_pyIter_list p.isList ?_
 refine⟨s1.heap.objs.size,[s1.heap.objs.size],_,_,H1,rfl,I1.kept (t':=s1.toks) fun b o e=>Heap.get?_push_of_some _ e,Fg a _,⟨_,Heap.get?_push_size _ rfl,rfl,rfl⟩,fun b hb=>?_,q⟩
 have e:b=s1.heap.objs.size:=by simpa using hb
 subst e
 exact I1.fpOk (aY _) (I1.hok.fresh (aY _))
theorem Fj{l:Expr}{tl:TE}(hl:PE X l tl):PI X tg l (Fi X.K tl):=by
 intro pins s σ H R I h
 refine af (hl pins s σ H _ I h) fun v s1 ⟨x,H1,I1,r1,q1⟩=>?_
 obtain⟨a,e,⟨xs,hq⟩,q⟩:=q1
 subst e
 cases r1
 obtain⟨its,rv,p,hz⟩:=I1.tuple hq
 refine wpAny_pyIter_tuple (show s1.heap.IsTuple a its.toArray from p) ?_
 refine⟨s1.heap.objs.size,[s1.heap.objs.size],_,_,H1,rfl,I1.kept (t':=s1.toks) fun b o e=>Heap.get?_push_of_some _ e,Fh a _,⟨_,Heap.get?_push_size _ rfl,rfl,rfl⟩,fun b hb=>?_,q⟩
 have e:b=s1.heap.objs.size:=by simpa using hb
 subst e
 exact I1.fpOk (aY _) (I1.hok.fresh (aY _))
def yu(wi:TI)(g:TG)(tb:TS):TS:=fun D σ H=>wi σ H fun J H1=>∃W:Nat->Nat->St->Hp->Prop,(∃m,W 0 m σ H1)/\∀i m σ H,W i m σ H->
 (J.stop i H/\D.nx σ H)\/(J.go i H/\∃N:St->Hp->Prop,(∀σ' H',N σ' H'->∃m',m'<m/\W (i+1) m' σ' H')/\∀x H',J.yld i H x H'->g x σ H' fun σ2 H2=>tb {D with nx:=N,ct:=N,bk:=D.nx} σ2 H2)
def mf(fp:List Addr)(h:Heap):List (Addr×Obj):=fp.filterMap fun b=>(h.get? b).map fun o=>(b,o)
theorem tX{fp:List Addr}{h:Heap}{b:Addr}{o:Obj}(hb:b∈fp)(e:h.get? b=some o):(b,o)∈mf fp h:=rX.mpr ⟨b,hb,by rw[e];rfl⟩
theorem Fk{fp:List Addr}{h:Heap}{p:Addr×Obj}(hp:p∈mf fp h):p.1∈fp/\h.get? p.1=some p.2:=by
 obtain⟨b,hb,e⟩:=rX.mp hp
 cases q:h.get? b with
 |none=>rw[q] at e;cases e
 |some o=>
  rw[q] at e
  have e':(b,o)=p:=bL e
  subst e'
  exact⟨hb,q⟩
theorem aH.pinned{pins:List (Addr×Obj)}{σ:St}{H:Hp}{s:Shared}{fp:List Addr}(I:aH X pins σ H s)(hf:∀b∈fp,gX X pins H b)(ho:∀b∈fp,∃o,s.heap.get? b=some o/\∀v,o.data≠ .cell v):aH X (pins++mf fp s.heap) σ H s:=
 I.pins_of fun p hp=>(dD.mp hp).elim (fun z=>I.pin p (kn _ z)) fun z=>by
  obtain⟨hb,e⟩:=Fk z
  obtain⟨f0,f1,f2,_⟩:=hf p.1 hb
  obtain⟨o,e',d⟩:=ho p.1 hb
  rw[e] at e';cases e'
  exact⟨e,f0,f1,f2,d⟩
theorem aH.unpinned{pins pl:List (Addr×Obj)}{σ:St}{H:Hp}{s:Shared}(I:aH X (pins++pl) σ H s):aH X pins σ H s:=I.pins_of fun p hp=>I.pin p (kn _ (MM _ hp))
theorem dy{iter:Expr}{body:List Stmt}{wi:TI}{g:TG}{tb:TS}{pos:Pos}(hp:PassesOwn (model X.prog X.w) X.A X.env X.xe)(hc:X.calm=true)(hi:PI X tg iter wi)(hg:PG X tg g)(hb:eY X body tb)
  (hs:∀x,foldedSetIterable iter X.env x=pure x:=by intro _;rfl):PS X (.For tg iter body [] pos) (yu wi g tb):=by
 intro pins s σ H D I h
 refine wpAny_For (af (hi pins s σ H _ I h) fun v s1 h1=>af h1 fun itv s2 h2=>?_) hs
 obtain⟨it,fp,tn,J,H2,e,I2,T,st2,f2,W,⟨m0,w0⟩,turn⟩:=h2
 subst e
 have stat:∀{H':Hp},(∀b∈fp,H' b=none)->∀b∈fp,gX X pins H' b:=fun hn b hb=>⟨hn b hb,(f2 b hb).2⟩
 refine codeAny_forLoop_any (fun n s'=>∃i σ' H',aH X pins σ' H' s'/\tn i s'.heap/\(∀b∈fp,H' b=none)/\W i n σ' H') ?_ m0 ⟨0,σ,H2,I2,st2,fun b hb=>(f2 b hb).1,w0⟩
 rintro n s3 ⟨i,σ3,H3,I3,st3,fr3,w3⟩
 rcases turn i n σ3 H3 w3 with⟨stop,qn⟩|⟨go,N,hN,step⟩
 ·refine wpAny_passesOwn hp (af (T.done X rfl rfl rfl hc i pins s3 σ3 H3 X.xe I3 (stat fr3) st3 stop) fun r s4 ⟨hr,I4⟩=>?_)
  subst hr
  exact wpAny_execs_nil ⟨σ3,H3,I4,qn⟩
 ·refine wpAny_passesOwn hp (af (T.item X rfl rfl rfl hc i pins s3 σ3 H3 X.xe I3 (stat fr3) st3 go) fun r s4 ⟨u,hr,h4⟩=>?_)
  subst hr
  refine wpAny_passesOwn hp (af h4 fun _ s5 ⟨x,H5,I5,r5,y5,st5,fr5⟩=>?_)
  have I5':=I5.pinned (stat fr5) (T.obj _ _ st5)
  refine wpAny_passesOwn hp (af (hg _ s5 σ3 H5 x u _ I5' r5 (step x H5 y5)) fun _ s6 ⟨σ6,H6,I6,q6⟩=>?_)
  refine wpAny_passesOwn hp (af (hb _ s6 σ6 H6 _ I6 q6) fun f s7 q7=>?_)
  have again:∀{σ7:St} {H7:Hp},aH X (pins++mf fp s5.heap) σ7 H7 s7->N σ7 H7->∃m,m<n/\∃i σ' H',aH X pins σ' H' s7/\tn i s7.heap/\(∀b∈fp,H' b=none)/\W i m σ' H':=fun{σ7 H7} I7 n7=>by
   obtain⟨m',hm,w7⟩:=hN σ7 H7 n7
   refine⟨m',hm,i+1,σ7,H7,I7.unpinned,T.keep _ _ _ st5 fun b hb o e=>(I7.pin (b,o) (kn _ (kn _ (tX hb e)))).1,fun b hb=>?_,w7⟩
   obtain⟨o,e,d⟩:=T.obj _ _ st5 b hb
   exact(I7.pin (b,o) (kn _ (kn _ (tX hb e)))).2.1
  cases f with
  |next=>obtain⟨σ7,H7,I7,n7⟩:=q7;exact again I7 n7
  |cont=>obtain⟨σ7,H7,I7,n7⟩:=q7;exact again I7 n7
  |brk=>obtain⟨σ7,H7,I7,q7⟩:=q7;exact⟨σ7,H7,I7.unpinned,q7⟩
  |ret v=>obtain⟨x7,σ7,H7,I7,r7,q7⟩:=q7;exact⟨x7,σ7,H7,I7.unpinned,r7,q7⟩
end
theorem gY{K:aD}{a:Addr}{xs:List V}{g:TG}{tb:TS}{D:Ends}{σ:St}{H:Hp}(Pv:Nat->St->Hp->Prop)(h0:Pv 0 σ H)(hl:∀i σ H,i<=xs.length->Pv i σ H->aE K H a xs)
  (hs:∀i x σ H,xs[i]? =some x->Pv i σ H->g x σ H fun σ2 H2=>tb {D with nx:=Pv (i+1),ct:=Pv (i+1),bk:=D.nx} σ2 H2)(hd:∀σ H,Pv xs.length σ H->D.nx σ H):
  ∃W:Nat->Nat->St->Hp->Prop,(∃m,W 0 m σ H)/\∀i m σ H,W i m σ H->
   ((ja K a).stop i H/\D.nx σ H)\/((ja K a).go i H/\∃N:St->Hp->Prop,(∀σ' H',N σ' H'->∃m',m'<m/\W (i+1) m' σ' H')/\∀x H',(ja K a).yld i H x H'->g x σ H' fun σ2 H2=>tb {D with nx:=N,ct:=N,bk:=D.nx} σ2 H2):=by
 refine⟨fun i m σ H=>m=xs.length-i/\i<=xs.length/\Pv i σ H,⟨xs.length,by simp,bF _,h0⟩,?_⟩
 rintro i m σ H ⟨rfl,hi,p⟩
 have q:=hl i σ H hi p
 by_cases hlt:i<xs.length
 ·refine .inr ⟨⟨xs,xs[i],q,by simp[hlt]⟩,Pv (i+1),fun σ' H' p'=>⟨xs.length-(i+1),by omega,rfl,hlt,p'⟩,fun x H' y=>?_⟩
  obtain⟨e,y⟩:=y
  subst e
  exact hs i x σ _ (y xs q) p
 ·have e:i=xs.length:=by omega
  subst e
  exact .inl ⟨⟨xs,q,aY _⟩,hd σ H p⟩
theorem Fl{K:aD}{a:Addr}{xs:List V}{g:TG}{tb:TS}{D:Ends}{σ:St}{H:Hp}(Pv:Nat->St->Hp->Prop)(h0:Pv 0 σ H)(hl:∀i σ H,i<=xs.length->Pv i σ H->aW K H a xs)
  (hs:∀i x σ H,xs[i]? =some x->Pv i σ H->g x σ H fun σ2 H2=>tb {D with nx:=Pv (i+1),ct:=Pv (i+1),bk:=D.nx} σ2 H2)(hd:∀σ H,Pv xs.length σ H->D.nx σ H):
  ∃W:Nat->Nat->St->Hp->Prop,(∃m,W 0 m σ H)/\∀i m σ H,W i m σ H->
   ((me K a).stop i H/\D.nx σ H)\/((me K a).go i H/\∃N:St->Hp->Prop,(∀σ' H',N σ' H'->∃m',m'<m/\W (i+1) m' σ' H')/\∀x H',(me K a).yld i H x H'->g x σ H' fun σ2 H2=>tb {D with nx:=N,ct:=N,bk:=D.nx} σ2 H2):=by
 refine⟨fun i m σ H=>m=xs.length-i/\i<=xs.length/\Pv i σ H,⟨xs.length,by simp,bF _,h0⟩,?_⟩
 rintro i m σ H ⟨rfl,hi,p⟩
 have q:=hl i σ H hi p
 by_cases hlt:i<xs.length
 ·refine .inr ⟨⟨xs,xs[i],q,by simp[hlt]⟩,Pv (i+1),fun σ' H' p'=>⟨xs.length-(i+1),by omega,rfl,hlt,p'⟩,fun x H' y=>?_⟩
  obtain⟨e,y⟩:=y
  subst e
  exact hs i x σ _ (y xs q) p
 ·have e:i=xs.length:=by omega
  subst e
  exact .inl ⟨⟨xs,q,aY _⟩,hd σ H p⟩
abbrev R2:=V->V->Hp->VK->Prop
def cV(X:Cx)(f:Value->Value->Sem Value)(r:R2):Prop:=
 ∀(pins:List (Addr×Obj)) (s:Shared) (σ:St) (H:Hp) (x y:V) (v u:Value) (Q:VK),aH X pins σ H s->RelV x v->RelV y u->r x y H Q->
  wpAny (model X.prog X.w) X.A (f v u) (EP X pins σ Q) X.xe s
def tY(X:Cx)(f:Value->Sem Value)(r:V->Hp->VK->Prop):Prop:=
 ∀(pins:List (Addr×Obj)) (s:Shared) (σ:St) (H:Hp) (x:V) (v:Value) (Q:VK),aH X pins σ H s->RelV x v->r x H Q->
  wpAny (model X.prog X.w) X.A (f v) (EP X pins σ Q) X.xe s
def jM(X:Cx)(f:Value)(r:List V->Hp->VK->Prop):Prop:=
 ∀(pins:List (Addr×Obj)) (s:Shared) (σ:St) (H:Hp) (xs:List V) (us:List Value) (Q:VK),aH X pins σ H s->ab xs us->r xs H Q->
  wpAny (model X.prog X.w) X.A (call f us) (EP X pins σ Q) X.xe s
def Fm(X:Cx)(r:V->Hp->(Bool->Hp->Prop)->Prop):Prop:=
 ∀(pins:List (Addr×Obj)) (s:Shared) (σ:St) (H:Hp) (x:V) (v:Value) (Q:Bool->Hp->Prop),aH X pins σ H s->RelV x v->r x H Q->
  wpAny (model X.prog X.w) X.A (truthy v) (TP X pins σ Q) X.xe s
def cE(r:R2)(ta tb:TE):TE:=fun σ H Q=>ta σ H fun x H1=>tb σ H1 fun y H2=>r x y H2 Q
def Fn(r:V->Hp->VK->Prop)(ta:TE):TE:=fun σ H Q=>ta σ H fun x H1=>r x H1 Q
def rI(C:Int->Int->Prop)(g:Int->Int->V):R2:=fun x y H Q=>∃i j,x=.int i/\y=.int j/\C i j/\Q (g i j) H
def e8(g:Int->Int->V):R2:=fun x y H Q=>∃i j,x=.int i/\y=.int j/\Q (g i j) H
def rU(g:Int->V):V->Hp->VK->Prop:=fun x H Q=>∃i,x=.int i/\Q (g i) H
section
variable{X:Cx}{a b c:Expr}{ta tb tc:TE}{pos:Pos}
theorem tZ(ha:PE X a ta)(hb:PE X b tb){pins:List (Addr×Obj)}{s:Shared}{σ:St}{H:Hp}{R:V->V->Hp->Prop}(I:aH X pins σ H s)
  (h:ta σ H fun x H1=>tb σ H1 fun y H2=>R x y H2){Q:Value->Shared->Prop}{f:Value->Value->Sem Value}
  (hf:∀v u s2 x y H2,aH X pins σ H2 s2->RelV x v->RelV y u->R x y H2->wpAny (model X.prog X.w) X.A (f v u) Q X.xe s2):
  wpAny (model X.prog X.w) X.A (eval a X.env) (fun v s₁=>wpAny (model X.prog X.w) X.A (eval b X.env) (fun u s₂=>wpAny (model X.prog X.w) X.A (f v u) Q X.xe s₂) X.xe s₁) X.xe s:=by
 refine af (ha pins s σ H _ I h) fun v s1 ⟨x,H1,I1,r1,q1⟩=>?_
 refine af (hb pins s1 σ H1 _ I1 q1) fun u s2 ⟨y,H2,I2,r2,q2⟩=>?_
 exact hf v u s2 x y H2 I2 r1 r2 q2
theorem bH{op:Operator}{r:R2}(ho:cV X (binaryOp op) r)(ha:PE X a ta)(hb:PE X b tb):PE X (.BinOp a op b pos) (cE r ta tb):=by
 intro pins s σ H Q I h
 exact wpAny_BinOp (tZ ha hb I h fun v u s2 x y H2 I2 rx ry q=>ho pins s2 σ H2 x y v u Q I2 rx ry q)
theorem lM{op:UnaryOp}{r:V->Hp->VK->Prop}(ho:tY X (unaryOp op) r)(ha:PE X a ta):PE X (.UnaryOp op a pos) (Fn r ta):=by
 intro pins s σ H Q I h
 exact UnaryOp_ (af (ha pins s σ H _ I h) fun v s1 ⟨x,H1,I1,r1,q1⟩=>ho pins s1 σ H1 x v Q I1 r1 q1)
theorem yx{f:Value->Value->Sem Value}{C:Int->Int->Prop}{g:Int->Int->Int}
  (rule:∀(i j:Int) (t u:Tok) (s:Shared) (Q:Value->Shared->Prop) (E:Value->Shared->Prop),C i j->Q (.int (g i j) s.toks) {s with toks:=s.toks+1}->wpAny (model X.prog X.w) X.A (f (.int i t) (.int j u)) Q E s):
  cV X f (rI C fun i j=>.int (g i j)):=by
 intro pins s σ H x y v u Q I rx ry h
 obtain⟨i,j,rfl,rfl,hc,q⟩:=h
 obtain⟨t,rfl⟩:=rx
 obtain⟨t',rfl⟩:=ry
 exact rule i j t t' s _ _ hc ⟨.int (g i j),H,I.tok _,⟨_,rfl⟩,q⟩
theorem yy{f:Value->Value->Sem Value}{g:Int->Int->Int}
  (rule:∀(i j:Int) (t u:Tok) (s:Shared) (Q:Value->Shared->Prop) (E:Value->Shared->Prop),Q (.int (g i j) s.toks) {s with toks:=s.toks+1}->wpAny (model X.prog X.w) X.A (f (.int i t) (.int j u)) Q E s):
  cV X f (e8 fun i j=>.int (g i j)):=by
 intro pins s σ H x y v u Q I rx ry h
 obtain⟨i,j,rfl,rfl,q⟩:=h
 obtain⟨t,rfl⟩:=rx
 obtain⟨t',rfl⟩:=ry
 exact rule i j t t' s _ _ ⟨.int (g i j),H,I.tok _,⟨_,rfl⟩,q⟩
theorem pN{f:Value->Value->Sem Value}{g:Int->Int->Bool}
  (rule:∀(i j:Int) (t u:Tok) (s:Shared) (Q:Value->Shared->Prop) (E:Value->Shared->Prop),Q (.bool (g i j)) s->wpAny (model X.prog X.w) X.A (f (.int i t) (.int j u)) Q E s):
  cV X f (e8 fun i j=>.bl (g i j)):=by
 intro pins s σ H x y v u Q I rx ry h
 obtain⟨i,j,rfl,rfl,q⟩:=h
 obtain⟨t,rfl⟩:=rx
 obtain⟨t',rfl⟩:=ry
 exact rule i j t t' s _ _ ⟨.bl (g i j),H,I,rfl,q⟩
def pO(i j:Int):Prop:=(-(2^64)<i/\i<2^64)\/(-(2^64)<j/\j<2^64)
theorem pO.ok{i j:Int}(h:pO i j):IntMulOk i j:=by
 rcases h with⟨h1,h2⟩|⟨h1,h2⟩
 ·exact .of_left (intBits_le_64 h1 h2)
 ·exact .of_right (intBits_le_64 h1 h2)
theorem e9:cV X (binaryOp .Add) (e8 fun i j=>.int (i+j)):=yy fun _ _ _ _ _ _ _ q=>add_int q
theorem pP:cV X (binaryOp .Sub) (e8 fun i j=>.int (i-j)):=yy fun _ _ _ _ _ _ _ q=>sub_int q
theorem Fo:cV X (binaryOp .Mult) (rI pO fun i j=>.int (i*j)):=yx fun _ _ _ _ _ _ _ hc q=>mul_int q hc.ok
theorem Fp:cV X (binaryOp .Mod) (rI (fun _ j=>0<j) fun i j=>.int (i%j)):=yx fun i j _ _ _ _ _ hc q=>by
 have h1:(0:Int)<j:=hc
 exact mod_int' (by omega) (by rw[Int.fmod_eq_emod_of_nonneg i (by omega)];exact q)
theorem Ft{f:Value->Sem Value}{g:Int->Int}
  (rule:∀(i:Int) (t:Tok) (s:Shared) (Q:Value->Shared->Prop) (E:Value->Shared->Prop),Q (.int (g i) s.toks) {s with toks:=s.toks+1}->wpAny (model X.prog X.w) X.A (f (.int i t)) Q E s):
  tY X f (rU fun i=>.int (g i)):=by
 intro pins s σ H x v Q I rx h
 obtain⟨i,rfl,q⟩:=h
 obtain⟨t,rfl⟩:=rx
 exact rule i t s _ _ ⟨.int (g i),H,I.tok _,⟨_,rfl⟩,q⟩
theorem lN:tY X (unaryOp .USub) (rU fun i=>.int (-i)):=Ft fun _ _ _ _ _ q=>neg_int q
end
def yz:V->V->Bool
 |.non,.non=>true|.non,.int _=>true|.int _,.non=>true|.non,.bl _=>true|.bl _,.non=>true|.non,.str _=>true|.str _,.non=>true
 |.int _,.int _=>true|.bl _,.bl _=>true|.str _,.str _=>true|.byt _,.byt _=>true
 |.int _,.str _=>true|.str _,.int _=>true|.bl _,.str _=>true|.str _,.bl _=>true
 |_,_=>false
def zB:R2:=fun x y H Q=>yz x y=true/\Q (.bl (decide (x=y))) H
def Fu:R2:=fun x y H Q=>yz x y=true/\Q (.bl (!decide (x=y))) H
theorem zC{i j:Int}:decide (V.int i=V.int j)=(i==j):=by
 rw[ck]
 simp
theorem zD{i j:Bool}:decide (V.bl i=V.bl j)=(i==j):=by
 rw[ck]
 simp
theorem zE{i j:Str}:decide (V.str i=V.str j)=(i==j):=by
 rw[ck]
 simp
theorem zF{i j:Array UInt8}:decide (V.byt i=V.byt j)=(i.toList==j.toList):=by
 rw[ck]
 cases i
 cases j
 simp
section
variable{X:Cx}{a b c:Expr}{ta tb tc:TE}{pos:Pos}
theorem cF{pins:List (Addr×Obj)}{σ:St}{H:Hp}{s:Shared}{Q:VK}{k k':Bool}(I:aH X pins σ H s)(q:Q (.bl k) H)(e:k=k'):EP X pins σ Q (.bool k') s:=by
 subst e
 exact⟨.bl k,H,I,rfl,q⟩
theorem iJ:cV X (compareOp .Eq) zB:=by
 intro pins s σ H x y v u Q I rx ry h
 obtain⟨hs,q⟩:=h
 cases x with
 |non=>
  cases rx
  cases y with
  |non=>cases ry;exact PySem.EqNone.eq_none_none (cF I q (by simp))
  |bl j=>cases ry;exact PySem.EqNone.eq_none_bool (cF I q (by simp))
  |int j=>obtain⟨t',rfl⟩:=ry;exact PySem.EqNone.eq_none_int (cF I q (by simp))
  |str j=>obtain⟨t',rfl⟩:=ry;exact PySem.EqNone.eq_none_str (cF I q (by simp))
  |_=>exact absurd (show false=true from hs) dQ
 |bl i=>
  cases rx
  cases y with
  |non=>cases ry;exact PySem.EqNone.eq_bool_none (cF I q (by simp))
  |bl j=>cases ry;exact eq_bool (cF I q zD)
  |str j=>obtain⟨t',rfl⟩:=ry;exact PySem.EqMixed.eq_bool_str (cF I q (by simp))
  |_=>exact absurd (show false=true from hs) dQ
 |int i=>
  obtain⟨t,rfl⟩:=rx
  cases y with
  |non=>cases ry;exact PySem.EqNone.eq_int_none (cF I q (by simp))
  |int j=>obtain⟨t',rfl⟩:=ry;exact eq_int (cF I q zC)
  |str j=>obtain⟨t',rfl⟩:=ry;exact PySem.EqMixed.eq_int_str (cF I q (by simp))
  |_=>exact absurd (show false=true from hs) dQ
 |str i=>
  obtain⟨t,rfl⟩:=rx
  cases y with
  |non=>cases ry;exact PySem.EqNone.eq_str_none (cF I q (by simp))
  |bl j=>cases ry;exact PySem.EqMixed.eq_str_bool (cF I q (by simp))
  |int j=>obtain⟨t',rfl⟩:=ry;exact PySem.EqMixed.eq_str_int (cF I q (by simp))
  |str j=>obtain⟨t',rfl⟩:=ry;exact eq_str (cF I q zE)
  |_=>exact absurd (show false=true from hs) dQ
 |byt i=>
  obtain⟨t,rfl⟩:=rx
  cases y with
  |byt j=>obtain⟨t',rfl⟩:=ry;exact PySem.W.eq_bytes (cF I q zF)
  |_=>exact absurd (show false=true from hs) dQ
 |_=>cases y<;>exact absurd (show false=true from hs) dQ
theorem mh:cV X (compareOp .NotEq) Fu:=by
 intro pins s σ H x y v u Q I rx ry h
 obtain⟨hs,q⟩:=h
 cases x with
 |non=>
  cases rx
  cases y with
  |non=>cases ry;exact PySem.EqNone.ne_none_none (cF I q (by simp))
  |bl j=>cases ry;exact PySem.EqNone.ne_none_bool (cF I q (by simp))
  |int j=>obtain⟨t',rfl⟩:=ry;exact PySem.EqNone.ne_none_int (cF I q (by simp))
  |str j=>obtain⟨t',rfl⟩:=ry;exact PySem.EqNone.ne_none_str (cF I q (by simp))
  |_=>exact absurd (show false=true from hs) dQ
 |bl i=>
  cases rx
  cases y with
  |non=>cases ry;exact PySem.EqNone.ne_bool_none (cF I q (by simp))
  |bl j=>cases ry;exact ne_bool (cF I q (congrArg not zD))
  |str j=>obtain⟨t',rfl⟩:=ry;exact PySem.EqMixed.ne_bool_str (cF I q (by simp))
  |_=>exact absurd (show false=true from hs) dQ
 |int i=>
  obtain⟨t,rfl⟩:=rx
  cases y with
  |non=>cases ry;exact PySem.EqNone.ne_int_none (cF I q (by simp))
  |int j=>obtain⟨t',rfl⟩:=ry;exact ne_int (cF I q (congrArg not zC))
  |str j=>obtain⟨t',rfl⟩:=ry;exact PySem.EqMixed.ne_int_str (cF I q (by simp))
  |_=>exact absurd (show false=true from hs) dQ
 |str i=>
  obtain⟨t,rfl⟩:=rx
  cases y with
  |non=>cases ry;exact PySem.EqNone.ne_str_none (cF I q (by simp))
  |bl j=>cases ry;exact PySem.EqMixed.ne_str_bool (cF I q (by simp))
  |int j=>obtain⟨t',rfl⟩:=ry;exact PySem.EqMixed.ne_str_int (cF I q (by simp))
  |str j=>obtain⟨t',rfl⟩:=ry;exact ne_str (cF I q (congrArg not zE))
  |_=>exact absurd (show false=true from hs) dQ
 |byt i=>
  obtain⟨t,rfl⟩:=rx
  cases y with
  |byt j=>obtain⟨t',rfl⟩:=ry;exact PySem.W.ne_bytes (cF I q (congrArg not zF))
  |_=>exact absurd (show false=true from hs) dQ
 |_=>cases y<;>exact absurd (show false=true from hs) dQ
theorem jb:cV X (compareOp .Lt) (e8 fun i j=>.bl (decide (i<j))):=pN fun _ _ _ _ _ _ _ q=>lt_int q
theorem ij:cV X (compareOp .LtE) (e8 fun i j=>.bl (decide (i<=j))):=pN fun _ _ _ _ _ _ _ q=>le_int q
theorem ik:cV X (compareOp .Gt) (e8 fun i j=>.bl (decide (j<i))):=pN fun _ _ _ _ _ _ _ q=>gt_int q
theorem pQ:cV X (compareOp .GtE) (e8 fun i j=>.bl (decide (j<=i))):=pN fun _ _ _ _ _ _ _ q=>ge_int q
theorem kN:cV X (compareOp .Is) (fun x y H Q=>y=.non/\Q (.bl (decide (x=.non))) H):=by
 intro pins s σ H x y v u Q I rx ry h
 obtain⟨rfl,q⟩:=h
 cases ry
 refine is_none_gen (cF I q ?_)
 cases x<;>first
  |(cases rx;rfl)
  |(obtain⟨t,rfl⟩:=rx;rfl)
theorem t5:cV X (compareOp .IsNot) (fun x y H Q=>y=.non/\Q (.bl (!decide (x=.non))) H):=by
 intro pins s σ H x y v u Q I rx ry h
 obtain⟨rfl,q⟩:=h
 cases ry
 refine isnot_none_gen (cF I q ?_)
 cases x<;>first
  |(cases rx;rfl)
  |(obtain⟨t,rfl⟩:=rx;rfl)
theorem ak(b:Expr){op:CmpOp}(h:op≠ .In:=by decide)(h2:op≠ .NotIn:=by decide):behindInMarks op b=false:=by
 have e1:(op==CmpOp.In)=false:=by cases op<;>first|rfl|exact absurd rfl h
 have e2:(op==CmpOp.NotIn)=false:=by cases op<;>first|rfl|exact absurd rfl h2
 cases b<;>simp[behindInMarks,e1,e2]
theorem il{op:CmpOp}{r:R2}(ho:cV X (compareOp op) r)(ha:PE X a ta)(hb:PE X b tb)(hm:behindInMarks op b=false):PE X (.Compare a [op] [b] pos) (cE r ta tb):=by
 intro pins s σ H Q I h
 exact wpAny_Compare1 (tZ ha hb I h fun v u s2 x y H2 I2 rx ry q=>ho pins s2 σ H2 x y v u Q I2 rx ry q) hm
def kO(t:TE):TT:=fun σ H Q=>t σ H fun x H'=>∃k,x=.bl k/\Q k H'
theorem ao{op:CmpOp}{r:R2}(ho:cV X (compareOp op) r)(ha:PE X a ta)(hb:PE X b tb)(hm:behindInMarks op b=false):PT X (.Compare a [op] [b] pos) (kO (cE r ta tb)):=by
 intro pins s σ H Q I h
 refine wpAny_isTrue_Compare1 (af (ha pins s σ H _ I h) fun v s1 ⟨x,H1,I1,r1,q1⟩=>af (hb pins s1 σ H1 _ I1 q1) fun u s2 ⟨y,H2,I2,r2,q2⟩=>
  af (ho pins s2 σ H2 x y v u _ I2 r1 r2 q2) fun c s3 ⟨z,H3,I3,r3,k,e,q3⟩=>?_) hm
 subst e
 cases r3
 exact wpAny_truthy_bool ⟨H3,I3,q3⟩
def Fv(r r':R2)(ta tb tc:TE):TE:=fun σ H Q=>ta σ H fun x H1=>tb σ H1 fun y H2=>r x y H2 fun z H3=>∃k,z=.bl k/\
 (if k=true then tc σ H3 fun w' H4=>r' y w' H4 Q else Q (.bl false) H3)
theorem pR{op op':CmpOp}{r r':R2}(ho:cV X (compareOp op) r)(ho':cV X (compareOp op') r')(ha:PE X a ta)(hb:PE X b tb)(hc:PE X c tc)
  (hm:lastMarks [op,op'] [b,c]=false:=by with_unfolding_all rfl):PE X (.Compare a [op,op'] [b,c] pos) (Fv r r' ta tb tc):=by
 intro pins s σ H Q I h
 refine Compare_chain (af (ha pins s σ H _ I h) fun v s1 ⟨x,H1,I1,r1,q1⟩=>chain_link (af (hb pins s1 σ H1 _ I1 q1) fun u s2 ⟨y,H2,I2,r2,q2⟩=>
  af (ho pins s2 σ H2 x y v u _ I2 r1 r2 q2) fun d s3 ⟨z,H3,I3,r3,k,e,q3⟩=>?_)) hm
 subst e
 cases r3
 refine wpAny_truthy_bool ?_
 cases k with
 |false=>exact ite_ff ⟨.bl false,H3,I3,rfl,q3⟩
 |true=>exact ite_tt (chain_last (af (hc pins s3 σ H3 _ I3 q3) fun w' s4 ⟨z',H4,I4,r4,q4⟩=>ho' pins s4 σ H4 y z' u w' Q I4 r2 r4 q4))
def t6(K:aD)(x:V)(H:Hp)(k:Bool):Prop:=
 match x with
 |.non=>k=false
 |.bl b=>k=b
 |.int i=>k=(i !=0)
 |.str y=>y.length<=sizeLine/\k=((y.length:Int) !=0)
 |.byt y=>y.size<=sizeLine/\k=((y.size:Int) !=0)
 |.ref p=>(∃xs,aE K H p xs/\k= !xs.isEmpty)\/(∃xs,aW K H p xs/\k= !xs.isEmpty)\/∃kvs,H p=some (.dK kvs)/\k= !kvs.isEmpty
 |_=>False
theorem Fw{κ:Type}{kvs:List (κ×V)}{vs:List (κ×Value)}(r:KV kvs vs):(!vs.isEmpty)= !kvs.isEmpty:=by
 cases r<;>rfl
theorem zG{xs:List V}{its:List Value}(r:ab xs its):(!its.toArray.isEmpty)= !xs.isEmpty:=by
 cases r<;>simp
theorem ml:(sizeLine:Nat)<2^63:=by rw[sizeLine_eq];decide
theorem zH:Fm X (fun x H Q=>∃k,t6 X.K x H k/\Q k H):=by
 intro pins s σ H x v Q I rx h
 obtain⟨k,e,q⟩:=h
 have hl:=ml
 have hs:sizeLine=16777216:=sizeLine_eq
 cases x with
 |non=>
  cases rx
  have e':k=false:=e
  subst e'
  exact truthy_none ⟨H,I,q⟩
 |bl b=>
  cases rx
  have e':k=b:=e
  subst e'
  exact wpAny_truthy_bool ⟨H,I,q⟩
 |int i=>
  obtain⟨t,rfl⟩:=rx
  have e':k=(i !=0):=e
  subst e'
  exact PySem.P.truthy_int ⟨H,I,q⟩
 |str y=>
  obtain⟨t,rfl⟩:=rx
  obtain⟨hy,e'⟩:y.length<=sizeLine/\k=((y.length:Int) !=0):=e
  subst e'
  exact PySem.P.truthy_str (by omega) ⟨H,I.tok _,q⟩
 |byt y=>
  obtain⟨t,rfl⟩:=rx
  obtain⟨hy,e'⟩:y.size<=sizeLine/\k=((y.size:Int) !=0):=e
  subst e'
  exact PySem.W.truthy_bytes (by omega) ⟨H,I.tok _,q⟩
 |ref p=>
  cases rx
  have e':(∃xs,aE X.K H p xs/\k= !xs.isEmpty)\/(∃xs,aW X.K H p xs/\k= !xs.isEmpty)\/∃kvs,H p=some (.dK kvs)/\k= !kvs.isEmpty:=e
  rcases e' with⟨xs,hx,e'⟩|⟨xs,hx,e'⟩|⟨kvs,hx,e'⟩
  ·subst e'
   obtain⟨its,r,pl,hz⟩:=I.list hx
   have hlen:=r.length
   exact wpAny_truthy_list pl.isList (by simp only[br];omega) ⟨H,I.tok _,by rw[zG r];exact q⟩
  ·subst e'
   obtain⟨its,r,pl,hz⟩:=I.tuple hx
   have hlen:=r.length
   exact truthy_tuple pl (by simp only[br];omega) ⟨H,I.tok _,by rw[zG r];exact q⟩
  ·subst e'
   obtain⟨hz,hS,vs,r,m⟩:kvs.length<=sizeLine/\(p==sysModules)=false/\∃vs,KV kvs vs/\s.heap.DictOf (tN X.prog X.w) p vs:=I.hok p _ hx
   have hlen:kvs.length=vs.length:=Paired.length r
   exact wpAny_truthy_dict hS m (by omega) ⟨H,I.tok _,by rw[Fw r];exact q⟩
 |_=>exact(show False from e).elim
theorem kP(ha:PE X a ta)(he:∀whole,isTrue a X.env whole=(do let v<-whole;standAt a.pos;holding [v] (truthy v))):
  PT X a (fun σ H Q=>ta σ H fun x H'=>∃k,t6 X.K x H' k/\Q k H'):=by
 intro pins s σ H Q I h
 exact isTrue_plain (af (ha pins s σ H _ I h) fun v s1 ⟨x,H1,I1,r1,q1⟩=>zH pins s1 σ H1 x v Q I1 r1 q1) (he _)
theorem zI:cV X (binaryOp .Add) (fun x y H Q=>∃i j,x=.str i/\y=.str j/\i.length+j.length<=sizeLine/\Q (.str (i++j)) H):=by
 intro pins s σ H x y v u Q I rx ry h
 obtain⟨i,j,rfl,rfl,hz,q⟩:=h
 obtain⟨t,rfl⟩:=rx
 obtain⟨t',rfl⟩:=ry
 exact add_str (fun t' tk=>⟨.str (i++j),H,I.tok _,⟨_,rfl⟩,q⟩) hz
theorem vals1{x:V}{us:List Value}(r:ab [x] us):∃u,us=[u]/\RelV x u:=by
 cases r with
 |cons r1 r2=>cases r2;exact⟨_,rfl,r1⟩
theorem vals2{x y:V}{us:List Value}(r:ab [x,y] us):∃u w',us=[u,w']/\RelV x u/\RelV y w':=by
 cases r with
 |cons r1 r2=>
  cases r2 with
  |cons r3 r4=>cases r4;exact⟨_,_,rfl,r1,r3⟩
theorem Fx(hc:X.calm=true):jM X (.builtin "max") (fun xs H Q=>∃i j,xs=[.int i,.int j]/\Q (.int (if j>i then j else i)) H):=by
 intro pins s σ H xs us Q I r h
 obtain⟨i,j,rfl,q⟩:=h
 obtain⟨u,w',rfl,⟨t,rfl⟩,⟨t',rfl⟩⟩:=vals2 r
 refine max_two_ints (I.ok.hd hc) fun h' tk k=>⟨_,H,I.kept k,?_,q⟩
 by_cases hj:j>i
 ·rw[if_pos hj,if_pos hj];exact⟨_,rfl⟩
 ·rw[if_neg hj,if_neg hj];exact⟨_,rfl⟩
theorem zJ:jM X (.type "str") (fun xs H Q=>∃i,xs=[.int i]/\i.natAbs.log2<1920/\Q (.str (toString i)) H):=by
 intro pins s σ H xs us Q I r h
 obtain⟨i,rfl,hz,q⟩:=h
 obtain⟨u,rfl,t,rfl⟩:=vals1 r
 exact PySem.P.str_of_int hz ⟨.str _,H,I.tok _,⟨_,rfl⟩,q⟩
theorem zK:jM X (.builtin "ord") (fun xs H Q=>∃x,xs=[.str x]/\x.length=1/\Q (.int (x.cps.getD 0 0:Nat)) H):=by
 intro pins s σ H xs us Q I r h
 obtain⟨x,rfl,hz,q⟩:=h
 obtain⟨u,rfl,t,rfl⟩:=vals1 r
 exact ord_of_one hz ⟨.int _,H,I.tok _,⟨_,rfl⟩,q⟩
end
structure kQ (h:Heap) (x dx C:Addr) (mA:Str->Option Value):Prop where
 obj:h.get? x=some (km C dx)
 ns:h.Ns1 dx mA
 ne:dx≠x
theorem Fy{h:Heap}{dx:Addr}{mA:Str->Option Value}(n:h.Ns1 dx mA):∃od,h.get? dx=some od/\∀name,xW name od=some (mA name):=by
 obtain⟨o,es,ep,ho,hd,hk,_,hm⟩:=n
 refine⟨o,ho,fun name=>?_⟩
 have e:=hm name
 unfold nsFind findBy at e
 rw[<-Array.find?_toList] at e
 unfold xW
 rw[hd]
 dsimp only
 split
 ·rename_i y q
  rw[q] at e
  exact congrArg some e
 ·rename_i q
  rw[q] at e
  have a:es.toList.any (·.refKey)=false:=by
   rw[List.any_eq_false]
   intro y hy
   obtain⟨z,t,hkey⟩:=hk y (Array.mem_toList_iff.mp hy)
   simp[DictEntry.refKey,hkey]
  have a':¬es.toList.any (·.refKey)=true:=by rw[a];exact dQ
  rw[if_neg a']
  exact congrArg some e
theorem kQ.look{h:Heap}{x dx C:Addr}{mA:Str->Option Value}(I:kQ h x dx C mA):∃od,PySem.W.InstAt h x (km C dx) C (some od)/\∀name,xW name od=some (mA name):=
 let⟨od,ho,hl⟩:=Fy I.ns
 ⟨od,⟨I.obj,rfl,rfl,ho⟩,hl⟩
section
variable{prog:Program}{w:World}{A:Around}{E:Value->Shared->Prop}{s:Shared}{K:aD}{x dx C f:Addr}{mA:Str->Option Value}{name:Str}{v:Value}
theorem Fz{expr:Bool}{Q:Value->Shared->Prop}(X:K.In s.heap)(I:kQ s.heap x dx C mA)(hg:xX K C name=true)(hh:Dm K C=true)
  (ha:iX K (.ref C) name=some none)(hv:mA name=some v)(hv':MN v=true)(h:Q v {s with toks:=s.toks+1}):
  wpAny (model prog w) A (getAttr (.ref x) name expr) Q E s:=by
 obtain⟨od,J,hl⟩:=I.look
 exact PySem.W.get_value X J (Dn hg).1 (PySem.W.findObj_own hh ha rfl (by rw[hl,hv])) hv' h
theorem GA{pl:Sem Bool}{Q:Value×List Value->Shared->Prop}(X:K.In s.heap)(I:kQ s.heap x dx C mA)(hg:xX K C name=true)
  (hf:iX K (.ref C) name=some (some (.ref f)))(ht:rY K (.ref f)=true)(hv:mA name=none)(h:Q (.ref f,[.ref x]) s):
  wpAny (model prog w) A (getMethod (.ref x) name pl) Q E s:=by
 obtain⟨od,J,hl⟩:=I.look
 exact PySem.W.method_fn X J (Dn hg).1 (Dn hg).2 hf (beq_iff_eq.mp ht) (by show(xW name od).map (·.isSome)=some false;rw[hl,hv];rfl) h
theorem GB{ns:List Str}{Q:Unit->Shared->Prop}(X:K.In s.heap)(I:kQ s.heap x dx C mA)
  (hs:iX K (.ref C) "__setattr__"=some (some (.builtin "object.__setattr__")))(hp:MO K C=true)(ht:Do K C name=some none)(hh:Dm K C=true)
  (hw:Di mA ns)(hsz:ns.length<=sizeLine)
  (h:∀h',kQ h' x dx C (fun y=>if y=name then some v else mA y)->Heap.SameBut dx s.heap h'->Q () {s with heap:=h',toks:=s.toks+2}):
  wpAny (model prog w) A (setAttr (.ref x) name v) Q E s:=by
 obtain⟨od,J,hl⟩:=I.look
 refine PySem.W.set_plain X J hs (PySem.W.osa_open (s:={s with toks:=s.toks+1}) (r:=none) X J hp ht fun b=>?_)
 obtain⟨cd,hc,hd'⟩:=PySem.W.any_some hh
 have hx:s.heap.get? x=some ⟨.ref C,some dx,.plain,#[]⟩:=I.obj
 refine wpAny_bind (wpAny_pure (wpAny_bind (wpAny_bind (wpAny_loadPart hx (wpAny_bind (PySem.W.Looks.here (s:={s with toks:=s.toks+1}) (PySem.W.looks_clsIn X hc) ?_))))))
 rw[hd']
 refine wpAny_pure (a:=some dx) (wpAny_bind (wpAny_pure (wpAny_bind ?_)))
 refine wpAny_nsSet1 (s:={s with toks:=s.toks+1}) I.ns fun h' hn2 hs2=>?_
 obtain⟨oD,esD,epD,hoD,hdD,hcD⟩:=hn2.count (PySem.Within.cons name v hw)
 refine wpAny_bind (wpAny_lookBehind hoD (by rw[hdD];exact pastItsLine_dict (bW hcD (by rw[aV];omega))) ?_)
 exact wpAny_pure (h _ ⟨(hs2.2 _ (Ne.symm I.ne)).trans I.obj,hn2,I.ne⟩ hs2)
theorem GD{R:Result->Shared->Prop}{vs:List Value}{kw:List (Str×Value)}(X:K.In s.heap)(hm:Dq K C=true)
  (hi:iX K (.ref C) "__init__"=some (some (.ref f)))(hf:PySem.W.typeIn K (.ref f)=some (.type "function"))
  (h:codeAny (model prog w) (A.under (.builtin "type.__call__" ⟨.ref C::vs,kw⟩)) (.call (.ref f) ⟨.ref (s.heap.objs.size+1)::vs,kw⟩) (PySem.W.InitBack (s.heap.objs.size+1) R)
   {s with heap:=(s.heap.push kC).push (km C s.heap.objs.size)}):
  codeAny (model prog w) A (.call (.ref C) ⟨vs,kw⟩) R s:=by
 obtain⟨hh,g,d,t,os⟩:=s
 exact PySem.W.make_core (PySem.W.makes_of X hm) (PySem.W.looks_findIn X hi) (fun self=>PySem.W.bind_fn X self hf) (.inl rfl) h
end
def cn(f:Str)(v:V):List (Str×V)->List (Str×V)
 |[]=>[(f,v)]
 |(g,x)::r=>if g=f then(g,v)::r else(g,x)::cn f v r
theorem zL(f g:Str)(v:V):∀fs:List (Str×V),(cn f v fs).lookup g=if g=f then some v else fs.lookup g
 |[]=>by
  show ko g [(f,v)]=_
  by_cases h:g=f
  ·have hb:(g==f)=true:=beq_iff_eq.mpr h
   simp only[ko,hb,if_pos h]
  ·have hb:(g==f)=false:=beq_eq_false_iff_ne.mpr h
   simp only[ko,hb,if_neg h]
 |(k,x)::r=>by
  have ih:=zL f g v r
  rw[show cn f v ((k,x)::r)=(if k=f then(k,v)::r else(k,x)::cn f v r) from rfl]
  by_cases hk:k=f
  ·rw[if_pos hk]
   by_cases h:g=k
   ·have hb:(g==k)=true:=beq_iff_eq.mpr h
    simp only[ko,hb,if_pos (h.trans hk)]
   ·have hb:(g==k)=false:=beq_eq_false_iff_ne.mpr h
    simp only[ko,hb,if_neg (fun e:g=f=>h (e.trans hk.symm))]
  ·rw[if_neg hk]
   by_cases h:g=k
   ·have hb:(g==k)=true:=beq_iff_eq.mpr h
    simp only[ko,hb,if_neg (fun e:g=f=>hk (h.symm.trans e))]
   ·have hb:(g==k)=false:=beq_eq_false_iff_ne.mpr h
    simp only[ko,hb]
    exact ih
theorem t7(f:Str)(v:V):∀fs:List (Str×V),f∈(cn f v fs).map (·.1)/\∀g,g∈fs.map (·.1)->g∈(cn f v fs).map (·.1)
 |[]=>⟨by simp[cn],fun g h=>by simp at h⟩
 |(k,x)::r=>by
  obtain⟨i1,i2⟩:=t7 f v r
  rw[show cn f v ((k,x)::r)=(if k=f then(k,v)::r else(k,x)::cn f v r) from rfl]
  by_cases hk:k=f
  ·rw[if_pos hk]
   subst hk
   exact⟨by simp,fun g h=>by simpa using h⟩
  ·rw[if_neg hk]
   refine⟨?_,fun g h=>?_⟩
   ·rw[bg]
    exact ba _ i1
   ·rw[bg] at h⊢
    rcases bc.mp h with e|e
    ·exact bc.mpr (.inl e)
    ·exact ba _ (i2 g e)
theorem zM(f:Str)(v:V):∀fs:List (Str×V),(cn f v fs).length<=fs.length+1
 |[]=>by simp[cn]
 |(k,x)::r=>by
  have ih:=zM f v r
  rw[show cn f v ((k,x)::r)=(if k=f then(k,v)::r else(k,x)::cn f v r) from rfl]
  by_cases hk:k=f
  ·rw[if_pos hk,aV,aV];omega
  ·rw[if_neg hk,aV,aV];omega
theorem ic.some_of{v:V}{o:Option Value}(r:ic (some v) o):∃u,o=some u/\RelV v u:=by
 cases o with
 |none=>exact(show False from r).elim
 |some u=>exact⟨u,rfl,r⟩
theorem ic.none_of{o:Option Value}(r:ic none o):o=none:=by
 cases o with
 |none=>rfl
 |some u=>exact(show False from r).elim
theorem GE{v:V}{u:Value}(r:RelV v u):MN u=true:=by
 cases v with
 |non=>cases(show u=Value.none from r);rfl
 |bl b=>cases(show u=Value.bool b from r);rfl
 |int i=>obtain⟨t,e⟩:=(show∃t,u=Value.int i t from r);cases e;rfl
 |str x=>obtain⟨t,e⟩:=(show∃t,u=Value.str x t from r);cases e;rfl
 |byt b=>obtain⟨t,e⟩:=(show∃t,u=Value.bytes b t from r);cases e;rfl
 |flt b=>obtain⟨t,e⟩:=(show∃t,u=Value.float b t from r);cases e;rfl
 |ref a=>cases(show u=Value.ref a from r);rfl
 |ty n=>cases(show u=Value.type n from r);rfl
section
variable{P:Program}{w:World}{H H':Hp}{h h':Heap}{a C dx:Addr}{fs fs':List (Str×V)}
theorem t8(hok:cN P w H h)(e:H a=some (.ins C dx fs)):∃mA,kQ h a dx C mA/\(∀f,ic (fs.lookup f) (mA f))/\Di mA (fs.map (·.1))/\fs.length<=1000/\H dx=some (.own a):=by
 obtain⟨d,z,ne,ob,mA,n,r,q⟩:=(show dO P w H h a (.ins C dx fs) from hok a _ e)
 exact⟨mA,⟨ob,n,ne⟩,r,q,z,d⟩
end
structure eP (K:aD) (C:Addr):Prop where
 pg:xX K C Str.empty=true
 hd:Dm K C=true
 po:MO K C=true
 sa:iX K (.ref C) "__setattr__"=some (some (.builtin "object.__setattr__"))
theorem eP.get{K:aD}{C:Addr}(c:eP K C)(f:Str):xX K C f=true:=c.pg
def dk(K:aD)(C:Addr)(f:Str):Prop:=iX K (.ref C) f=some none
theorem dk.taker{K:aD}{C:Addr}{f:Str}(n:dk K C f):Do K C f=some none:=by
 unfold Do
 rw[show iX K (.ref C) f=some none from n]
 rfl
structure mm (K:aD) (C:Addr) (m:Str) (f:Addr):Prop where
 at_:iX K (.ref C) m=some (some (.ref f))
 fn:rY K (.ref f)=true
 kp:hJ K (.ref f)=true
section
variable{X:Cx}{pins:List (Addr×Obj)}{σ:St}{H:Hp}{s:Shared}{a C dx:Addr}{fs:List (Str×V)}{f:Str}{v:V}{A:Around}{E:Value->Shared->Prop}
theorem zN{b:Bool}{Q:Value->Shared->Prop}(I:aH X pins σ H s)(e:H a=some (.ins C dx fs))(c:eP X.K C)(n:dk X.K C f)(l:fs.lookup f=some v)
  (h:∀u s',aH X pins σ H s'->RelV v u->Q u s'):wpAny (model X.prog X.w) A (getAttr (.ref a) f b) Q E s:=by
 obtain⟨mA,O,r,_,_,_⟩:=t8 I.hok e
 obtain⟨u,hu,ru⟩:=ic.some_of (v:=v) (o:=mA f) (by rw[<-l];exact r f)
 exact Fz I.kIn O (c.get f) c.hd n hu (GE ru) (h u _ (I.tok _) ru)
theorem zO{m:Str}{g:Addr}{pl:Sem Bool}{Q:Value×List Value->Shared->Prop}(I:aH X pins σ H s)(e:H a=some (.ins C dx fs))(c:eP X.K C)(k:mm X.K C m g)(l:fs.lookup m=none)
  (h:Q (.ref g,[.ref a]) s):wpAny (model X.prog X.w) A (getMethod (.ref a) m pl) Q E s:=by
 obtain⟨mA,O,r,_,_,_⟩:=t8 I.hok e
 have hn:mA m=none:=ic.none_of (by rw[<-l];exact r m)
 exact GA I.kIn O (c.get m) k.at_ k.fn hn h
theorem zP{y:V}{u:Value}{Q:Unit->Shared->Prop}(I:aH X pins σ H s)(e:H a=some (.ins C dx fs))(c:eP X.K C)(n:dk X.K C f)(hl:fs.length<1000)(ry:RelV y u)
  (h:∀s',aH X pins σ (upd H a (.ins C dx (cn f y fs))) s'->Q () s'):wpAny (model X.prog X.w) A (setAttr (.ref a) f u) Q E s:=by
 obtain⟨mA,O,r,wi,_,ho⟩:=t8 I.hok e
 have hz:(fs.map (·.1)).length<=sizeLine:=by rw[aL,sizeLine_eq];omega
 refine GB I.kIn O c.sa c.po n.taker c.hd wi hz fun h' O' sb=>h _ ?_
 have hd:∃o,h'.get? dx=some o:=let⟨o,_,_,e',_⟩:=O'.ns;⟨o,e'⟩
 refine I.write (x:=a) (e:=dx) (by rw[e];exact True.intro) (.inr ho) (fun b q hb z=>(sb.2 b hb).trans z) hd ?_
 refine⟨by rw[aP O.ne];exact ho,?_,O.ne,O'.obj,_,O'.ns,fun g=>?_,fun g hg=>?_⟩
 ·have:=zM f y fs;omega
 ·show ic ((cn f y fs).lookup g) (if g=f then some u else mA g)
  rw[zL]
  by_cases q:g=f
  ·rw[if_pos q,if_pos q];exact ry
  ·rw[if_neg q,if_neg q];exact r g
 ·by_cases q:g=f
  ·rw[q];exact(t7 f y fs).1
  ·refine(t7 f y fs).2 g (wi g fun z=>hg ?_)
   show(if g=f then some u else mA g)=none
   rw[if_neg q];exact z
theorem aH.made(I:aH X pins σ H s):aH X pins σ (upd (upd H s.heap.objs.size (.own (s.heap.objs.size+1))) (s.heap.objs.size+1) (.ins C s.heap.objs.size []))
  {s with heap:=(s.heap.push kC).push (km C s.heap.objs.size)}:=by
 have e1:(s.heap.push kC).get? s.heap.objs.size=some kC:=Heap.get?_push_size s.heap rfl
 have e2:((s.heap.push kC).push (km C s.heap.objs.size)).get? (s.heap.objs.size+1)=some (km C s.heap.objs.size):=by
  have:=Heap.get?_push_size (s.heap.push kC) (o:=km C s.heap.objs.size) rfl
  rwa[Heap.size_push] at this
 have e3:(s.heap.push kC).Ns s.heap.objs.size (fun _=>none):=⟨kC,#[],_,e1,rfl,(fun e he=>absurd he (by simp)),fun _=>rfl⟩
 have I1:=I.laid (a:=s.heap.objs.size) (o:=.own (s.heap.objs.size+1)) (h':=s.heap.push kC) (t':=s.toks) (fun b u q=>Heap.get?_push_of_some _ q) (aY _) ⟨_,e1⟩
 refine I1.laid (a:=s.heap.objs.size+1) (o:=.ins C s.heap.objs.size []) (t':=s.toks) (fun b u q=>Heap.get?_push_of_some _ q) (xY (Heap.size_push _ _)) ?_
 have ne:s.heap.objs.size≠s.heap.objs.size+1:=fG (xZ _)
 refine⟨by rw[aP ne,aF],bF _,ne,e2,fun _=>none,(Heap.Ns1.of_empty e3).at fun o q=>Heap.get?_push_of_some _ q,fun _=>True.intro,fun y hy=>absurd rfl hy⟩
theorem GF{prog:Program}{w:World}{env:Env}{e:Expr}{f:Str}{pos:Pos}{s:Shared}{Q:Value->Shared->Prop}(hb:attributeBase e f env (eval e env)=eval e env)
  (h:wpAny (model prog w) A (eval e env) (fun o s₁=>wpAny (model prog w) A (getAttr o f true) Q E s₁) E s):wpAny (model prog w) A (eval (.Attribute e f pos) env) Q E s:=
 Attribute_any_ h (by rw[arm_eval_Attribute,hb])
end
def kR(K:aD)(ta:TE)(f:Str):TE:=fun σ H Q=>ta σ H fun x H1=>∃a C dx fs v,x=.ref a/\H1 a=some (.ins C dx fs)/\eP K C/\dk K C f/\fs.lookup f=some v/\Q v H1
def zQ(K:aD)(ta tv:TE)(f:Str):TS:=fun D σ H=>tv σ H fun y H1=>ta σ H1 fun x H2=>∃a C dx fs,x=.ref a/\H2 a=some (.ins C dx fs)/\eP K C/\dk K C f/\fs.length<1000/\
 D.nx σ (upd H2 a (.ins C dx (cn f y fs)))
def zR(X:Cx)(op:Operator)(rd:V->V->Hp->VK->Prop):Prop:=
 ∀(pins:List (Addr×Obj)) (s:Shared) (σ:St) (H:Hp) (x y:V) (u v:Value) (Q:VK),aH X pins σ H s->RelV x u->RelV y v->rd x y H Q->wpAny (model X.prog X.w) X.A (inplaceOp op u v) (EP X pins σ Q) X.xe s
def GG(K:aD)(ta tv:TE)(rd:V->V->Hp->VK->Prop)(f:Str):TS:=fun D σ H=>ta σ H fun x H1=>∃a C dx fs v,x=.ref a/\H1 a=some (.ins C dx fs)/\eP K C/\dk K C f/\fs.lookup f=some v/\
 tv σ H1 fun y H2=>rd v y H2 fun z H3=>∃dx' fs',H3 a=some (.ins C dx' fs')/\fs'.length<1000/\D.nx σ (upd H3 a (.ins C dx' (cn f z fs')))
section
variable{X:Cx}{o e value:Expr}{f:Str}{pos pos' tpos:Pos}{ta tv:TE}
theorem aX(he:PE X e ta)(hb:attributeBase e f X.env (eval e X.env)=eval e X.env):PE X (.Attribute e f pos) (kR X.K ta f):=by
 intro pins s σ H Q I h
 refine GF hb (af (he pins s σ H _ I h) fun u s1 ⟨x,H1,I1,rx,a,C,dx,fs,v,ex,ea,c,n,l,q⟩=>?_)
 subst ex
 obtain rfl:u=Value.ref a:=rx
 exact zN I1 ea c n l fun u' s2 I2 ru=>⟨v,H1,I2,ru,q⟩
theorem dY(ha:PE X o ta)(hv:PE X value tv)(hs:swapsWith value (some (.Attribute o f pos')) pos.line X.env=pure false):PS X (.Assign [.Attribute o f pos'] value pos) (zQ X.K ta tv f):=by
 intro pins s σ H D I h
 refine plainObj_wpAny_Assign_Attribute (af (hv pins s σ H _ I h) fun u s1 ⟨y,H1,I1,ry,q⟩=>af (ha pins s1 σ H1 _ I1 q) fun ov s2 ⟨x,H2,I2,rx,a,C,dx,fs,ex,ea,c,n,l,q2⟩=>?_) hs
 subst ex
 obtain rfl:ov=Value.ref a:=rx
 exact zP I2 ea c n l ry fun s3 I3=>⟨σ,_,I3,q2⟩
theorem GH{op:Operator}{rd:V->V->Hp->VK->Prop}(ha:PE X o ta)(hv:PE X value tv)(hop:zR X op rd):PS X (.AugAssign (.Attribute o f tpos) op value pos) (GG X.K ta tv rd f):=by
 intro pins s σ H D I h
 refine wpAny_AugAssign_AttributeAny (af (ha pins s σ H _ I h) fun ov s1 ⟨x,H1,I1,rx,a,C,dx,fs,v,ex,ea,c,n,l,q⟩=>?_)
 subst ex
 obtain rfl:ov=Value.ref a:=rx
 refine zN I1 ea c n l fun u s2 I2 ru=>af (hv pins s2 σ H1 _ I2 q) fun w3 s3 ⟨y,H2,I3,ry,q3⟩=>af (hop pins s3 σ H2 v y u w3 _ I3 ru ry q3) fun w4 s4 ⟨z,H3,I4,rz,dx',fs',ea',l',q4⟩=>?_
 exact zP I4 ea' c n l' rz fun s5 I5=>⟨σ,_,I5,q4⟩
def GI:V->V->Hp->VK->Prop:=fun x y H Q=>∃i j,x=.int i/\y=.int j/\Q (.int (i-j)) H
theorem GJ:zR X .Sub GI:=by
 rintro pins s σ H x y u v Q I rx ry ⟨i,j,rfl,rfl,q⟩
 obtain⟨t,rfl⟩:=(show∃t,u=Value.int i t from rx)
 obtain⟨t',rfl⟩:=(show∃t',v=Value.int j t' from ry)
 exact PyProof.Rows.isub_int ⟨.int (i-j),H,I.tok _,⟨_,rfl⟩,q⟩
end
structure bh (k:Nat) (A:Around):Prop where
 hd:A.handled=none
 dp:A.depth+3*k+5<recursionLimit
 un:A.units+16*k+200<cLine
theorem bh.mono{j k:Nat}{A:Around}(r:bh k A)(h:j<=k):bh j A:=⟨r.hd,by have:=r.dp;omega,by have:=r.un;omega⟩
theorem bh.deeper{k:Nat}{A:Around}(r:bh (k+1) A)(env:Env):bh k (A.deeper env):=
 ⟨r.hd,by have:=r.dp;show A.depth+1+3*k+5<_;omega,by have:=r.un;show A.units+3+16*k+200<_;omega⟩
theorem GK{A:Around}{C:Addr}{us:List Value}{kw:List (Str×Value)}:(A.under (.builtin "type.__call__" ⟨.ref C::us,kw⟩)).depth=A.depth+1:=by
 first|rfl|simp[Around.under,Code.weight,Code.isCreation,Code.isGuard,Code.isCaller,Code.frames,Code.isFrame,guardIds]
theorem GL{A:Around}{C:Addr}{us:List Value}{kw:List (Str×Value)}:(A.under (.builtin "type.__call__" ⟨.ref C::us,kw⟩)).units=A.units+1:=by
 first|rfl|simp[Around.under,Code.cUnits,Code.frames,Code.isFrame]
theorem bh.make{k:Nat}{A:Around}(r:bh (k+1) A)(C:Addr)(us:List Value)(kw:List (Str×Value)):bh k (A.under (.builtin "type.__call__" ⟨.ref C::us,kw⟩)):=
 ⟨r.hd,by have:=r.dp;rw[GK];omega,by have:=r.un;rw[GL];omega⟩
theorem bh.depth{k:Nat}{A:Around}(r:bh k A):A.depth<recursionLimit:=by have:=r.dp;omega
theorem bh.units{k:Nat}{A:Around}(r:bh k A):A.units+64<cLine:=by have:=r.un;omega
def cK:TA:=fun _ H Q=>Q [] H
def cO(ta:TE)(tr:TA):TA:=fun σ H Q=>ta σ H fun x H1=>tr σ H1 fun xs H2=>Q (x::xs) H2
section
variable{X:Cx}{e:Expr}{es:List Expr}{te:TE}{t:TA}{pos:Pos}
theorem aC:PA X [] cK:=fun _ _ _ _ H Q I h=>Calls.spliced_nil ⟨[],H,I,.nil,h⟩
theorem aB(ha:PE X e te)(hr:PA X es t)(hs:starEach (e::es) X.env=(false,eval e X.env)::starEach es X.env:=by rfl):PA X (e::es) (cO te t):=by
 intro pos pins s σ H Q I h
 rw[hs]
 show wpAny _ _ (spliced ((false,eval e X.env)::backTo pos (starEach es X.env))) _ _ s
 refine Calls.spliced_cons (af (ha pins s σ H _ I h) fun u s1 ⟨x,H1,I1,r1,q1⟩=>?_)
 exact af (hr pos pins s1 σ H1 _ I1 q1) fun us s2 ⟨xs,H2,I2,r2,q2⟩=>⟨x::xs,H2,I2,.cons r1 r2,q2⟩
def mn(t:TA):TE:=fun σ H Q=>t σ H fun xs H1=>xs.length<=sizeLine/\∀p,H1 p=none->Q (.ref p) (upd H1 p (.tup xs))
def zS(t:TA):TE:=fun σ H Q=>t σ H fun xs H1=>xs.length<=sizeLine/\∀p,H1 p=none->Q (.ref p) (upd H1 p (.lst xs))
theorem eQ{x1}(h:PA X es t):PE X (.Tuple es x1 pos) (mn t):=by
 intro pins s σ H Q I hq
 refine wpAny_Tuple_spliced (af (h pos pins s σ H _ I hq) fun us s1 ⟨xs,H1,I1,r,z,q⟩=>⟨by rw[<-r.length];exact z,?_⟩)
 have hf:H1 s1.heap.objs.size=none:=I1.hok.fresh (aY _)
 refine⟨.ref s1.heap.objs.size,upd H1 s1.heap.objs.size (.tup xs),I1.laid (t':=s1.toks) (fun b u e=>Heap.get?_push_of_some _ e) (aY _) ?_,rfl,q _ hf⟩
 exact⟨z,us,r,⟨_,Heap.get?_push_size _ rfl,rfl,_,rfl⟩⟩
theorem au(h:PA X es t):PE X (.List es pos) (zS t):=by
 intro pins s σ H Q I hq
 refine wpAny_List_spliced (af (h pos pins s σ H _ I hq) fun us s1 ⟨xs,H1,I1,r,z,q⟩=>⟨by rw[<-r.length];exact z,?_⟩)
 have hf:H1 s1.heap.objs.size=none:=I1.hok.fresh (aY _)
 refine⟨.ref s1.heap.objs.size,upd H1 s1.heap.objs.size (.lst xs),I1.laid (t':=s1.toks) (fun b u e=>Heap.get?_push_of_some _ e) (aY _) ?_,rfl,q _ hf⟩
 exact⟨z,us,0,r,Heap.get?_push_size _ rfl⟩
end
abbrev Sp:=List V->Hp->VK->XK->Prop
abbrev iK:=List Env->Hp->Shared->XK->Value->Shared->Prop
structure kS (P:Program) (w:World) (K:aD) (mg:Str->Option Value) (base:Heap) (A:Around) (outer:List Env) (s:Shared) (H:Hp):Prop where
 frames:A.frames=some outer
 mod:Mod K mg base
 bs:∀b o,base.get? b=some o->s.heap.get? b=some o/\H b=none
 bsz:base.objs.size<=s.heap.objs.size
 funs:s.heap.FunFrames base outer
 frf:∀b∈iE outer,H b=none
 hok:cN P w H s.heap
 bare:AllBare s.gens
def CE(outer:List Env)(P:Program)(w:World)(H:Hp)(s:Shared)(Q:VK)(u:Value)(s':Shared):Prop:=
 ∃v H',s'.os=s.os/\AllBare s'.gens/\Un (iE outer) [] H H' s.heap s'.heap/\cN P w H' s'.heap/\RelV v u/\Q v H'
def CR(CX:iK)(outer:List Env)(P:Program)(w:World)(H:Hp)(s:Shared)(Q:VK)(E:XK)(r:Result)(s':Shared):Prop:=
 match r with
 |.ok (.ret u)=>CE outer P w H s Q u s'
 |.ok _=>False
 |.error e=>CX outer H s E e s'
structure dB (P:Program) (w:World) (K:aD) (mg:Str->Option Value) (base:Heap) (CX:iK) (k:Nat) (f:Addr) (fd:FuncData) (ps:List Str) (sp:Sp):Prop where
 len:∀vs H Q E,sp vs H Q E->vs.length=ps.length
 run:∀(A:Around) (outer:List Env) (s:Shared) (H:Hp) (args:Args) (us:List Value) (vs:List V) (Q:VK) (E:XK),bh k A->kS P w K mg base A outer s H->BindsTo s fd args (ps.zip us)->ab vs us->sp vs H Q E->
  codeAny (model P w) A (.call (.ref f) args) (CR CX outer P w H s Q E) s
theorem kS.make{P:Program}{w:World}{K:aD}{mg:Str->Option Value}{base:Heap}{A:Around}{outer:List Env}{s:Shared}{H:Hp}(e:kS P w K mg base A outer s H)(C:Addr)(us:List Value)(kw:List (Str×Value)):
  kS P w K mg base (A.under (.builtin "type.__call__" ⟨.ref C::us,kw⟩)) outer s H:=⟨by first|exact e.frames|(simpa [Around.under,Code.envs,Code.isFrame,pushEnvs] using e.frames),e.mod,e.bs,e.bsz,e.funs,e.frf,e.hok,e.bare⟩
section
variable{X:Cx}{pins:List (Addr×Obj)}{σ:St}{H:Hp}{s s':Shared}
theorem aH.env0(I:aH X pins σ H s):kS X.prog X.w X.K X.mg X.base X.A X.stack s H:=
 ⟨I.ok.frames,I.ok.mod,I.bs,bW I.ok.bsz I.sz,I.stack,I.stkFree,I.hok,I.bare⟩
theorem aH.after{Q:VK}{u:Value}(I:aH X pins σ H s)(h:CE X.stack X.prog X.w H s Q u s'):EP X pins σ Q u s':=by
 obtain⟨v,H',os,bare,un,hok,r,q⟩:=h
 obtain⟨hh,g,d,t,os'⟩:=s'
 obtain rfl:os'=s.os:=os
 exact⟨v,H',I.call (h':=hh) (g':=g) (d':=d) (t':=t) (ch:=[]) un hok bare (fun b z=>absurd z (by simp)),r,q⟩
end
def jc(sp:Sp)(dvs:List V)(E:XK)(t:TA):TE:=fun σ H Q=>t σ H fun vs H1=>sp (vs++dvs) H1 Q E
def lO(C:Addr)(m:Str)(sp:Sp)(dvs:List V)(E:XK)(ta:TE)(t:TA):TE:=fun σ H Q=>ta σ H fun x H1=>∃a dx fs,x=.ref a/\H1 a=some (.ins C dx fs)/\fs.lookup m=none/\
 t σ H1 fun vs H2=>sp (x::(vs++dvs)) H2 Q E
def pS(C:Addr)(sp:Sp)(dvs:List V)(E:XK)(t:TA):TE:=fun σ H Q=>t σ H fun vs H1=>∀x dx,H1 x=none->H1 dx=none->dx≠x->
 sp (.ref x::(vs++dvs)) (upd (upd H1 dx (.own x)) x (.ins C dx [])) (fun v H2=>v=.non/\Q (.ref x) H2) E
def Binds(K:aD)(fd:FuncData)(ps:List Str)(ds:List Value):Prop:=
 ∀(s:Shared) (us:List Value),K.In s.heap->(us++ds).length=ps.length->BindsTo s fd ⟨us,[]⟩ (ps.zip (us++ds))
theorem Binds.all{K:aD}{fd:FuncData}{ps:List Str}(h:∀us:List Value,us.length=ps.length->bindArgs fd ⟨us,[]⟩=pure (ps.zip us)):Binds K fd ps []:=fun s us _ hl=>by
 rw[d8] at hl⊢
 exact .of_eq (h us hl)
def jN(CX:iK)(X:Cx)(E:XK):Prop:=∀(pins:List (Addr×Obj)) (σ:St) (H:Hp) (s:Shared) (e:Value) (s':Shared),aH X pins σ H s->CX X.stack H s E e s'->X.xe e s'
section
variable{X:Cx}{CX:iK}{k:Nat}{f C:Addr}{fd:FuncData}{ps:List Str}{sp:Sp}{dvs:List V}{ds:List Value}{E:XK}{x m:Str}{p pos apos:Pos}{e o:Expr}{es:List Expr}{ta:TE}{t:TA}
theorem mq{pins:List (Addr×Obj)}{σ:St}{H:Hp}{s:Shared}{Q:VK}{us:List Value}{vs:List V}(F:dB X.prog X.w X.K X.mg X.base CX k f fd ps sp)(hr:bh k X.A)(hb:Binds X.K fd ps ds)(hd:ab dvs ds)(hx:jN CX X E)
  (I:aH X pins σ H s)(r:ab vs us)(h:sp (vs++dvs) H Q E):wpAny (model X.prog X.w) X.A (call (.ref f) us) (EP X pins σ Q) X.xe s:=by
 have r2:ab (vs++dvs) (us++ds):=r.append hd
 have hl:(us++ds).length=ps.length:=by rw[<-r2.length];exact F.len _ _ _ _ h
 refine wpAny_call (codeAny_mono (F.run X.A X.stack s H ⟨us,[]⟩ (us++ds) (vs++dvs) Q E hr I.env0 (hb s us I.kIn hl) r2 h) fun r s' hq=>?_)
 cases r with
 |error e=>exact hx pins σ H s e s' I hq
 |ok fl=>
  cases fl with
  |ret u=>exact I.after hq
  |next=>exact fH hq
  |brk=>exact fH hq
  |cont=>exact fH hq
theorem GM(F:dB X.prog X.w X.K X.mg X.base CX k f fd ps sp)(hr:bh k X.A)(hg:Gl X x)(hm:X.mg x=some (.ref f))(hk:hJ X.K (.ref f)=true)(hb:Binds X.K fd ps ds)(hd:ab dvs ds)(hx:jN CX X E)
  (ha:PA X (e::es) t)(hdb:(x==("__debug__":Str))=false:=by decide)(he:starEach (e::es) X.env=(false,eval e X.env)::starEach es X.env:=by rfl)(hpl:(backTo pos (starEach es X.env)).any (·.1)=false:=by rfl):
  PE X (.Call (.Name x p) (e::es) [] pos) (jc sp dvs E t):=by
 intro pins s σ H Q I h
 refine wpAny_Call_Name_kw (kK I hg hm ?_ hdb)
 refine x8 (h₀:=X.base) I.ok.mod.kin hk (af (ha pos pins s σ H _ I h) fun us s1 ⟨vs,H1,I1,r,q⟩=>⟨I1.kIn,?_⟩) he hpl
 exact mq F hr hb hd hx I1 r q
theorem GN(F:dB X.prog X.w X.K X.mg X.base CX k f fd ps sp)(hr:bh k X.A)(hg:Gl X x)(hm:X.mg x=some (.ref f))(hk:hJ X.K (.ref f)=true)(hb:Binds X.K fd ps ds)(hd:ab dvs ds)(hx:jN CX X E)
  (hdb:(x==("__debug__":Str))=false:=by decide):PE X (.Call (.Name x p) [] [] pos) (jc sp dvs E cK):=by
 intro pins s σ H Q I h
 refine wpAny_Call_Name_kw (kK I hg hm ?_ hdb)
 exact Dr I.kIn hk (mq (us:=[]) F hr hb hd hx I .nil h)
theorem GO{pl:Sem Bool}(he:PE X o ta)(c:eP X.K C)(hm:mm X.K C m f)(F:dB X.prog X.w X.K X.mg X.base CX k f fd ps sp)(hr:bh k X.A)(hb:Binds X.K fd ps ds)(hd:ab dvs ds)(hx:jN CX X E)(ha:PA X (e::es) t)
  (hst:starEach (e::es) X.env=(false,eval e X.env)::starEach es X.env:=by rfl)(hpl:(backTo pos (starEach es X.env)).any (·.1)=false:=by rfl)
  (ht:eval (.Call (.Attribute o m apos) (e::es) [] pos) X.env=(do
   let ov<-eval o X.env
   standAt apos.atName
   let(f,first)<-holding [ov] (getMethod ov m pl)
   callWith pos f first (backTo pos (starEach (e::es) X.env)) (backToKw pos (keywordEach [] X.env))):=by rfl):
  PE X (.Call (.Attribute o m apos) (e::es) [] pos) (lO C m sp dvs E ta t):=by
 intro pins s σ H Q I h
 refine MQ (pl:=pl) (af (he pins s σ H _ I h) fun u s1 ⟨x,H1,I1,rx,a,dx,fs,ex,ea,l,q⟩=>?_) ht
 subst ex
 obtain rfl:u=Value.ref a:=rx
 refine zO I1 ea c hm l ?_
 refine x8 (first:=[.ref a]) (h₀:=X.base) I.ok.mod.kin hm.kp (af (ha pos pins s1 σ H1 _ I1 q) fun us s2 ⟨vs,H2,I2,r,q2⟩=>⟨I2.kIn,?_⟩) hst hpl
 exact mq (us:=.ref a::us) (vs:=.ref a::vs) F hr hb hd hx I2 (.cons rfl r) q2
theorem GP{pl:Sem Bool}(he:PE X o ta)(c:eP X.K C)(hm:mm X.K C m f)(F:dB X.prog X.w X.K X.mg X.base CX k f fd ps sp)(hr:bh k X.A)(hb:Binds X.K fd ps ds)(hd:ab dvs ds)(hx:jN CX X E)
  (ht:eval (.Call (.Attribute o m apos) [] [] pos) X.env=(do
   let ov<-eval o X.env
   standAt apos.atName
   let(f,first)<-holding [ov] (getMethod ov m pl)
   callWith pos f first (backTo pos (starEach [] X.env)) (backToKw pos (keywordEach [] X.env))):=by rfl):
  PE X (.Call (.Attribute o m apos) [] [] pos) (lO C m sp dvs E ta cK):=by
 intro pins s σ H Q I h
 refine MQ (pl:=pl) (af (he pins s σ H _ I h) fun u s1 ⟨x,H1,I1,rx,a,dx,fs,ex,ea,l,q⟩=>?_) ht
 subst ex
 obtain rfl:u=Value.ref a:=rx
 refine zO I1 ea c hm l ?_
 exact Dr (first:=[.ref a]) I1.kIn hm.kp (mq (us:=[.ref a]) (vs:=[.ref a]) F hr hb hd hx I1 (.cons rfl .nil) q)
structure Mk (K:aD) (C f:Addr):Prop where
 makes:Dq K C=true
 init:iX K (.ref C) "__init__"=some (some (.ref f))
 fn:rY K (.ref f)=true
 kp:hJ K (.ref C)=true
theorem zT{pins:List (Addr×Obj)}{σ:St}{H:Hp}{s:Shared}{Q:VK}{us:List Value}{vs:List V}(M:Mk X.K C f)(F:dB X.prog X.w X.K X.mg X.base CX k f fd ps sp)(hr:bh (k+1) X.A)(hb:Binds X.K fd ps ds)(hd:ab dvs ds)
  (hx:jN CX X E)(I:aH X pins σ H s)(r:ab vs us)
  (h:∀x dx,H x=none->H dx=none->dx≠x->sp (.ref x::(vs++dvs)) (upd (upd H dx (.own x)) x (.ins C dx [])) (fun v H2=>v=.non/\Q (.ref x) H2) E):
  wpAny (model X.prog X.w) X.A (call (.ref C) us) (EP X pins σ Q) X.xe s:=by
 have hq:=h (s.heap.objs.size+1) s.heap.objs.size (I.hok.fresh (Nat.le_succ _)) (I.hok.fresh (aY _)) (fG (xZ _))
 have I2:=aH.made (C:=C) I
 have r2:ab (V.ref (s.heap.objs.size+1)::(vs++dvs)) (Value.ref (s.heap.objs.size+1)::(us++ds)):=.cons rfl (r.append hd)
 have hl:(Value.ref (s.heap.objs.size+1)::us++ds).length=ps.length:=by
  have e:=r2.length
  rw[F.len _ _ _ _ hq] at e
  exact e.symm
 refine wpAny_call (GD (f:=f) I.kIn M.makes M.init (beq_iff_eq.mp M.fn) (codeAny_mono (F.run _ X.stack _ _ ⟨Value.ref (s.heap.objs.size+1)::us,[]⟩ (Value.ref (s.heap.objs.size+1)::(us++ds)) _ _ E (hr.make C us [])
  (I2.env0.make C us []) (hb _ (Value.ref (s.heap.objs.size+1)::us) I2.kIn hl) r2 hq) fun r s' hq'=>?_))
 cases r with
 |error e=>exact hx pins σ _ _ e s' I2 hq'
 |ok fl=>
  cases fl with
  |ret u=>
   obtain⟨v,H',I3,rv,ev,q3⟩:=I2.after hq'
   subst ev
   exact⟨rv,⟨V.ref (s.heap.objs.size+1),H',I3,rfl,q3⟩⟩
  |next=>exact fH hq'
  |brk=>exact fH hq'
  |cont=>exact fH hq'
theorem GQ(M:Mk X.K C f)(F:dB X.prog X.w X.K X.mg X.base CX k f fd ps sp)(hr:bh (k+1) X.A)(hg:Gl X x)(hm:X.mg x=some (.ref C))(hb:Binds X.K fd ps ds)(hd:ab dvs ds)(hx:jN CX X E)
  (ha:PA X (e::es) t)(hdb:(x==("__debug__":Str))=false:=by decide)(he:starEach (e::es) X.env=(false,eval e X.env)::starEach es X.env:=by rfl)(hpl:(backTo pos (starEach es X.env)).any (·.1)=false:=by rfl):
  PE X (.Call (.Name x p) (e::es) [] pos) (pS C sp dvs E t):=by
 intro pins s σ H Q I h
 refine wpAny_Call_Name_kw (kK I hg hm ?_ hdb)
 refine x8 (h₀:=X.base) I.ok.mod.kin M.kp (af (ha pos pins s σ H _ I h) fun us s1 ⟨vs,H1,I1,r,q⟩=>⟨I1.kIn,?_⟩) he hpl
 exact zT M F hr hb hd hx I1 r q
theorem GR(M:Mk X.K C f)(F:dB X.prog X.w X.K X.mg X.base CX k f fd ps sp)(hr:bh (k+1) X.A)(hg:Gl X x)(hm:X.mg x=some (.ref C))(hb:Binds X.K fd ps ds)(hd:ab dvs ds)(hx:jN CX X E)
  (hdb:(x==("__debug__":Str))=false:=by decide):PE X (.Call (.Name x p) [] [] pos) (pS C sp dvs E cK):=by
 intro pins s σ H Q I h
 refine wpAny_Call_Name_kw (kK I hg hm ?_ hdb)
 exact Dr I.kIn M.kp (zT (us:=[]) M F hr hb hd hx I .nil h)
end
structure aZ (N P:List Str) (sc:Scope):Prop where
 kind:sc.kind=.function
 co:sc.isCoroutine=false
 gen:sc.isGenerator=false
 nd:N.Nodup
 pre:N.take P.length=P
 par:∀x∈P,sc.names.lookup x=some .local\/sc.names.lookup x=some .cell
 nofree:∀y∈sc.names,y.2≠ .free
theorem zU{kindOf:Str->Option NameKind}{x:Str}:∀{binds:List (Str×Value)} {m:Str->Option Value},(∀v,(x,v)∉binds)->bindL kindOf binds m x=m x
 |[],_,_=>rfl
 |(n,v)::r,m,h=>by
  unfold bindL
  rw[zU fun w hw=>h w (ba _ hw)]
  split
  ·have:x≠n:=by rintro rfl;exact h v bY
   simp[this]
  ·rfl
theorem zV{kindOf:Str->Option NameKind}{x:Str}:∀{binds:List (Str×Value)} {m:Str->Option Value},(∀v,(x,v)∉binds)->bindC kindOf binds m x=m x
 |[],_,_=>rfl
 |(n,v)::r,m,h=>by
  unfold bindC
  rw[zV fun w hw=>h w (ba _ hw)]
  split
  ·rfl
  ·have:x≠n:=by rintro rfl;exact h v bY
   simp[this]
theorem zW{kindOf:Str->Option NameKind}{x:Str}{v:Value}:∀{P:List Str} {vs:List Value} {i:Nat} {m:Str->Option Value},P.Nodup->P[i]? =some x->vs[i]? =some v->kindOf x=some .local->
  bindL kindOf (P.zip vs) m x=some v
 |[],_,_,_,_,h,_,_=>by simp at h
 |_::_,[],_,_,_,_,h,_=>by simp at h
 |p::P,w::vs,0,m,nd,h1,h2,hk=>by
  simp at h1 h2;subst h1;subst h2
  show bindL kindOf ((p,w)::P.zip vs) m p=_
  unfold bindL
  rw[zU fun v hv=>(jS.mp nd).1 (oO hv).1,if_pos hk]
  simp
 |p::P,w::vs,i+1,m,nd,h1,h2,hk=>by
  show bindL kindOf ((p,w)::P.zip vs) m x=_
  unfold bindL
  exact zW (i:=i) (jS.mp nd).2 (by simpa using h1) (by simpa using h2) hk
theorem zX{kindOf:Str->Option NameKind}{x:Str}{v:Value}:∀{P:List Str} {vs:List Value} {i:Nat} {m:Str->Option Value},P.Nodup->P[i]? =some x->vs[i]? =some v->kindOf x≠some .local->
  bindC kindOf (P.zip vs) m x=some v
 |[],_,_,_,_,h,_,_=>by simp at h
 |_::_,[],_,_,_,_,h,_=>by simp at h
 |p::P,w::vs,0,m,nd,h1,h2,hk=>by
  simp at h1 h2;subst h1;subst h2
  show bindC kindOf ((p,w)::P.zip vs) m p=_
  unfold bindC
  rw[zV fun v hv=>(jS.mp nd).1 (oO hv).1,if_neg hk]
  simp
 |p::P,w::vs,i+1,m,nd,h1,h2,hk=>by
  show bindC kindOf ((p,w)::P.zip vs) m x=_
  unfold bindC
  exact zX (i:=i) (jS.mp nd).2 (by simpa using h1) (by simpa using h2) hk
def start(N:List Str)(vs:List V):St:=vs.map some++gy (N.length-vs.length) none
def jd(CX:iK)(P:Program)(w:World)(K:aD)(mg:Str->Option Value)(base:Heap)(N:List Str)(qual:Str)(scope:Scope)(f:Addr)(cd:Value)(A:Around)(outer:List Env)(s:Shared)(H:Hp)(E:XK):Cx where
 prog:=P
 w:=w
 K:=K
 mg:=mg
 base:=base
 A:=A.deeper (envOfC qual scope s.heap.objs.size f cd)
 N:=N
 s_0:=s
 H_0:=H
 env:=envOfC qual scope s.heap.objs.size f cd
 outer:=outer
 stack:=envOfC qual scope s.heap.objs.size f cd::outer
 ex:=[]
 calm:=true
 fn:=fun _=>true
 pn:=[]
 xe:=fun e s'=>wpAny (model P w) (A.deeper (envOfC qual scope s.heap.objs.size f cd)) (leaving (envOfC qual scope s.heap.objs.size f cd) e) (fun _ s''=>CX outer H s E e s'') (fun e' s''=>CX outer H s E e' s'') s'
theorem zY{sc:Scope}{n:Nat}{x:Str}(h:sc.names.lookup x=some .cell):∃c,(cellsFrom n sc.names []).lookup x=some c:=by
 have q:=MU sc.names n [] (.inl h)
 exact Option.isSome_iff_exists.mp q
theorem GS{CX:iK}{P:Program}{w:World}{K:aD}{mg:Str->Option Value}{base:Heap}{N ps:List Str}{qual:Str}{scope:Scope}{f:Addr}{cd:Value}{A:Around}{outer:List Env}{s s1:Shared}{H:Hp}{E:XK}{us:List Value}{vs:List V}
  (S:aZ N ps scope)(hd:A.handled=none)(e0:kS P w K mg base A outer s H)(hl:vs.length=ps.length)(r:ab vs us)
  (x:InCallC s s.heap.objs.size (bindL (envOfC qual scope s.heap.objs.size f cd).kindOf (ps.zip us) fun _=>none) (cellsFrom (s.heap.objs.size+1) scope.names []) (bindC (envOfC qual scope s.heap.objs.size f cd).kindOf (ps.zip us) fun _=>none) s1):
  aH (jd CX P w K mg base N qual scope f cd A outer s H E) [] (start N vs) H s1:=by
 have hpl:ps.length<=N.length:=by have:=congrArg rR S.pre;rw[cM] at this;omega
 obtain⟨h1,tk,rfl,hk⟩:=x.done
 have noA:∀b:Addr,b∉(jd CX P w K mg base N qual scope f cd A outer s H E).ex:=fun b z=>absurd (show b∈([]:List Addr) from z) (by simp)
 refine⟨⟨e0.mod,S.kind,rfl,rfl,aY _,fun y z c h1 h2=>?_,fun y hy=>?_,fun y c _ h=>?_,fun _=>hd,Around.frames_deeper e0.frames,.inr ⟨rfl,rfl⟩,fun b z=>absurd z (noA b),e0.bs,e0.bsz,fun b _ _=>noA b,fun b z=>absurd z (noA b),e0.funs,e0.frf⟩,
  rfl,e0.bare,Un.kept hk,⟨_,x.toInCall.ns,fun i y v h1 h2 h3=>?_⟩,fun y c h=>⟨_,x.cell y c h⟩,e0.hok.fresh (aY _),fun y c h=>?_,fun p hp=>absurd (show p∈([]:List (Addr×Obj)) from hp) (by simp),e0.hok.kept hk,?_⟩
 ·exact name_of_addr x.apart (fj h1) (fj h2)
 ·have hy:scope.names.lookup y=some .cell\/scope.names.lookup y=some .free:=hy
  rcases hy with hy|hy
  ·exact zY hy
  ·exact absurd rfl (S.nofree _ (fj hy))
 ·exact kg (x.above y c (fj h))
 ·have hi:i<vs.length:=by
   unfold start at h2
   by_cases hi:i<vs.length
   ·exact hi
   ·rw[oP (by simpa using hi)] at h2
    rw[MV] at h2
    split at h2<;>cases h2
  have ha:vs[i]? =some v:=by
   unfold start at h2
   rw[oQ (by simpa using hi),bo] at h2
   cases e:vs[i]? with
   |none=>rw[e] at h2;cases h2
   |some a=>rw[e] at h2;cases h2;rfl
  obtain⟨u,hu,rv⟩:=r.get ha
  have hp:ps[i]? =some y:=by
   rw[<-S.pre,List.getElem?_take_of_lt (by omega)];exact h1
  have ndP:ps.Nodup:=by rw[<-S.pre];exact S.nd.sublist (List.take_sublist _ _)
  refine⟨u,rv,?_⟩
  rcases S.par y (cv hp) with k|k
  ·exact .inl ⟨k,zW ndP hp hu k⟩
  ·obtain⟨c,e⟩:=zY (n:=s.heap.objs.size+1) k
   refine .inr ⟨.inl k,c,e,?_⟩
   have q:=x.cell y c e
   rw[zX ndP hp hu (by show scope.names.lookup y≠_;rw[k];decide)] at q
   exact q
 ·exact e0.hok.fresh (kg (x.above y c (fj h)))
 ·unfold start
  show _=N.length
  rw[aS,aL,oR]
  omega
theorem GT{CX:iK}{P:Program}{w:World}{K:aD}{mg:Str->Option Value}{base:Heap}{k:Nat}{f:Addr}{name qual:Str}{params:Arguments}{body:List Stmt}{scope:Scope}{dV kV doc pm cdv ct oc:Value}{an od:Option Addr}
  {osl:Array (Option Value)}{N ps:List Str}{sp:Sp}(lk:K.lookup f=some ⟨oc,od,.func (hU name qual params body scope dV kV doc pm an cdv ct),osl⟩)(hcd:mB K cdv qual=true)(S:aZ N ps scope)
  (len:∀vs H Q E,sp vs H Q E->vs.length=ps.length)
  (hbody:∀(A:Around) (outer:List Env) (s:Shared) (H:Hp) (vs:List V) (Q:VK) (E:XK),bh k (A.deeper (envOfC qual scope s.heap.objs.size f cdv))->sp vs H Q E->
   ∃t,eY (jd CX P w K mg base N qual scope f cdv A outer s H E) body t/\t {nx:=fun _ H'=>Q .non H',rt:=Q} (start N vs) H):
  dB P w K mg base CX (k+1) f (hU name qual params body scope dV kV doc pm an cdv ct) ps sp:=by
 refine⟨len,fun A outer s H args us vs Q E hr e0 hb r hsp=>?_⟩
 have hl:=len _ _ _ _ hsp
 have KX:K.In s.heap:=e0.mod.kin.keeps fun b o e=>(e0.bs b o e).1
 have bz:s.heap.NoLimit:=e0.mod.nolimit.keeps fun b o e=>(e0.bs b o e).1
 have hkind:∀y∈ps.zip us,scope.names.lookup y.1=some .local\/(scope.names.lookup y.1=some .cell/\((cellsFrom (s.heap.objs.size+1) scope.names []).lookup y.1).isSome=true):=fun⟨n,v⟩ hy=>by
  rcases S.par n (oO hy).1 with q|q
  ·exact .inl q
  ·exact .inr ⟨q,MU _ _ _ (.inl q)⟩
 refine codeAny_call_function hr.depth (KX _ _ lk) rfl S.co S.gen rfl (PySem.W.codeRec_of KX hcd) (hb _ _ _ _ ?_)
 refine wpAny_newFunctionEnv_cells S.kind hkind fun env he s1 x=>?_
 subst he
 refine⟨bz.keeps x.toInCall.keep,codeAny_func ?_⟩
 obtain⟨t,ht,hq⟩:=hbody A outer s H vs Q E (hr.deeper _) hsp
 have I:aH (jd CX P w K mg base N qual scope f cdv A outer s H E) [] (start N vs) H s1:=GS S hr.hd e0 hl r x
 refine wpAny_mono (ht [] s1 (start N vs) H _ I hq) (fun fl s' hs=>?_) fun e s' hs=>hs
 have fin:∀{σ':St} {H':Hp} {v:V} {u:Value},aH (jd CX P w K mg base N qual scope f cdv A outer s H E) [] σ' H' s'->RelV v u->Q v H'->CE outer P w H s Q u s':=
  fun{σ' H' v u} J rv q=>⟨v,H',J.os,J.bare,J.base,J.hok,rv,q⟩
 cases fl with
 |ret u=>
  obtain⟨v,σ',H',J,rv,q⟩:=hs
  exact fin J rv q
 |next=>
  obtain⟨σ',H',J,q⟩:=hs
  exact fin (v:=V.non) (u:=Value.none) J rfl q
 |brk=>
  obtain⟨_,_,_,q⟩:=hs
  exact fH q
 |cont=>
  obtain⟨_,_,_,q⟩:=hs
  exact fH q
section
variable{X:Cx}{x:Str}{p pos:Pos}{e:Expr}{es:List Expr}{t:TA}{id T:String}{r:List V->Hp->VK->Prop}
def mr(r:List V->Hp->VK->Prop)(t:TA):TE:=fun σ H Q=>t σ H fun vs H1=>r vs H1 Q
theorem bD(hc:jM X (.builtin id) r)(hg:Gl X x)(hm:X.mg x=none)(hv:bootBuiltins x=some (.builtin id))(ha:PA X (e::es) t)(hn:x≠"__name__":=by decide)(hdb:(x==("__debug__":Str))=false:=by decide)
  (he:starEach (e::es) X.env=(false,eval e X.env)::starEach es X.env:=by rfl)(hpl:(backTo pos (starEach es X.env)).any (·.1)=false:=by rfl):PE X (.Call (.Name x p) (e::es) [] pos) (mr r t):=by
 intro pins s σ H Q I h
 refine wpAny_Call_Name_kw (j8 I hg hm hv ?_ hn hdb)
 exact PyProof.Rows.callWith_builtin1 (af (ha pos pins s σ H _ I h) fun us s1 ⟨vs,H1,I1,r1,q1⟩=>hc pins s1 σ H1 vs us Q I1 r1 q1) he hpl
theorem gZ(hc:jM X (.type T) r)(hg:Gl X x)(hm:X.mg x=none)(hv:bootBuiltins x=some (.type T))(ha:PA X (e::es) t)(hn:x≠"__name__":=by decide)(hdb:(x==("__debug__":Str))=false:=by decide)
  (he:starEach (e::es) X.env=(false,eval e X.env)::starEach es X.env:=by rfl)(hpl:(backTo pos (starEach es X.env)).any (·.1)=false:=by rfl):PE X (.Call (.Name x p) (e::es) [] pos) (mr r t):=by
 intro pins s σ H Q I h
 refine wpAny_Call_Name_kw (j8 I hg hm hv ?_ hn hdb)
 exact mC (af (ha pos pins s σ H _ I h) fun us s1 ⟨vs,H1,I1,r1,q1⟩=>hc pins s1 σ H1 vs us Q I1 r1 q1) he hpl
end
end L2
namespace HT
open PySem PyProof.Rows
section
variable{prog:Program}{w:World}{A:Around}{E:Value->Shared->Prop}{s:Shared}
theorem GU{t b:Addr}{vs ws:List Value}{Q:Value->Shared->Prop}(ht:IsTup s.heap t vs.toArray)(hb:IsTup s.heap b ws.toArray)(hv:vs≠[])
  (h1:ws=[]->Q (.ref t) s)(h2:ws≠[]->Q (.ref s.heap.objs.size) {s with heap:=s.heap.push {cls:=.type "tuple",data:=.seq (vs++ws).toArray}})
  (hsz:vs.length+ws.length<=sizeLine):wpAny (model prog w) A (binaryOp .Add (.ref t) (.ref b)) Q E s:=by
 obtain⟨⟨cls,dd,data,sl⟩,ho,hc,n,hd⟩:=id ht
 obtain⟨⟨cls2,dd2,data2,sl2⟩,ho2,hc2,n2,hd2⟩:=id hb
 simp only at hc hd hc2 hd2
 subst hc hd hc2 hd2
 have e:vs.toArray++ws.toArray=(vs++ws).toArray:=by simp
 by_cases hw:ws=[]
 ·exact concat_meets ⟨_,ho,rfl⟩ ⟨_,ho2,rfl⟩ noFill_tuple_add seq_tuple_add MW MX (MY _ _)
   (tuple_addW1 t b vs.toArray ws.toArray n n2 dd dd2 sl sl2 (by simpa using hv) (by simp[hw])) ⟨ho,ho2,h1 hw⟩
 ·refine concat_meets ⟨_,ho,rfl⟩ ⟨_,ho2,rfl⟩ noFill_tuple_add seq_tuple_add MW MX (MY _ _)
   (tuple_addW2 t b vs.toArray ws.toArray n n2 dd dd2 sl sl2 (by simpa using hv) (by simpa using hw) (by rw[br,br];exact hsz)) ⟨ho,ho2,?_⟩
  rw[e]
  exact h2 hw
def aq(n d:Nat):Option Int->Nat
 |none=>d
 |some v=>if v<0 then(v+(n:Int)).toNat else min v.toNat n
theorem gC(n d k:Nat):aq n d (some (k:Int))=min k n:=by
 show(if(k:Int)<0 then((k:Int)+(n:Int)).toNat else min (k:Int).toNat n)=min k n
 rw[if_neg (by omega),Int.toNat_natCast]
theorem GV(n d:Nat)(hd:d<=n)(o:Option Int):aq n d o<=n:=by
 cases o with
 |none=>exact hd
 |some v=>
  show(if v<0 then(v+(n:Int)).toNat else min v.toNat n)<=n
  by_cases hv:v<0
  ·rw[if_pos hv];omega
  ·rw[if_neg hv];exact Nat.min_le_right _ _
theorem zZ(v:Int)(n d:Nat):(if v<0 then max (v+(n:Int)) 0 else min v (n:Int))=((aq n d (some v):Nat):Int):=by
 show(if v<0 then max (v+(n:Int)) 0 else min v (n:Int))=(((if v<0 then(v+(n:Int)).toNat else min v.toNat n):Nat):Int)
 by_cases hv:v<0
 ·simp only[if_pos hv];omega
 ·simp only[if_neg hv];omega
theorem GW(lo hi:Option Int)(n:Nat):Builtin.Slice.sliceAdjust lo hi 1 (n:Int)=(((aq n 0 lo:Nat):Int),((aq n n hi:Nat):Int)):=by
 have h1:¬((1:Int)<0):=by omega
 unfold Builtin.Slice.sliceAdjust
 simp only[h1,if_false]
 refine Prod.ext ?_ ?_
 ·cases lo with
  |none=>rfl
  |some v=>exact zZ v n 0
 ·cases hi with
  |none=>rfl
  |some v=>exact zZ v n n
theorem GX(i j:Nat):Builtin.Slice.slicePlaces (i:Int) (j:Int) 1=j-i:=by
 unfold Builtin.Slice.slicePlaces
 have h1:(1:Int)>0:=by omega
 simp only[h1,if_true,Int.ediv_one]
 split<;>omega
theorem z4{v:Value}{o:Option Int}{Q:Option Int->Shared->Prop}(p:IsPart v o)(h:Q o s):wpAny (model prog w) A (Builtin.Slice.slicePartIndex v) Q E s:=by
 cases p with
 |none=>exact slicePart_none h
 |int i t=>exact slicePart_int h
theorem z5{sl:Addr}{vl vu:Value}{lo hi:Option Int}{n:Nat}{Q:Int×Int×Nat->Shared->Prop}(hs:s.heap.IsSliceOf sl vl vu .none)(pl:IsPart vl lo)(pu:IsPart vu hi)
  (h:Q (((aq n 0 lo:Nat):Int),1,aq n n hi-aq n 0 lo) s):wpAny (model prog w) A (Builtin.Slice.sliceApplied (.ref sl) (pure (n:Int))) Q E s:=by
 obtain⟨os,hos,hcs,hds⟩:=id hs
 unfold Builtin.Slice.sliceApplied Builtin.Slice.sliceFields
 refine wpAny_bind (wpAny_bind (wpAny_field hos hds (x:=vl) rfl (wpAny_bind (wpAny_field hos hds (x:=vu) rfl (wpAny_bind (wpAny_field hos hds (x:=.none) rfl (wpAny_pure ?_)))))))
 refine wpAny_bind (slicePart_none ?_)
 show wpAny _ _ (if((1:Int)==0)=true then _ else _) _ _ s
 rw[if_neg (by decide)]
 refine wpAny_bind (z4 pl (wpAny_bind (z4 pu (wpAny_bind (wpAny_pure ?_)))))
 show wpAny _ _ (match Builtin.Slice.sliceAdjust lo hi 1 (n:Int) with|(lo,hi)=>pure (lo,(1:Int),Builtin.Slice.slicePlaces lo hi 1)) _ _ s
 rw[GW lo hi n]
 show wpAny _ _ (pure (((aq n 0 lo:Nat):Int),(1:Int),Builtin.Slice.slicePlaces ((aq n 0 lo:Nat):Int) ((aq n n hi:Nat):Int) 1)) _ _ s
 rw[GX]
 exact wpAny_pure h
theorem GY(xs:Array Value)(i k:Nat):((bJ k).filterMap fun(m:Nat)=>xs[((i:Int)+(m:Int)*1).toNat]?).toArray=((xs.toList.drop i).take k).toArray:=by
 have e:(fun(m:Nat)=>xs[((i:Int)+(m:Int)*1).toNat]?)=fun m=>xs[i+m]? :=by
  funext m
  have:((i:Int)+(m:Int)*1).toNat=i+m:=by omega
  rw[this]
 rw[e]
 have:=pick_run xs i k
 rw[List.filterMap_map] at this
 have e2:((fun x=>xs[x]?)∘fun x=>i+x)=fun m=>xs[i+m]? :=rfl
 rw[e2] at this
 rw[this]
theorem GZ{t sl:Addr}{items:Array Value}{vl vu:Value}{lo hi:Option Int}{Q:Value->Shared->Prop}(ht:IsTup s.heap t items)(hs:s.heap.IsSliceOf sl vl vu .none)(pl:IsPart vl lo)(pu:IsPart vu hi)
  (hw:¬(aq items.size 0 lo=0/\aq items.size items.size hi=items.size))
  (h:Q (.ref s.heap.objs.size) {s with heap:=s.heap.push {cls:=.type "tuple",data:=.seq ((items.toList.drop (aq items.size 0 lo)).take (aq items.size items.size hi-aq items.size 0 lo)).toArray}})
  (hsz:items.size<=sizeLine):wpAny (model prog w) A (getItem (.ref t) (.ref sl)) Q E s:=by
 have htake:sizeOk (.seq ((items.toList.drop (aq items.size 0 lo)).take (aq items.size items.size hi-aq items.size 0 lo)).toArray):=by
  show((items.toList.drop (aq items.size 0 lo)).take (aq items.size items.size hi-aq items.size 0 lo)).toArray.size<=sizeLine
  rw[br,cM,di,oN]
  omega
 have hj:aq items.size items.size hi<=items.size:=GV _ _ (aY _) hi
 obtain⟨os,hos,hcs,hds⟩:=id hs
 have hTs:s.TypeIs (.ref sl) "slice":=⟨os,hos,hcs⟩
 unfold getItem
 try with_reducible refine wpAny_holding ?_
 first|refine wpAny_bind (wpAny_pure ?_)|skip
 refine wpAny_bind (wpAny_sequenceKey ht.typeIs (by decide) ?_)
 refine wpAny_bind (wpAny_callSpecial?_slot (name:=Str.ofString "__getitem__") ht.typeIs x9
  (wpAny_call_entry x9 ht.typeIs entry_tuple_getitem ?_ (args_tuple_getitem _ _)))
 show wpAny _ _ (Builtin.Tuple.tupleItemsOf (.ref t)>>=_) _ _ s
 refine wpAny_bind (tupleItemsOf_ ht ?_)
 refine wpAny_bind (wpAny_typeOf hTs ?_)
 rw[if_pos (by decide)]
 refine wpAny_bind (z5 hs pl pu ?_)
 have hno:¬((((aq items.size 0 lo:Nat):Int)==0&&(1:Int)==1&&(aq items.size items.size hi-aq items.size 0 lo)==items.size)=true):=by
  intro q
  rw[ag,ag] at q
  have q1:((aq items.size 0 lo:Nat):Int)=0:=eq_of_beq q.1.1
  have q2:aq items.size items.size hi-aq items.size 0 lo=items.size:=eq_of_beq q.2
  exact hw ⟨by omega,by omega⟩
 show wpAny _ _ (if(((aq items.size 0 lo:Nat):Int)==0&&(1:Int)==1&&(aq items.size items.size hi-aq items.size 0 lo)==items.size)=true then _ else _) _ _ s
 rw[if_neg hno,GY]
 first
  |exact wpAny_bind (m:=Builtin.Tuple.tupleExact _) (wpAny_newObj_type (wpAny_pure ⟨_,rfl,wpAny_pure h⟩) htake)
  |exact wpAny_bind (m:=Builtin.Tuple.tupleExact _) (wpAny_newObj_type (wpAny_bind (wpAny_pure (wpAny_pure ⟨_,rfl,wpAny_pure h⟩))) htake)
  |exact wpAny_bind (wpAny_bind (m:=Builtin.Tuple.tupleExact _) (wpAny_newObj_type (wpAny_pure (wpAny_pure ⟨_,rfl,wpAny_pure h⟩)) htake))
  |exact wpAny_bind (wpAny_bind (m:=Builtin.Tuple.tupleExact _) (wpAny_newObj_type (wpAny_pure ⟨_,rfl,wpAny_pure h⟩) htake))
end
end HT
namespace L2
open PySem PySem.Spec PyProof.Rows
abbrev TO:=St->Hp->(Option Int->Hp->Prop)->Prop
def PO(X:Cx)(e:Option Expr)(t:TO):Prop:=
 ∀(pins:List (Addr×Obj)) (s:Shared) (σ:St) (H:Hp) (Q:Option Int->Hp->Prop),aH X pins σ H s->t σ H Q->
  wpAny (model X.prog X.w) X.A (evalPart e X.env) (fun u s'=>∃o H',aH X pins σ H' s'/\IsPart u o/\Q o H') X.xe s
def G0:TO:=fun _ H Q=>Q none H
def kT(t:TE):TO:=fun σ H Q=>t σ H fun x H1=>∃i,x=.int i/\Q (some i) H1
section
variable{X:Cx}{e:Expr}{te:TE}{lo hi:Option Expr}{tl th:TO}{pos p2:Pos}
theorem je:PO X none G0:=by
 intro pins s σ H Q I h
 rw[evalPart_none]
 exact wpAny_pure ⟨none,H,I,.none,h⟩
theorem dz(h:PE X e te):PO X (some e) (kT te):=by
 intro pins s σ H Q I hw
 rw[evalPart_some]
 refine af (h pins s σ H _ I hw) fun u s1 ⟨x,H1,I1,r1,q1⟩=>?_
 obtain⟨i,rfl,q⟩:=q1
 obtain⟨t,rfl⟩:=r1
 exact⟨some i,H1,I1,.int i t,q⟩
def pT(X:Cx)(r:V->Option Int->Option Int->Hp->VK->Prop):Prop:=
 ∀(pins:List (Addr×Obj)) (s:Shared) (σ:St) (H:Hp) (x:V) (v vl vu:Value) (lo hi:Option Int) (sl:Addr) (Q:VK),aH X pins σ H s->RelV x v->s.heap.IsSliceOf sl vl vu .none->IsPart vl lo->IsPart vu hi->r x lo hi H Q->
  ∃T id,typeLookup (.type T) "__getitem__"=pure (some (.builtin id))/\s.TypeIs v T/\wpAny (model X.prog X.w) X.A (getItem v (.ref sl)) (EP X pins σ Q) X.xe s
def pU(r:V->Option Int->Option Int->Hp->VK->Prop)(te:TE)(tl th:TO):TE:=fun σ H Q=>te σ H fun x H1=>tl σ H1 fun l H2=>th σ H2 fun u H3=>r x l u H3 Q
theorem gD{r:V->Option Int->Option Int->Hp->VK->Prop}(hr:pT X r)(he:PE X e te)(hl:PO X lo tl)(hu:PO X hi th):PE X (.Subscript e (.Slice lo hi none p2) pos) (pU r te tl th):=by
 intro pins s σ H Q I h
 refine Subscript_ (af (he pins s σ H _ I h) fun v s1 ⟨x,H1,I1,r1,q1⟩=>?_)
 refine wpAny_Slice (af (hl pins s1 σ H1 _ I1 q1) fun vl s2 ⟨l,H2,I2,pl,q2⟩=>af (hu pins s2 σ H2 _ I2 q2) fun vu s3 ⟨u,H3,I3,pu,q3⟩=>?_)
 rw[evalPart_none]
 refine wpAny_pure ?_
 have I4:aH X pins σ H3 {s3 with heap:=s3.heap.push {cls:=.type "slice",data:=.fields #[vl,vu,.none]}}:=I3.kept (t':=s3.toks) fun b ob q=>Heap.get?_push_of_some _ q
 obtain⟨T,id,hT,ht,hg⟩:=hr pins {s3 with heap:=s3.heap.push {cls:=.type "slice",data:=.fields #[vl,vu,.none]}} σ H3 x v vl vu l u s3.heap.objs.size Q I4 r1 (Heap.IsSliceOf.new ..) pl pu q3
 show wpAny (model X.prog X.w) X.A (subscriptTail e (.Slice lo hi none p2) v (.ref s3.heap.objs.size)) (EP X pins σ Q) X.xe {s3 with heap:=s3.heap.push {cls:=.type "slice",data:=.fields #[vl,vu,.none]}}
 exact tail_any (ops:=[.ref s3.heap.objs.size,v]) ht hT hg (by with_unfolding_all rfl)
def cW(xs:List V)(lo hi:Option Int):List V:=(xs.drop (HT.aq xs.length 0 lo)).take (HT.aq xs.length xs.length hi-HT.aq xs.length 0 lo)
theorem z6(xs:List V)(lo hi:Option Int):(cW xs lo hi).length<=xs.length:=by
 unfold cW
 rw[cM,di]
 omega
def G1(K:aD):V->Option Int->Option Int->Hp->VK->Prop:=fun x lo hi H Q=>∃a xs,x=.ref a/\aW K H a xs/\
 ¬(HT.aq xs.length 0 lo=0/\HT.aq xs.length xs.length hi=xs.length)/\∀p,H p=none->Q (.ref p) (upd H p (.tup (cW xs lo hi)))
theorem G2:pT X (G1 X.K):=by
 intro pins s σ H x v vl vu lo hi sl Q I rx hs pl pu h
 obtain⟨a,xs,rfl,hx,hw,q⟩:=h
 cases rx
 obtain⟨its,r,ht,hz⟩:=I.tuple hx
 have hlen:its.toArray.size=xs.length:=by rw[br];exact r.length.symm
 refine⟨"tuple",_,PyProof.Rows.slot_tuple_getitem.lookup,ht.typeIs,?_⟩
 refine HT.GZ ht hs pl pu (by rw[hlen];exact hw) ?_ (by rw[hlen];exact hz)
 rw[hlen]
 refine⟨.ref s.heap.objs.size,_,I.laid (t':=s.toks) (o:=.tup (cW xs lo hi)) (fun b ob q=>Heap.get?_push_of_some _ q) (aY _) ?_,rfl,q _ (I.hok.fresh (aY _))⟩
 exact⟨bW (z6 xs lo hi) hz,_,(r.drop (HT.aq xs.length 0 lo)).take (HT.aq xs.length xs.length hi-HT.aq xs.length 0 lo),IsTup.new _ _⟩
def G3(K:aD):R2:=fun x y H Q=>∃a b xs ys,x=.ref a/\y=.ref b/\aW K H a xs/\aW K H b ys/\xs≠[]/\xs.length+ys.length<=sizeLine/\
 (ys=[]->Q (.ref a) H)/\(ys≠[]->∀p,H p=none->Q (.ref p) (upd H p (.tup (xs++ys))))
theorem ab.nil_iff{xs:List V}{us:List Value}(r:ab xs us):us=[]↔xs=[]:=by
 cases r with
 |nil=>simp
 |cons _ _=>simp
theorem G4:cV X (binaryOp .Add) (G3 X.K):=by
 intro pins s σ H x y v u Q I rx ry h
 obtain⟨a,b,xs,ys,rfl,rfl,ha,hb,hx,hz,q1,q2⟩:=h
 cases rx
 cases ry
 obtain⟨its,r1,p1,_⟩:=I.tuple ha
 obtain⟨its2,r2,p2,_⟩:=I.tuple hb
 refine HT.GU p1 p2 (fun z=>hx (r1.nil_iff.mp z)) (fun z=>⟨.ref a,H,I,rfl,q1 (r2.nil_iff.mp z)⟩) (fun z=>?_) (by rw[<-r1.length,<-r2.length];exact hz)
 refine⟨.ref s.heap.objs.size,_,I.laid (t':=s.toks) (o:=.tup (xs++ys)) (fun b ob q=>Heap.get?_push_of_some _ q) (aY _) ?_,rfl,q2 (fun w=>z (r2.nil_iff.mpr w)) _ (I.hok.fresh (aY _))⟩
 exact⟨by rw[aS];exact hz,_,r1.append r2,IsTup.new _ _⟩
end
def fK(n:Nat)(i:Int):Option Nat:=if 0<=i then(if i<n then some i.toNat else none) else if-(n:Int)<=i then some (i+n).toNat else none
def jO{α:Type}(xs:List α)(i:Int):Option α:=(fK xs.length i).bind fun j=>xs[j]?
theorem z7{n:Nat}{i:Int}{j:Nat}(h:fK n i=some j):seqIndex? i n=some j/\j<n/\-(n:Int)<=i/\i<n:=by
 unfold fK at h
 by_cases h0:0<=i
 ·rw[if_pos h0] at h
  by_cases h1:i<n
  ·rw[if_pos h1] at h
   have e:i.toNat=j:=bL h
   exact⟨by rw[seqIndex_of h0 h1,e],by omega,by omega,h1⟩
  ·rw[if_neg h1] at h;cases h
 ·rw[if_neg h0] at h
  by_cases h1: -(n:Int)<=i
  ·rw[if_pos h1] at h
   have e:(i+n).toNat=j:=bL h
   exact⟨by rw[seqIndex_neg (by omega) h1,e],by omega,h1,by omega⟩
  ·rw[if_neg h1] at h;cases h
theorem z8{α:Type}{xs:List α}{i:Int}{v:α}(h:jO xs i=some v):∃j,seqIndex? i xs.length=some j/\xs[j]? =some v/\j<xs.length/\-(xs.length:Int)<=i/\i<xs.length:=by
 unfold jO at h
 cases e:fK xs.length i with
 |none=>rw[e] at h;cases h
 |some j=>
  rw[e] at h
  obtain⟨h1,h2,h3,h4⟩:=z7 e
  exact⟨j,h1,h,h2,h3,h4⟩
theorem ah{α:Type}{xs:List α}{j:Nat}{v:α}(h:xs[j]? =some v):jO xs (j:Int)=some v:=by
 have hj:j<xs.length:=(bC.mp h).1
 have e:fK xs.length (j:Int)=some j:=by
  unfold fK
  rw[if_pos (by omega),if_pos (by omega)];simp
 unfold jO;rw[e];exact h
theorem t9{α:Type}(xs:List α)(v:α):jO (xs++[v]) (-1)=some v:=by
 have hl:(xs++[v]).length=xs.length+1:=by simp
 have e:fK (xs++[v]).length (-1)=some xs.length:=by
  unfold fK
  rw[hl,if_neg (by decide),if_pos (by omega)]
  congr 1
  omega
 unfold jO
 rw[e]
 show(xs++[v])[xs.length]? =some v
 simp
def G5(b:Expr):Prop:=∀o i,subscripted b false o i=operate [o,i] (getItem o i)
def tf(X:Cx)(r:R2):Prop:=
 ∀(value slice:Expr) (pins:List (Addr×Obj)) (s:Shared) (σ:St) (H:Hp) (x y:V) (v u:Value) (Q:VK),aH X pins σ H s->RelV x v->RelV y u->r x y H Q->
  subscripted slice false v u=operate [v,u] (getItem v u)->wpAny (model X.prog X.w) X.A (subscriptTail value slice v u) (EP X pins σ Q) X.xe s
def tj(X:Cx)(id:String)(r:V->List V->Hp->VK->Prop):Prop:=
 ∀(pins:List (Addr×Obj)) (s:Shared) (σ:St) (H:Hp) (x:V) (xs:List V) (v:Value) (us:List Value) (Q:VK),aH X pins σ H s->RelV x v->ab xs us->r x xs H Q->
  wpAny (model X.prog X.w) X.A (call (.builtin id) (v::us)) (EP X pins σ Q) X.xe s
section
variable{X:Cx}{a b:Expr}{ta tb:TE}{pos:Pos}
theorem aa{r:R2}(hr:tf X r)(ha:PE X a ta)(hb:PE X b tb)(hs:G5 b):PE X (.Subscript a b pos) (cE r ta tb):=by
 intro pins s σ H Q I h
 exact Subscript_ (tZ ha hb I h fun v u s2 x y H2 I2 rx ry q=>hr a b pins s2 σ H2 x y v u Q I2 rx ry q (hs _ _))
def ip(K:aD):R2:=fun x y H Q=>∃p xs i v,x=.ref p/\y=.int i/\aE K H p xs/\jO xs i=some v/\Q v H
def mv(K:aD):R2:=fun x y H Q=>∃p xs i v,x=.ref p/\y=.int i/\aW K H p xs/\jO xs i=some v/\Q v H
theorem az:tf X (ip X.K):=by
 intro value slice pins s σ H x y v u Q I rx ry h hs
 obtain⟨p,xs,i,z,rfl,rfl,hq,he,q⟩:=h
 cases rx
 obtain⟨t,rfl⟩:=ry
 obtain⟨its,r,pl,hz⟩:=I.list hq
 obtain⟨j,h1,h2,h3,h4,h5⟩:=z8 he
 obtain⟨w,ew,rw'⟩:=r.get h2
 have hl:=r.length
 have hn:=ml
 have fin:EP X pins σ Q w s:=⟨z,H,I,rw',q⟩
 by_cases h0:0<=i
 ·have hj:i.toNat=j:=by
   rw[seqIndex_of h0 h5] at h1
   exact bL h1
  exact item_listR pl.isList h0 (by omega) (by rw[hj];simpa using ew) fin hs
 ·have hj:(i+(its.toArray.size:Int)).toNat=j:=by
   rw[seqIndex_neg (by omega) h4] at h1
   rw[br,<-hl]
   exact bL h1
  exact subscriptTail_builtinR (x:=w) pl.isList.typeIs slot_list_getitem.lookup
   (wpAny_getItem_list_neg (Q:=fun r s'=>r=w/\EP X pins σ Q r s') pl.isList (by omega) (by rw[br]<;>omega) (by omega) (by rw[hj];simpa using ew) ⟨rfl,fin⟩) hs
theorem cX:tf X (mv X.K):=by
 intro value slice pins s σ H x y v u Q I rx ry h hs
 obtain⟨p,xs,i,z,rfl,rfl,hq,he,q⟩:=h
 cases rx
 obtain⟨t,rfl⟩:=ry
 obtain⟨its,r,pl,hz⟩:=I.tuple hq
 obtain⟨j,h1,h2,h3,h4,h5⟩:=z8 he
 obtain⟨w,ew,rw'⟩:=r.get h2
 have hl:=r.length
 have hn:=ml
 have fin:EP X pins σ Q w s:=⟨z,H,I,rw',q⟩
 exact subscriptTail_builtinR (x:=w) pl.typeIs slot_tuple_getitem.lookup
  (getItem_tuple (j:=j) (Q:=fun r s'=>r=w/\EP X pins σ Q r s') pl (by omega) (by omega) (by rw[br,<-hl];exact h1) (by simpa using ew) ⟨rfl,fin⟩) hs
theorem G6(its:List Value)(n j:Nat)(u:Value):Obj.mapSeq (·.setIfInBounds j u) {cls:=.type "list",data:=.seq its.toArray n}={cls:=.type "list",data:=.seq (its.set j u).toArray n}:=by
 simp[Obj.mapSeq]
theorem aH.lst{pins:List (Addr×Obj)}{σ:St}{H:Hp}{s:Shared}{p:Addr}{xs:List V}(I:aH X pins σ H s)(h:H p=some (.lst xs)):
  ∃(its:List Value) (n:Nat),ab xs its/\s.heap.get? p=some {cls:=.type "list",data:=.seq its.toArray n}/\xs.length<=sizeLine:=by
 obtain⟨z,its,n,r,e⟩:=I.hok p _ h
 exact⟨its,n,r,e,z⟩
theorem aH.lstUpd{pins:List (Addr×Obj)}{σ:St}{H:Hp}{s:Shared}{p:Addr}{xs ys:List V}{its its':List Value}{n n':Nat}{f:Obj->Obj}(I:aH X pins σ H s)(h:H p=some (.lst xs))
  (ho:s.heap.get? p=some {cls:=.type "list",data:=.seq its.toArray n})(hf:f {cls:=.type "list",data:=.seq its.toArray n}={cls:=.type "list",data:=.seq its'.toArray n'})(r:ab ys its')(hz:ys.length<=sizeLine)(t:Nat):
  aH X pins σ (upd H p (.lst ys)) {s with heap:=s.heap.update p f,toks:=t}:=by
 have e:(s.heap.update p f).get? p=some {cls:=.type "list",data:=.seq its'.toArray n'}:=by
  rw[Heap.get?_update_self f ho (by rw[hf]<;>rfl),hf]
 refine I.write (x:=p) (e:=p) (by rw[h];trivial) (.inl rfl) (fun b u hb q=>(Heap.get?_update_other _ _ (Ne.symm hb)).trans q) ⟨_,e⟩ ?_
 exact⟨hz,its',n',r,e⟩
def G7:V->V->V->Hp->(Hp->Prop)->Prop:=fun o i v H Q=>∃p xs k j,o=.ref p/\i=.int k/\H p=some (.lst xs)/\fK xs.length k=some j/\Q (upd H p (.lst (xs.set j v)))
theorem set_list:yo X G7:=by
 intro pins s σ H o i v ov iv u Q I ro ri rv h
 obtain⟨p,xs,k,j,rfl,rfl,hp,hj,q⟩:=h
 cases ro
 obtain⟨t,rfl⟩:=ri
 obtain⟨its,n,r,ho,hz⟩:=I.lst hp
 obtain⟨h1,h2,h3,h4⟩:=z7 hj
 have hl:=r.length
 have hn:=ml
 have I':aH X pins σ (upd H p (.lst (xs.set j v))) {s with heap:=s.heap.update p (Obj.mapSeq (·.setIfInBounds j u))}:=
  I.lstUpd hp ho (G6 its n j u) (r.set rv j) (by rw[cP];exact hz) s.toks
 by_cases h0:0<=k
 ·have hk:k.toNat=j:=by
   rw[seqIndex_of h0 h4] at h1
   exact bL h1
  exact PySem.W.ki_setAt ho h0 (by omega) (by rw[br,<-hl];exact h4) (by rw[hk];exact⟨_,I',q⟩)
 ·have hk:(k+(its.toArray.size:Int)).toNat=j:=by
   rw[seqIndex_neg (by omega) h3] at h1
   rw[br,<-hl]
   exact bL h1
  exact PySem.W.ki_setBack ho (by omega) (by rw[br,<-hl];exact h3) (by omega) (by rw[hk];exact⟨_,I',q⟩)
theorem G8(lo hi:Option Int)(n:Nat):(sliceBounds lo hi none n).1=((HT.aq n 0 lo:Nat):Int)/\(sliceBounds lo hi none n).2.1=((HT.aq n n hi:Nat):Int)/\(sliceBounds lo hi none n).2.2=1:=by
 refine⟨?_,?_,rfl⟩
 ·cases lo with
  |none=>simp[sliceBounds,HT.aq]
  |some i=>
   simp only[sliceBounds,HT.aq,MZ,show(1:Int)>0 by decide,if_true]
   by_cases h:i<0
   ·simp only[h,if_true]<;>omega
   ·simp only[h,if_false]<;>omega
 ·cases hi with
  |none=>simp[sliceBounds,HT.aq]
  |some i=>
   simp only[sliceBounds,HT.aq,MZ,show(1:Int)>0 by decide,if_true]
   by_cases h:i<0
   ·simp only[h,if_true]<;>omega
   ·simp only[h,if_false]<;>omega
theorem G9(its:List Value)(lo hi:Option Int):slicePick its.toArray lo hi none=((its.drop (HT.aq its.length 0 lo)).take (HT.aq its.length its.length hi-HT.aq its.length 0 lo)).toArray:=by
 obtain⟨h1,h2,h3⟩:=G8 lo hi its.toArray.size
 unfold slicePick
 rw[h1,h2,h3]
 simp only[sliceRange_one,pick_run,br]<;>rfl
def pV(K:aD):V->Option Int->Option Int->Hp->VK->Prop:=fun x lo hi H Q=>∃a xs,x=.ref a/\aE K H a xs/\∀p,H p=none->Q (.ref p) (upd H p (.lst (cW xs lo hi)))
theorem iL:pT X (pV X.K):=by
 intro pins s σ H x v vl vu lo hi sl Q I rx hs pl pu h
 obtain⟨a,xs,rfl,hx,q⟩:=h
 cases rx
 obtain⟨its,r,ht,hz⟩:=I.list hx
 have hlen:=r.length
 refine⟨"list",_,slot_list_getitem.lookup,ht.isList.typeIs,?_⟩
 refine wpAny_getItem_list_slice ht.isList hs pl pu .none (by simp) ?_ (by rw[br]<;>omega)
 rw[G9,<-hlen]
 refine⟨.ref s.heap.objs.size,_,I.laid (t':=s.toks) (o:=.lst (cW xs lo hi)) (fun b ob q=>Heap.get?_push_of_some _ q) (aY _) ?_,rfl,q _ (I.hok.fresh (aY _))⟩
 exact⟨bW (z6 xs lo hi) hz,_,0,(r.drop (HT.aq xs.length 0 lo)).take (HT.aq xs.length xs.length hi-HT.aq xs.length 0 lo),Heap.get?_push_size _ rfl⟩
def iq:V->Bool
 |.non=>true
 |.bl _=>true
 |.int _=>true
 |.str _=>true
 |_=>false
def iM:V->V->Bool
 |.non,.non=>true
 |.bl a,.bl b=>a==b
 |.bl a,.int b=>(if a then 1 else 0)==b
 |.int a,.bl b=>a==(if b then 1 else 0)
 |.int a,.int b=>a==b
 |.str a,.str b=>a==b
 |_,_=>false
theorem Ga{A:Around}{s:Shared}{y x:V}{u v:Value}(ry:RelV y u)(rx:RelV x v)(fy:iq y=true)(fx:iq x=true):SeqAt.EqAt A s u v (iM y x):=by
 cases y with
 |non=>
  cases ry
  cases x with
  |non=>cases rx;exact SeqAt.EqAt.same _
  |bl b=>cases rx;exact SeqAt.EqAt.none_bool b
  |int b=>obtain⟨t,rfl⟩:=rx;exact SeqAt.EqAt.none_int b t
  |str b=>obtain⟨t,rfl⟩:=rx;exact SeqAt.EqAt.none_str b t
  |_=>exact absurd (show false=true from fx) dQ
 |bl a=>
  cases ry
  cases x with
  |non=>cases rx;exact SeqAt.EqAt.bool_none a
  |bl b=>cases rx;exact SeqAt.EqAt.bool_bool a b
  |int b=>obtain⟨t,rfl⟩:=rx;exact SeqAt.EqAt.bool_int a b t
  |str b=>obtain⟨t,rfl⟩:=rx;exact SeqAt.EqAt.bool_str a b t
  |_=>exact absurd (show false=true from fx) dQ
 |int a=>
  obtain⟨t',rfl⟩:=ry
  cases x with
  |non=>cases rx;exact SeqAt.EqAt.int_none a t'
  |bl b=>cases rx;exact SeqAt.EqAt.int_bool a t' b
  |int b=>obtain⟨t,rfl⟩:=rx;exact SeqAt.EqAt.int_int a t' b t
  |str b=>obtain⟨t,rfl⟩:=rx;exact SeqAt.EqAt.int_str a t' b t
  |_=>exact absurd (show false=true from fx) dQ
 |str a=>
  obtain⟨t',rfl⟩:=ry
  cases x with
  |non=>cases rx;exact SeqAt.EqAt.str_none a t'
  |bl b=>cases rx;exact SeqAt.EqAt.str_bool a t' b
  |int b=>obtain⟨t,rfl⟩:=rx;exact SeqAt.EqAt.str_int a t' b t
  |str b=>obtain⟨t,rfl⟩:=rx;exact SeqAt.EqAt.str_str a t' b t
  |_=>exact absurd (show false=true from fx) dQ
 |_=>exact absurd (show false=true from fy) dQ
def jP(x:V)(u:Value):Bool:=match u with
 |.none=>iM .non x
 |.bool b=>iM (.bl b) x
 |.int i _=>iM (.int i) x
 |.str z _=>iM (.str z) x
 |_=>false
theorem z9{x y:V}{u:Value}(r:RelV y u)(f:iq y=true):jP x u=iM y x:=by
 cases y with
 |non=>cases r;rfl
 |bl b=>cases r;rfl
 |int i=>obtain⟨t,rfl⟩:=r;rfl
 |str z=>obtain⟨t,rfl⟩:=r;rfl
 |_=>exact absurd (show false=true from f) dQ
theorem tm{x:V}:∀{xs:List V} {us:List Value},ab xs us->xs.all iq=true->us.any (jP x)=xs.any fun y=>iM y x
 |_,_,.nil,_=>rfl
 |y::xs,u::us,.cons r t,f=>by
  rw[bx,ag] at f
  rw[iY,iY,z9 r f.1,tm t f.2]
theorem tp{A:Around}{s:Shared}{x:V}{v:Value}(rx:RelV x v)(fx:iq x=true):∀{xs:List V} {us:List Value},ab xs us->xs.all iq=true->∀u∈us,SeqAt.EqAt A s u v (jP x u)
 |_,_,.nil,_=>fun u hu=>by cases hu
 |y::xs,u::us,.cons r t,f=>fun u' hu=>by
  rw[bx,ag] at f
  rcases bc.mp hu with rfl|hu
  ·rw[z9 r f.1];exact Ga r rx f.1 fx
  ·exact tp rx fx t f.2 u' hu
def fL(x:V)(xs:List V):Bool:=xs.any fun y=>iM y x
def za(K:aD)(neg:Bool):R2:=fun x y H Q=>∃p xs,y=.ref p/\(aE K H p xs\/aW K H p xs)/\iq x=true/\xs.all iq=true/\Q (.bl (if neg then !fL x xs else fL x xs)) H
theorem mw:cV X (compareOp .In) (za X.K false):=by
 intro pins s σ H x y v u Q I rx ry h
 obtain⟨p,xs,rfl,hq,fx,fs,q⟩:=h
 cases ry
 rcases hq with hq|hq
 ·obtain⟨its,r,pl,hz⟩:=I.list hq
  refine SeqAt.in_listAt (jP x) pl.isList (fun w hw=>tp rx fx r fs w (by simpa using hw)) ⟨.bl _,H,I,rfl,?_⟩
  rw[show its.toArray.any (jP x)=its.any (jP x) by simp,tm r fs]
  exact q
 ·obtain⟨its,r,pl,hz⟩:=I.tuple hq
  refine SeqAt.in_tupleAt (jP x) pl (fun w hw=>tp rx fx r fs w (by simpa using hw)) ⟨.bl _,H,I,rfl,?_⟩
  rw[show its.toArray.any (jP x)=its.any (jP x) by simp,tm r fs]
  exact q
theorem bI:jM X (.builtin "len") (fun xs H Q=>∃p ys,xs=[.ref p]/\(aE X.K H p ys\/aW X.K H p ys)/\Q (.int ys.length) H):=by
 intro pins s σ H xs us Q I r h
 obtain⟨p,ys,rfl,hq,q⟩:=h
 obtain⟨u,rfl,rx⟩:=vals1 r
 cases rx
 have hn:=ml
 rcases hq with hq|hq
 ·obtain⟨its,r',pl,hz⟩:=I.list hq
  have hlen:=r'.length
  exact Calls.call_len_list pl.isList (by simp only[br]<;>omega) ⟨.int ys.length,H,I.tok _,⟨s.toks+1,by rw[br,hlen]⟩,q⟩
 ·obtain⟨its,r',pl,hz⟩:=I.tuple hq
  have hlen:=r'.length
  exact len_tuple pl (by simp only[br]<;>omega) ⟨.int ys.length,H,I.tok _,⟨s.toks+1,by rw[br,hlen]⟩,q⟩
theorem jf:jM X (.type "list") (fun xs H Q=>∃p ys,xs=[.ref p]/\(aE X.K H p ys\/aW X.K H p ys)/\∀l,H l=none->Q (.ref l) (upd H l (.lst ys))):=by
 intro pins s σ H xs us Q I r h
 obtain⟨p,ys,rfl,hq,q⟩:=h
 obtain⟨u,rfl,rx⟩:=vals1 r
 cases rx
 have fin:∀(its:List Value),ab ys its->ys.length<=sizeLine->∀(h':Heap) (c':Nat),(∀b o',s.heap.get? b=some o'->h'.get? b=some o')->
   h'.get? s.heap.objs.size=some {cls:=.type "list",dict:=none,data:=.seq its.toArray c',slots:= #[]}->EP X pins σ Q (.ref s.heap.objs.size) {s with heap:=h'}:=fun its r' hz h' c' kp e=>
  ⟨.ref s.heap.objs.size,_,I.laid (t':=s.toks) kp (aY _) (show dO X.prog X.w _ h' _ (.lst ys) from⟨hz,its,c',r',e⟩),rfl,q _ (I.hok.fresh (aY _))⟩
 rcases hq with hq|hq
 ·obtain⟨its,r',pl,hz⟩:=I.list hq
  have hlen:=r'.length
  obtain⟨o,ho,hc,n,hd⟩:=pl.isList
  exact call_list_seq p (.inl rfl) ho hc hd (fun h' c' kp e=>fin its r' hz h' c' kp e) (by simp only[br]<;>omega)
 ·obtain⟨its,r',pl,hz⟩:=I.tuple hq
  have hlen:=r'.length
  obtain⟨o,ho,hc,n,hd⟩:=pl
  exact call_list_seq p (.inr rfl) ho hc hd (fun h' c' kp e=>fin its r' hz h' c' kp e) (by simp only[br]<;>omega)
theorem zb:jM X (.type "tuple") (fun xs H Q=>∃p ys,xs=[.ref p]/\((aE X.K H p ys/\∀l,H l=none->Q (.ref l) (upd H l (.tup ys)))\/(aW X.K H p ys/\Q (.ref p) H))):=by
 intro pins s σ H xs us Q I r h
 obtain⟨p,ys,rfl,h⟩:=h
 obtain⟨u,rfl,rx⟩:=vals1 r
 cases rx
 rcases h with⟨hq,q⟩|⟨hq,q⟩
 ·obtain⟨its,r',pl,hz⟩:=I.list hq
  have hlen:=r'.length
  refine call_tuple_list pl.isList (fun h' kp=>?_) (by simp only[br]<;>omega)
  have I1:aH X pins σ H {s with heap:=h'}:=I.kept (t':=s.toks) kp
  have I2:aH X pins σ (upd H h'.objs.size (.tup ys)) {s with heap:=h'.push {cls:=.type "tuple",data:=.seq its.toArray}}:=
   I1.laid (t':=s.toks) (fun b o e=>Heap.get?_push_of_some _ e) (aY _) (show dO X.prog X.w _ _ _ (.tup ys) from⟨hz,its,r',IsTup.new _ _⟩)
  exact⟨.ref h'.objs.size,_,I2,rfl,q _ (I1.hok.fresh (aY _))⟩
 ·obtain⟨its,r',pl,hz⟩:=I.tuple hq
  exact call_tuple_same pl ⟨.ref p,H,I,rfl,q⟩
def tu(K:aD)(T:String)(x:V)(H:Hp):Prop:=match x with
 |.str _=>T="str"
 |.int _=>T="int"
 |.ref p=>(T="list"/\∃xs,aE K H p xs)\/(T="tuple"/\∃o,K.lookup p=some o/\o.cls=.type "tuple"/\o.dict=none)\/
   (T="dict"/\((∃kvs,H p=some (.dK kvs))\/∃kvs,H p=some (.dT kvs)))\/(T="set"/\∃S n,H p=some (.set S n))
 |_=>False
theorem zc{pins:List (Addr×Obj)}{σ:St}{H:Hp}{s:Shared}{T:String}{x:V}{v:Value}(I:aH X pins σ H s)(r:RelV x v)(ty:tu X.K T x H):
  s.TypeIs v T/\∀a,v=.ref a->∃ob,s.heap.get? a=some ob/\ob.dict=none:=by
 cases x with
 |str z=>
  obtain⟨t,rfl⟩:=r
  cases(show T="str" from ty)
  exact⟨typeIs_str s z t,fun _ e=>nomatch e⟩
 |int i=>
  obtain⟨t,rfl⟩:=r
  cases(show T="int" from ty)
  exact⟨typeIs_int s i t,fun _ e=>nomatch e⟩
 |ref p=>
  cases r
  rcases ty with⟨rfl,xs,hq⟩|⟨rfl,o,hk,hc,hd⟩|⟨rfl,hk⟩|⟨rfl,S,n,hk⟩
  ·obtain⟨its,_,pl,_⟩:=I.list hq
   refine⟨pl.isList.typeIs,fun a e=>?_⟩
   cases e
   obtain⟨o,n,e,c,hd,_⟩:=pl
   exact⟨o,e,hd⟩
  ·refine⟨⟨o,I.kIn p o hk,hc⟩,fun a e=>?_⟩
   cases e
   exact⟨o,I.kIn _ o hk,hd⟩
  ·have z:∃o,s.heap.get? p=some o/\o.ExactDict:=by
    rcases hk with⟨kvs,hk⟩|⟨kvs,hk⟩
    ·obtain⟨_,_,_,_,o,_,_,e,ex,_⟩:=I.hok p _ hk
     exact⟨o,e,ex⟩
    ·obtain⟨_,_,_,_,o,_,_,e,ex,_⟩:=I.hok p _ hk
     exact⟨o,e,ex⟩
   obtain⟨o,e,ex⟩:=z
   refine⟨⟨o,e,ex.1⟩,fun a e2=>?_⟩
   cases e2
   exact⟨o,e,ex.2.1⟩
  ·obtain⟨o,_,_,_,e,ex,_⟩:=I.hok p _ hk
   refine⟨⟨o,e,ex.1⟩,fun a e2=>?_⟩
   cases e2
   exact⟨o,e,ex.2.1⟩
 |_=>exact fH ty
def Gb(K:aD)(T:String)(r:V->List V->Hp->VK->Prop)(to:TE):TE:=fun σ H Q=>to σ H fun x H1=>tu K T x H1/\r x [] H1 Q
def jg(K:aD)(T:String)(r:V->List V->Hp->VK->Prop)(to:TE)(t:TA):TE:=fun σ H Q=>to σ H fun x H1=>tu K T x H1/\t σ H1 fun xs H2=>r x xs H2 Q
variable{o e:Expr}{es:List Expr}{to:TE}{t:TA}{name:Str}{apos cpos:Pos}{T id:String}{r:V->List V->Hp->VK->Prop}
theorem gE(pa:PlainAttrs T)(slot:Slot T name id)(hty:typeOf (.builtin id)=pure (.type "method_descriptor"))(hm:tj X id r)(ho:PE X o to)
  (hbase:attributeBase o name X.env (eval o X.env)=eval o X.env:=by rfl)(hline:(apos.endLine==cpos.line)=true:=by rfl):PE X (.Call (.Attribute o name apos) [] [] cpos) (Gb X.K T r to):=by
 intro pins s σ H Q I h
 refine wpAny_Call_method0_late hbase hline (af (ho pins s σ H _ I h) fun v s1 ⟨x,H1,I1,r1,ty,q1⟩=>?_)
 obtain⟨h1,h2⟩:=zc I1 r1 ty
 exact⟨T,id,pa,slot,hty,h1,h2,Calls.callWith_builtin rfl (PySem.evalArgs_none (hm pins s1 σ H1 x [] v [] Q I1 r1 .nil q1))⟩
theorem cG(pa:PlainAttrs T)(slot:Slot T name id)(hty:typeOf (.builtin id)=pure (.type "method_descriptor"))(hm:tj X id r)(ho:PE X o to)(ha:PA X (e::es) t)
  (hbase:attributeBase o name X.env (eval o X.env)=eval o X.env:=by rfl)
  (hfew:((backTo cpos (starEach (e::es) X.env)).all (fun x=> !x.1)&&(backToKw cpos (keywordEach [] X.env)).all (fun x=>x.1.isSome)
   &&decide ((e::es).length+([]:List Keyword).length+(if([]:List Keyword).isEmpty then 0 else 1)<30))=true:=by rfl)
  (hline:(apos.endLine==cpos.line)=true:=by rfl)(hs:starEach (e::es) X.env=(false,eval e X.env)::starEach es X.env:=by rfl)(hplain:(backTo cpos (starEach es X.env)).any (·.1)=false:=by rfl):
  PE X (.Call (.Attribute o name apos) (e::es) [] cpos) (jg X.K T r to t):=by
 intro pins s σ H Q I h
 refine wpAny_Call_method_late hbase hfew hline rfl (af (ho pins s σ H _ I h) fun v s1 ⟨x,H1,I1,r1,ty,q1⟩=>?_)
 obtain⟨h1,h2⟩:=zc I1 r1 ty
 refine⟨T,id,pa,slot,hty,h1,h2,?_⟩
 have hA:=ha cpos pins s1 σ H1 _ I1 q1
 rw[hs] at hA⊢
 refine Calls.callWith_builtin (by show(false||(backTo cpos (starEach es X.env)).any (·.1))=false;rw[hplain]<;>rfl) (Calls.evalArgs_plain ?_)
 exact af hA fun us s2 ⟨vs,H2,I2,r2,q2⟩=>hm pins s2 σ H2 x vs v us Q I2 r1 r2 q2
end
def mx(X:Cx)(id:String)(r:V->List V->Hp->VK->Prop):Prop:=
 ∀(pins:List (Addr×Obj)) (s:Shared) (σ:St) (H:Hp) (x:V) (xs:List V) (v:Value) (us:List Value) (Q:VK),aH X pins σ H s->RelV x v->ab xs us->r x xs H Q->
  wpAny (model X.prog X.w) X.A (call (.builtin id) (v::us)) (EP X pins σ Q) X.xe s
theorem ab.one:∀{x:V} {us:List Value},ab [x] us->∃u,us=[u]/\RelV x u
 |_,_,.cons r .nil=>⟨_,rfl,r⟩
theorem ab.zero:∀{us:List Value},ab [] us->us=[]
 |_,.nil=>rfl
theorem ab.dropLast{xs:List V}{us:List Value}(h:ab xs us):ab xs.dropLast us.dropLast:=by
 induction h with
 |nil=>exact .nil
 |cons r t ih=>
  cases t with
  |nil=>exact .nil
  |cons q t'=>exact .cons r ih
theorem ab.reverse{xs:List V}{us:List Value}(h:ab xs us):ab xs.reverse us.reverse:=by
 induction h with
 |nil=>exact .nil
 |cons r t ih=>rw[eU,eU];exact ab.append ih (.cons r .nil)
theorem Gc{α:Type}(l:List α):l.eraseIdx (l.length-1)=l.dropLast:=by
 induction l with
 |nil=>rfl
 |cons a r ih=>
  cases r with
  |nil=>rfl
  |cons b r=>
   have e:(a::b::r).length-1=((b::r).length-1)+1:=by
    have h1:(a::b::r).length=r.length+2:=rfl
    have h2:(b::r).length=r.length+1:=rfl
    omega
   rw[e,List.eraseIdx_cons_succ,ih]
   all_goals rfl
section
variable{X:Cx}{pins:List (Addr×Obj)}{σ:St}{H:Hp}{s:Shared}{l b:Addr}{xs ys zs:List V}
theorem aH.lset{its its':List Value}{n:Nat}{f:Array Value->Array Value}{t':Nat}(I:aH X pins σ H s)(hH:H l=some (.lst xs))
  (e:s.heap.get? l=some {cls:=.type "list",data:=.seq its.toArray n})(hf:f its.toArray=its'.toArray)(hv:ab ys its')(hz:ys.length<=sizeLine):
  aH X pins σ (upd H l (.lst ys)) {s with heap:=s.heap.update l (Obj.mapSeq f),toks:=t'}:=by
 have q:=PySem.IsL.update e f
 rw[hf] at q
 refine I.write (x:=l) (e:=l) (by rw[hH];exact trivial) (.inl rfl) (fun b' u hb hu=>(Heap.get?_update_other s.heap (Obj.mapSeq f) (Ne.symm hb)).trans hu) ⟨_,q⟩ ?_
 exact⟨hz,its',_,hv,q⟩
theorem aH.lnew{its:List Value}{t':Nat}(I:aH X pins σ H s)(hv:ab ys its)(hz:ys.length<=sizeLine):
  aH X pins σ (upd H s.heap.objs.size (.lst ys)) {s with heap:=s.heap.push {cls:=.type "list",data:=.seq its.toArray},toks:=t'}:=
 I.laid (fun _ _ q=>Heap.get?_push_of_some _ q) (aY _) ⟨hz,its,0,hv,Heap.get?_push_size _ rfl⟩
theorem aH.fresh(I:aH X pins σ H s):H s.heap.objs.size=none:=I.hok.fresh (aY _)
theorem aH.lstM(I:aH X pins σ H s)(hH:H l=some (.lst xs)):xs.length<=sizeLine/\∃(its:List Value) (n:Nat),ab xs its/\xs.length=its.length/\s.heap.get? l=some {cls:=.type "list",data:=.seq its.toArray n}:=by
 obtain⟨z,its,n,r,e⟩:=I.hok l _ hH
 exact⟨z,its,n,r,r.length,e⟩
theorem zd{n:Nat}(h:n<=sizeLine):Builtin.List.listTooLong n=false:=by
 unfold Builtin.List.listTooLong
 exact decide_eq_false (by omega)
end
section
variable{X:Cx}
def jh:V->List V->Hp->VK->Prop:=fun x vs H Q=>∃l xs y,x=.ref l/\vs=[y]/\H l=some (.lst xs)/\xs.length<sizeLine/\Q .non (upd H l (.lst (xs++[y])))
theorem c7:mx X "list.append" jh:=by
 intro pins s σ H x vs v us Q I rx rv h
 obtain⟨l,xs,y,rfl,rfl,hH,hz,q⟩:=h
 cases rx
 obtain⟨u,rfl,ru⟩:=rv.one
 obtain⟨z,its,n,r,hl,e⟩:=I.lstM hH
 refine call_meets F.slot_list_append ⟨_,e,rfl⟩ F.entry_list_append (F.args_list_append_2 _ _) (PySem.list_append l its.toArray n u (by rw[br];omega)) ⟨e,?_⟩
 refine⟨.non,_,I.lset (its':=its++[u]) hH e (by simp) (r.append (.cons ru .nil)) ?_,rfl,q⟩
 rw[aS,rZ]
 omega
def zg:V->List V->Hp->VK->Prop:=fun x vs H Q=>∃l b xs zs,x=.ref l/\vs=[.ref b]/\H l=some (.lst xs)/\H b=some (.lst zs)/\xs.length+zs.length<=sizeLine/\Q .non (upd H l (.lst (xs++zs)))
theorem uA:mx X "list.extend" zg:=by
 intro pins s σ H x vs v us Q I rx rv h
 obtain⟨l,b,xs,zs,rfl,rfl,hH,hB,hz,q⟩:=h
 cases rx
 obtain⟨u,rfl,ru⟩:=rv.one
 cases ru
 obtain⟨z,its,n,r,hl,e⟩:=I.lstM hH
 obtain⟨z2,its2,n2,r2,hl2,e2⟩:=I.lstM hB
 have hsz:its.toArray.size+its2.toArray.size<=sizeLine:=by rw[br,br];omega
 have hlong:¬(!its.toArray.isEmpty&&Builtin.List.listTooLong (its.toArray.size+its2.toArray.size))=true:=by
  rw[zd hsz,xb]
  exact dQ
 refine call_meets F.slot_list_extend ⟨_,e,rfl⟩ F.entry_list_extend (F.args_list_extend_2 _ _)
  (AutoSeq1.list_extend_list_list_0 l its.toArray n b its2.toArray n2 hlong (by rw[br];omega) (by omega)) ⟨e,e2,?_⟩
 refine⟨.non,_,I.lset (its':=its++its2) hH e (by simp) (r.append r2) ?_,rfl,q⟩
 rw[aS]
 omega
def zh:V->List V->Hp->VK->Prop:=fun x vs H Q=>∃l xs y,x=.ref l/\vs=[]/\H l=some (.lst xs)/\xs[xs.length-1]? =some y/\Q y (upd H l (.lst xs.dropLast))
theorem g6:mx X "list.pop" zh:=by
 intro pins s σ H x vs v us Q I rx rv h
 obtain⟨l,xs,y,rfl,rfl,hH,hy,q⟩:=h
 cases rx
 have hus:=rv.zero
 subst hus
 obtain⟨z,its,n,r,hl,e⟩:=I.lstM hH
 obtain⟨u,hu,ru⟩:=r.get hy
 have hy':its.toArray[its.toArray.size-1]? =some u:=by
  show its.toArray[its.length-1]? =some u
  rw[<-Ds,<-hl]
  exact hu
 refine call_meets F.slot_list_pop ⟨_,e,rfl⟩ F.entry_list_pop (F.args_list_pop_1 _) (MeetsSeq.list_pop_last l its.toArray n u hy' (by rw[br];omega)) ⟨e,?_⟩
 refine⟨y,_,I.lset (its':=its.dropLast) hH e ?_ r.dropLast ?_,ru,q⟩
 ·show its.toArray.eraseIdxIfInBounds (its.toArray.size-1)=its.dropLast.toArray
  rw[br,List.eraseIdxIfInBounds_toArray,Gc]
 ·rw[List.length_dropLast]
  omega
def Ge:V->List V->Hp->VK->Prop:=fun x vs H Q=>∃l xs,x=.ref l/\vs=[]/\H l=some (.lst xs)/\Q .non (upd H l (.lst xs.reverse))
theorem Gf:mx X "list.reverse" Ge:=by
 intro pins s σ H x vs v us Q I rx rv h
 obtain⟨l,xs,rfl,rfl,hH,q⟩:=h
 cases rx
 have hus:=rv.zero
 subst hus
 obtain⟨z,its,n,r,hl,e⟩:=I.lstM hH
 refine call_meets F.slot_list_reverse ⟨_,e,rfl⟩ F.entry_list_reverse (F.args_list_reverse_1 _) (AutoSeq1.list_reverse_list_0 l its.toArray n (by rw[br];omega)) ⟨e,?_⟩
 refine⟨.non,_,I.lset (its':=its.reverse) hH e (by simp) r.reverse ?_,rfl,q⟩
 rw[fm]
 omega
def Gg:R2:=fun x y H Q=>∃l b xs zs,x=.ref l/\y=.ref b/\H l=some (.lst xs)/\H b=some (.lst zs)/\xs.length+zs.length<=sizeLine/\∀p,H p=none->Q (.ref p) (upd H p (.lst (xs++zs)))
theorem c8:cV X (binaryOp .Add) Gg:=by
 intro pins s σ H x y v u Q I rx ry h
 obtain⟨l,b,xs,zs,rfl,rfl,hH,hB,hz,q⟩:=h
 cases rx
 cases ry
 obtain⟨z,its,n,r,hl,e⟩:=I.lstM hH
 obtain⟨z2,its2,n2,r2,hl2,e2⟩:=I.lstM hB
 refine PySem.P.add_list e e2 ?_ (by rw[br,br];omega)
 have ea:its.toArray++its2.toArray=(its++its2).toArray:=by simp
 rw[ea]
 exact⟨.ref _,_,I.lnew (t':=s.toks) (r.append r2) (by rw[aS];omega),rfl,q _ I.fresh⟩
end
section
variable{prog:Program}{w:World}{A:Around}{E:Value->Shared->Prop}{s:Shared}
set_option maxRecDepth 100000 in
end
theorem ab.bls:∀{bs:List Bool} {us:List Value},ab (bs.map V.bl) us->us=bs.map Value.bool
 |[],us,h=>by
  rw[Du] at h
  cases h
  rfl
 |b::bs,us,h=>by
  rw[bg] at h
  cases h with
  |cons r t=>
   cases r
   rw[ab.bls t,bg]
theorem ab.ref1{a:Addr}{us:List Value}(r:ab [V.ref a] us):us=[Value.ref a]:=by
 cases r with
 |cons r t=>
  cases t
  cases r
  rfl
theorem Gh{prog:Program}{w:World}{A:Around}{E:Value->Shared->Prop}{s:Shared}{l:Addr}{items:Array Value}{Q:Value->Shared->Prop}(hl:s.heap.IsList l items)
  (h:∀s₂:Shared,s₂={s with heap:=s.heap.push {cls:=.type "list_iterator",data:=.fields #[.ref l,.int 0 0]}}->
   (s₂.heap.IsListIter s.heap.objs.size l 0/\s₂.heap.IsList l items)->l≠s.heap.objs.size->Q (.ref s.heap.objs.size) s₂):wpAny (model prog w) A (pyIter (.ref l)) Q E s:=by
 have hlt:l<s.heap.objs.size:=by obtain⟨_,e,_⟩:=hl;exact Heap.lt_size e
 exact wpAny_pyIter_list hl (h _ rfl ⟨⟨_,Heap.get?_push_size _ rfl,rfl,rfl⟩,hl.push _⟩ (fG hlt))
theorem Gi{prog:Program}{w:World}{A:Around}{bs:List Bool}{its:List Value}(e:its=bs.map Value.bool):
  TruthOf prog w A (fun i v=>its.toArray[i]? =some v) (fun i=>bs.getD i false):=fun i v s Q E hv hq=>by
 have hv':its[i]? =some v:=by simpa using hv
 rw[e,bo] at hv'
 obtain⟨b,hb,rfl⟩:=Dv.mp hv'
 have hg:bs.getD i false=b:=by rw[d9,hb]<;>rfl
 have hq':Q (bs.getD i false) s:=hq
 rw[hg] at hq'
 exact wpAny_truthy_bool hq'
theorem all_range:∀bs:List Bool,(bJ bs.length).all (fun i=>bs.getD i false)=bs.all id
 |[]=>rfl
 |b::bs=>by
  rw[aV,MJ,bx,oS,bx,<-all_range bs]
  all_goals rfl
section
variable{X:Cx}
def Gj(K:aD):List V->Hp->VK->Prop:=fun vs H Q=>∃(a:Addr) (bs:List Bool),vs=[V.ref a]/\aE K H a (bs.map V.bl)/\Q (.bl (bs.all id)) H
theorem pW(hc:X.calm=true):jM X (.builtin "all") (Gj X.K):=by
 intro pins s σ H vs us Q I r h
 obtain⟨a,bs,rfl,hs,q⟩:=h
 obtain⟨its,rv,hl,_⟩:=I.list hs
 rw[ab.ref1 r]
 have hb:=rv.bls
 refine call_all_walk (Gh hl.isList fun s₂ e2 st hne=>?_)
 subst e2
 refine⟨_,_,_,_,_,_,_,rfl,Walks.list (A:=X.A.in1) (I.ok.hd hc) _ a hne its.toArray,st,Gi hb,fun h' tk hk=>?_⟩
 refine⟨.bl _,H,I.kept fun b o eo=>hk b o (fun hmem=>?_) (Heap.get?_push_of_some _ eo),?_,q⟩
 ·rcases bc.mp hmem with e1|hmem
  ·exact absurd (e1▸Heap.lt_size eo) (jV _)
  ·cases hmem
 ·show Value.bool _=Value.bool _
  rw[<-all_range,hb,br,aL]
end
mutual
inductive Dp (K:aD) (H:Hp):V->PyData->Prop
 |non:Dp K H .non .none
 |bl (b:Bool):Dp K H (.bl b) (.bool b)
 |int (i:Int):Dp K H (.int i) (.int i)
 |str (x:Str):Dp K H (.str x) (.str x)
 |lst {a:Addr} {xs:List V} {ds:List PyData}:aE K H a xs->fR K H xs ds->Dp K H (.ref a) (.list ds)
 |tup {a:Addr} {xs:List V} {ds:List PyData}:aW K H a xs->fR K H xs ds->Dp K H (.ref a) (.tuple ds)
inductive fR (K:aD) (H:Hp):List V->List PyData->Prop
 |nil:fR K H [] []
 |cons {v:V} {vs:List V} {d:PyData} {ds:List PyData}:Dp K H v d->fR K H vs ds->fR K H (v::vs) (d::ds)
end
section
variable{X:Cx}{pins:List (Addr×Obj)}{σ:St}{H:Hp}{s:Shared}
mutual
theorem Dp.reads(I:aH X pins σ H s):∀(d:PyData) (v:V) (u:Value),Dp X.K H v d->RelV v u->∃as,Reads s.heap u d as
 |.none,_,_,h,r=>by
  cases h
  cases r
  exact⟨_,Reads.none⟩
 |.bool b,_,_,h,r=>by
  cases h
  cases r
  exact⟨_,Reads.bool b⟩
 |.int i,_,_,h,r=>by
  cases h
  obtain⟨t,rfl⟩:=r
  exact⟨_,Reads.int i t⟩
 |.str x,_,_,h,r=>by
  cases h
  obtain⟨t,rfl⟩:=r
  exact⟨_,Reads.str x t⟩
 |.list ds,_,_,h,r=>by
  cases h with
  |lst hs ha=>
   cases r
   obtain⟨its,rv,⟨o,n,ho,hc,_,hd⟩,_⟩:=I.list hs
   obtain⟨as,hr⟩:=Dp.readsAll I ds _ its ha rv
   exact⟨_,Reads.list ho hc hd hr⟩
 |.tuple ds,_,_,h,r=>by
  cases h with
  |tup hs ha=>
   cases r
   obtain⟨its,rv,⟨o,ho,hc,n,hd⟩,_⟩:=I.tuple hs
   obtain⟨as,hr⟩:=Dp.readsAll I ds _ its ha rv
   exact⟨_,Reads.tuple ho hc hd hr⟩
 |.dict _,_,_,h,_=>by cases h
theorem Dp.readsAll(I:aH X pins σ H s):∀(ds:List PyData) (vs:List V) (us:List Value),fR X.K H vs ds->ab vs us->∃as,ReadsAll s.heap us ds as
 |[],_,_,h,r=>by
  cases h
  cases r
  exact⟨_,ReadsAll.nil⟩
 |d::ds,_,_,h,r=>by
  cases h with
  |cons h1 h2=>
   cases r with
   |cons r1 r2=>
    obtain⟨as,q1⟩:=Dp.reads I d _ _ h1 r1
    obtain⟨bs,q2⟩:=Dp.readsAll I ds _ _ h2 r2
    exact⟨_,ReadsAll.cons q1 q2⟩
end
end
section
variable{X:Cx}
def uB(K:aD):R2:=fun x y H Q=>∃d e,Dp K H x d/\Dp K H y e/\SeqAt.shaped d=true/\SeqAt.shaped e=true/\Q (.bl (PyData.eqv d e)) H
def uC(K:aD):R2:=fun x y H Q=>∃d e,Dp K H x d/\Dp K H y e/\SeqAt.shaped d=true/\SeqAt.shaped e=true/\Q (.bl (!PyData.eqv d e)) H
theorem fM(hu:X.A.units+64<cLine):cV X (compareOp .Eq) (uB X.K):=by
 intro pins s σ H x y v u Q I rx ry h
 obtain⟨d,e,hd,he,sd,se,q⟩:=h
 obtain⟨as,r1⟩:=Dp.reads I d x v hd rx
 obtain⟨bs,r2⟩:=Dp.reads I e y u he ry
 exact SeqAt.compareEq_shaped r1 r2 sd se hu ⟨.bl _,H,I,rfl,q⟩
theorem ji(hu:X.A.units+64<cLine):cV X (compareOp .NotEq) (uC X.K):=by
 intro pins s σ H x y v u Q I rx ry h
 obtain⟨d,e,hd,he,sd,se,q⟩:=h
 obtain⟨as,r1⟩:=Dp.reads I d x v hd rx
 obtain⟨bs,r2⟩:=Dp.reads I e y u he ry
 exact SeqAt.compareNe_shaped r1 r2 sd se hu ⟨.bl _,H,I,rfl,q⟩
end
abbrev zk(h:Heap)(c:Addr)(v:Option Value):Prop:=h.IsCell c v
def Gk(scope sc:Scope):Scope:=
 {scope with names:=scope.names.map fun(n,k)=>if(k==.free&&sc.kind==.function&&sc.names.lookup n==some .cell) then(n,.cell) else(n,k)}
def dZ(cells:List (Str×Addr)):List (Str×NameKind)->List (Str×Addr)->List (Str×Addr)
 |[],acc=>acc
 |(n,k)::r,acc=>if k==.free then dZ cells r ((n,(cells.lookup n).getD 0)::acc) else dZ cells r acc
theorem zm(env:Env)(f:Str×NameKind->List (Str×Addr)->Sem (ForInStep (List (Str×Addr))))
  (hf:∀n k c,f (n,k) c=if k==.free then(do let a<-cellOf env n;pure (.yield ((n,a)::c))) else pure (.yield c)):
  ∀(names:List (Str×NameKind)) (acc:List (Str×Addr)),(∀y∈names,y.2=.free->∃c,env.cells.lookup y.1=some c)->forIn names acc f=pure (dZ env.cells names acc)
 |[],acc,_=>by rw[List.forIn_nil];rfl
 |(n,k)::r,acc,h=>by
  rw[List.forIn_cons,hf]
  have ih:=fun acc=>zm env f hf r acc fun y hy=>h y (ba _ hy)
  unfold dZ
  by_cases hk:(k==NameKind.free)=true
  ·rw[if_pos hk,if_pos hk]
   obtain⟨c,hc⟩:=h (n,k) bY (by simpa using hk)
   have e:cellOf env n=pure c:=by unfold cellOf;rw[hc]
   rw[e]
   have e2:(env.cells.lookup n).getD 0=c:=by rw[hc];rfl
   rw[e2]
   exact ih _
  ·rw[if_neg hk,if_neg hk]
   exact ih _
theorem Gm{scope:Scope}{env:Env}(h:∀y∈scope.names,y.2=.free->∃c,env.cells.lookup y.1=some c):closureFor scope env=pure (dZ env.cells scope.names []):=by
 simp only[closureFor]
 rw[zm env _ (fun n k c=>rfl) scope.names [] h]
 rfl
theorem mem_lookup{α:Type}:∀{l:List (Str×α)} {n:Str} {c:α},(n,c)∈l->∃c',l.lookup n=some c'
 |(k,v)::r,n,c,h=>by
  rw[dt]
  cases hb:n==k with
  |true=>exact⟨_,rfl⟩
  |false=>
   rcases bc.mp h with e|h
   ·cases e;simp at hb
   ·exact mem_lookup h
theorem pX{cells:List (Str×Addr)}:∀{names:List (Str×NameKind)} {acc:List (Str×Addr)} {n:Str} {c:Addr},(n,c)∈dZ cells names acc->(n,c)∈acc\/((n,.free)∈names/\c=(cells.lookup n).getD 0)
 |[],_,_,_,h=>.inl h
 |(m,k)::r,acc,n,c,h=>by
  unfold dZ at h
  split at h
  ·rename_i hk
   have hk:k=.free:=by simpa using hk
   rcases pX h with h|⟨h1,h2⟩
   ·rcases bc.mp h with e|h
    ·cases e;exact .inr ⟨hk▸bY,rfl⟩
    ·exact .inl h
   ·exact .inr ⟨ba _ h1,h2⟩
  ·rcases pX h with h|⟨h1,h2⟩
   ·exact .inl h
   ·exact .inr ⟨ba _ h1,h2⟩
theorem uD{cells:List (Str×Addr)}:∀{names:List (Str×NameKind)} {acc:List (Str×Addr)} {p:Str×Addr},p∈acc->p∈dZ cells names acc
 |[],_,_,h=>h
 |(m,k)::r,acc,p,h=>by
  unfold dZ
  split
  ·exact uD (ba _ h)
  ·exact uD h
theorem uE{cells:List (Str×Addr)}:∀{names:List (Str×NameKind)} {acc:List (Str×Addr)} {n:Str},(n,.free)∈names->(n,(cells.lookup n).getD 0)∈dZ cells names acc
 |(m,k)::r,acc,n,h=>by
  unfold dZ
  rcases bc.mp h with e|h
  ·cases e
   exact uD bY
  ·split
   ·exact uE h
   ·exact uE h
theorem my:∀{names:List (Str×NameKind)} {h:Heap} {acc:List (Str×Addr)} {x:Str} {c:Addr},(x,c)∈cellsFrom h.objs.size names acc->
  (x,c)∈acc\/((x,.cell)∈names/\h.objs.size<=c/\zk (pushCells h names) c none)
 |[],_,_,_,_,h=>.inl h
 |(n,k)::r,h,acc,x,c,hm=>by
  unfold cellsFrom at hm
  unfold pushCells
  split at hm
  ·rename_i hk
   rw[if_pos hk]
   have hk:k=.cell:=by simpa using hk
   rw[<-Heap.size_push h {cls:=.type "cell",data:=.cell none}] at hm
   rcases my hm with hm|⟨h1,h2,h3⟩
   ·rcases bc.mp hm with e|hm
    ·cases e
     exact .inr ⟨hk▸bY,aY _,_,pushCells_keeps r _ _ _ (Heap.get?_push_size _ rfl),rfl⟩
    ·exact .inl hm
   ·rw[Heap.size_push] at h2
    exact .inr ⟨ba _ h1,xc h2,h3⟩
  ·rename_i hk
   rw[if_neg hk]
   rcases my hm with hm|⟨h1,h2,h3⟩
   ·exact .inl hm
   ·exact .inr ⟨ba _ h1,h2,h3⟩
theorem pY:∀{names:List (Str×NameKind)} {n:Nat} {acc:List (Str×Addr)} {p:Str×Addr},p∈acc->p∈cellsFrom n names acc
 |[],_,_,_,h=>h
 |(m,k)::r,n,acc,p,h=>by
  unfold cellsFrom
  split
  ·exact pY (ba _ h)
  ·exact pY h
theorem uF:∀{names:List (Str×NameKind)} {n:Nat} {acc:List (Str×Addr)} {x:Str},(x,.cell)∈names->∃c,(x,c)∈cellsFrom n names acc
 |(m,k)::r,n,acc,x,h=>by
  unfold cellsFrom
  rcases bc.mp h with e|h
  ·cases e
   exact⟨n,pY bY⟩
  ·split
   ·exact uF h
   ·exact uF h
theorem uG:∀{names:List (Str×NameKind)} {h:Heap} {acc:List (Str×Addr)} {x y:Str} {c:Addr},(∀p∈acc,p.2<h.objs.size)->(∀x y c,(x,c)∈acc->(y,c)∈acc->x=y)->
  (x,c)∈cellsFrom h.objs.size names acc->(y,c)∈cellsFrom h.objs.size names acc->x=y
 |[],_,_,_,_,_,_,hi,h1,h2=>hi _ _ _ h1 h2
 |(n,k)::r,h,acc,x,y,c,hl,hi,h1,h2=>by
  unfold cellsFrom at h1 h2
  split at h1
  ·rename_i hk
   rw[if_pos hk] at h2
   rw[<-Heap.size_push h {cls:=.type "cell",data:=.cell none}] at h1 h2
   refine uG (h:=h.push _) (fun p hp=>?_) (fun x y c a b=>?_) h1 h2
   ·rw[Heap.size_push]
    rcases bc.mp hp with rfl|hp
    ·exact xZ _
    ·exact Dx (hl p hp)
   ·rcases bc.mp a with e|a<;>rcases bc.mp b with e'|b
    ·cases e;cases e';rfl
    ·cases e;exact absurd (hl _ b) (jV _)
    ·cases e';exact absurd (hl _ a) (jV _)
    ·exact hi _ _ _ a b
  ·rename_i hk
   rw[if_neg hk] at h2
   exact uG hl hi h1 h2
theorem Gn{M:Model}{A:Around}{E:Value->Shared->Prop}{s:Shared}{scope:Scope}{globals:Addr}{closure:List (Str×Addr)}{qual:Str}{func:Option Addr}{code:Value}{around:Env}{builtins:Addr}{Q:Env->Shared->Prop}
  (h:Q (newEnv scope s.heap.objs.size globals (cellsFrom (s.heap.objs.size+1) scope.names closure) qual func code (some around) builtins)
   {s with heap:=pushCells (s.heap.push {cls:=.type "dict",data:=.dict #[]}) scope.names}):
  wpAny M A (newFunctionEnv scope globals closure [] qual func code (some around) builtins) Q E s:=by
 simp only[newFunctionEnv,Option.isSome_some,if_true]
 refine wpAny_bind (wpAny_alloc ?_)
 refine wpAny_bind (wpAny_layCells _ (fun n k c=>rfl) scope.names closure _ _ ?_)
 rw[show({s with heap:=s.heap.push {cls:=.type "dict",data:=.dict #[]}}:Shared).heap.objs.size=s.heap.objs.size+1 from Heap.size_push ..]
 rw[List.forIn_nil]
 exact wpAny_bind (wpAny_pure (wpAny_pure h))
theorem uH{sc:Scope}:∀{names:List (Str×NameKind)} {x:Str} {k:NameKind},
  (names.map fun(n,k)=>if(k==NameKind.free&&sc.kind==.function&&sc.names.lookup n==some .cell) then(n,NameKind.cell) else(n,k)).lookup x=some k->
  ∃k',names.lookup x=some k'/\(k=k'\/(k'=.free/\k=.cell))
 |[],_,_,h=>by simp at h
 |(n,k₀)::r,x,k,h=>by
  have ih:=@uH sc r x k
  have h':ko x ((if(k₀==NameKind.free&&sc.kind==.function&&sc.names.lookup n==some .cell)=true then(n,NameKind.cell) else(n,k₀))::(r.map _))=some k:=h
  cases hx:x==n with
  |true=>
   simp only[dt,hx]
   by_cases hc:(k₀==NameKind.free&&sc.kind==.function&&sc.names.lookup n==some .cell)=true
   ·rw[if_pos hc] at h'
    simp only[dt,hx] at h'
    cases h'
    simp only[ag,beq_iff_eq] at hc
    exact⟨k₀,rfl,.inr ⟨hc.1.1,rfl⟩⟩
   ·rw[if_neg hc] at h'
    simp only[dt,hx] at h'
    cases h'
    exact⟨_,rfl,.inl rfl⟩
  |false=>
   simp only[dt,hx]
   by_cases hc:(k₀==NameKind.free&&sc.kind==.function&&sc.names.lookup n==some .cell)=true
   ·rw[if_pos hc] at h'
    simp only[dt,hx] at h'
    exact ih h'
   ·rw[if_neg hc] at h'
    simp only[dt,hx] at h'
    exact ih h'
structure mz (N:List Str) (sc scope:Scope) (own:List (Str×Nat)):Prop where
 kind:scope.kind=.function
 uniq:∀y∈scope.names,scope.names.lookup y.1=some y.2
 ix:∀p∈own,N[p.2]? =some p.1
 free:∀y∈scope.names,y.2=.free->sc.names.lookup y.1=some .cell\/sc.names.lookup y.1=some .free
 own:∀y∈scope.names,y.2=.local\/y.2=.cell->y.1∈own.map (·.1)\/y.1∉N
def wipe(σ:St):List Nat->St
 |[]=>σ
 |v::vs=>(wipe σ vs).set v none
theorem uI(σ:St):∀vs:List Nat,(wipe σ vs).length=σ.length
 |[]=>rfl
 |v::vs=>by unfold wipe;rw[cP,uI σ vs]
theorem uJ{σ:St}{i:Nat}{x:V}:∀{vs:List Nat},(wipe σ vs)[i]? =some (some x)->σ[i]? =some (some x)/\i∉vs
 |[],h=>⟨h,by simp⟩
 |v::vs,h=>by
  unfold wipe at h
  by_cases hi:v=i
  ·subst hi
   by_cases hv:v<(wipe σ vs).length
   ·rw[rW hv] at h;cases h
   ·rw[iW (by simpa using hv)] at h;cases h
  ·rw[lz hi] at h
   obtain⟨h1,h2⟩:=uJ h
   exact⟨h1,by simp only[bc,not_or];exact⟨fun e=>hi e.symm,h2⟩⟩
abbrev Cx.blk(X:Cx)(s:Shared)(H:Hp)(scope:Scope)(cenv:Env)(fp:List Addr):Cx:={X with s_0:=s,H_0:=H,env:=cenv,outer:=X.stack,ex:=fp,fn:=fun x=>scope.names.lookup x==some .cell,pn:=[],xe:=fun _ _=>False}
section
variable{X:Cx}{pins:List (Addr×Obj)}{σ:St}{H:Hp}{s:Shared}
theorem Gp{scope:Scope}{own:List (Str×Nat)}{fp:List Addr}(I:aH X pins σ H s)(ok:mz X.N X.env.scope scope own)(hN:X.N.Nodup)(hfp:∀b∈fp,gX X pins H b/\b<s.heap.objs.size):
  aH (X.blk s H scope (compEnvC scope (cellsFrom (s.heap.objs.size+1) scope.names (dZ X.env.cells scope.names [])) s.heap.objs.size X.env) fp) [] (wipe σ (own.map (·.2))) H {s with heap:=pushCells (s.heap.push {cls:=.type "dict",data:=.dict #[]}) scope.names}:=by
 have hfree:∀y∈scope.names,y.2=.free->∃c,X.env.cells.lookup y.1=some c:=fun y hy e=>by
  rcases ok.free y hy e with k|k
  ·exact I.ok.has _ (.inl k)
  ·exact I.ok.has _ (.inr k)
 generalize hcenv:compEnvC scope (cellsFrom (s.heap.objs.size+1) scope.names (dZ X.env.cells scope.names [])) s.heap.objs.size X.env=cenv
 have kp:∀b o,s.heap.get? b=some o->(pushCells (s.heap.push {cls:=.type "dict",data:=.dict #[]}) scope.names).get? b=some o:=fun b o e=>pushCells_keeps _ _ _ _ (Heap.get?_push_of_some _ e)
 have hL:cenv.locals=s.heap.objs.size:=by rw[<-hcenv];rfl
 have hcl:cenv.cells=cellsFrom (s.heap.objs.size+1) scope.names (dZ X.env.cells scope.names []):=by rw[<-hcenv];rfl
 have hsc:cenv.scope=Gk scope X.env.scope:=by rw[<-hcenv];rfl
 rw[<-Heap.size_push s.heap {cls:=.type "dict",data:=.dict #[]}] at hcl
 have cm:∀{y c},(y,c)∈dZ X.env.cells scope.names []->X.env.cells.lookup y=some c/\c<s.heap.objs.size:=fun{y c} hm=>by
  rcases pX hm with hm|⟨h1,rfl⟩
  ·cases hm
  ·obtain⟨c,hc⟩:=hfree _ h1 rfl
   rw[hc]
   obtain⟨w,z⟩:=I.cell _ _ hc
   exact⟨rfl,z.lt⟩
 have mem:∀{y c},cenv.cells.lookup y=some c->(X.env.cells.lookup y=some c/\c<s.heap.objs.size)\/(s.heap.objs.size+1<=c/\zk (pushCells (s.heap.push {cls:=.type "dict",data:=.dict #[]}) scope.names) c none):=fun{y c} e=>by
  rw[hcl] at e
  rcases my (fj e) with hm|⟨_,h2,h3⟩
  ·exact .inl (cm hm)
  ·rw[Heap.size_push] at h2;exact .inr ⟨h2,h3⟩
 have look:∀{y},scope.names.lookup y=some .free->∃c,cenv.cells.lookup y=some c/\X.env.cells.lookup y=some c:=fun{y} hl=>by
  have hy:(y,NameKind.free)∈scope.names:=fj hl
  obtain⟨c',e'⟩:=mem_lookup (pY (names:=scope.names) (n:=(s.heap.push {cls:=.type "dict",data:=.dict #[]}).objs.size) (uE (cells:=X.env.cells) (acc:=[]) hy))
  rw[<-hcl] at e'
  refine⟨c',e',?_⟩
  rw[hcl] at e'
  rcases my (fj e') with hm|⟨h1,_,_⟩
  ·exact(cm hm).1
  ·have:=ok.uniq _ h1
   rw[hl] at this;cases this
 have okB:(X.blk s H scope cenv fp).Ok:=by
  refine⟨I.ok.mod,by show cenv.scope.kind=_;rw[hsc];exact ok.kind,by show cenv.globals=_;rw[<-hcenv];exact I.ok.glob,by show cenv.builtins=_;rw[<-hcenv];exact I.ok.blt,by show s.heap.objs.size<=cenv.locals;rw[hL];exact aY _,
   fun y z c e1 e2=>?_,fun y hy=>?_,fun y c z e=>?_,I.ok.hd,I.ok.frames,.inl rfl,fun b hb=>⟨?_,fun y c e z=>?_⟩,I.bs,bW I.ok.bsz I.sz,fun b o e hb=>?_,fun b hb z=>?_,I.stack,I.stkFree⟩
  ·have e1:cenv.cells.lookup y=some c:=e1
   have e2:cenv.cells.lookup z=some c:=e2
   rw[hcl] at e1 e2
   refine uG (fun p hp=>?_) (fun y z c a b=>I.ok.inj y z c (cm a).1 (cm b).1) (fj e1) (fj e2)
   rw[Heap.size_push]
   exact Dx (cm (y:=p.1) (c:=p.2) hp).2
  ·show∃c,cenv.cells.lookup y=some c
   have key:∀k,cenv.kindOf y=some k->(k=.cell\/k=.free)->∃c,cenv.cells.lookup y=some c:=fun k hk hk'=>by
    unfold Env.kindOf at hk
    rw[hsc] at hk
    obtain⟨k',e,r⟩:=uH hk
    have:k'=.cell\/k'=.free:=by
     rcases r with rfl|⟨rfl,_⟩
     ·exact hk'
     ·exact .inr rfl
    rcases this with rfl|rfl
    ·obtain⟨c,hm⟩:=uF (n:=(s.heap.push {cls:=.type "dict",data:=.dict #[]}).objs.size) (acc:=dZ X.env.cells scope.names []) (fj e)
     obtain⟨c',e'⟩:=mem_lookup hm
     exact⟨c',by rw[hcl];exact e'⟩
    ·obtain⟨c,h1,_⟩:=look e
     exact⟨c,h1⟩
   rcases hy with hy|hy
   ·exact key _ hy (.inl rfl)
   ·exact key _ hy (.inr rfl)
  ·have z:(scope.names.lookup y==some NameKind.cell)=true:=z
   have z:scope.names.lookup y=some .cell:=by simpa using z
   have e:cenv.cells.lookup y=some c:=e
   rw[hcl] at e
   rcases my (fj e) with hm|⟨_,h2,_⟩
   ·rcases pX hm with hm|⟨h1,_⟩
    ·cases hm
    ·have q:=ok.uniq _ h1
     rw[z] at q;cases q
   ·rw[Heap.size_push] at h2
    exact xc h2
  ·show b≠cenv.locals
   rw[hL];exact fG (hfp b hb).2
  ·have e:cenv.cells.lookup y=some c:=e
   rcases mem e with⟨h1,_⟩|⟨h1,_⟩
   ·exact(hfp b hb).1.2.2.2.2.1 y c h1 z
   ·have h2:s.heap.objs.size+1<=b:=by rw[<-z];exact h1
    exact absurd (fF (hfp b hb).2 (xc h2)) (jV _)
  ·rcases(hfp b hb).1.2.2.2.1 with z|z
   ·exact I.ok.noex b o e z
   ·exact absurd (fF (Heap.lt_size e) (bW I.ok.bsz z)) (jV _)
  ·rcases bc.mp (I.stkSub b z) with z|z
   ·exact(hfp b hb).1.2.1 z
   ·exact(hfp b hb).1.2.2.1 z
 refine⟨okB,rfl,I.bare,Un.kept kp,⟨fun _=>none,?_,fun i y av e1 e2 e3=>?_⟩,fun y c e=>?_,?_,fun y c e=>?_,fun p hp=>?_,I.hok.kept kp,by rw[uI];exact I.len⟩
 ·show Heap.Ns _ cenv.locals _
  rw[hL]
  exact Heap.Ns.keeps (Heap.Ns.new ..) fun b o e=>pushCells_keeps _ _ _ _ e
 ·obtain⟨e2,hne⟩:=uJ e2
  have hfr:scope.names.lookup y=some .free/\(cenv.kindOf y=some .cell\/cenv.kindOf y=some .free):=by
   have key:∀k,cenv.scope.names.lookup y=some k->k=.local\/k=.cell\/k=.free->scope.names.lookup y=some .free/\(cenv.kindOf y=some .cell\/cenv.kindOf y=some .free):=fun k hk hk'=>by
    have hk0:=hk
    rw[hsc] at hk
    obtain⟨k',e,r⟩:=uH hk
    have no:¬(k'=.local\/k'=.cell):=fun hh=>by
     rcases ok.own _ (fj e) hh with e'|e'
     ·obtain⟨p,hp,hpy⟩:=cT.mp e'
      have e3:=ok.ix p hp
      have:p.1=y:=hpy
      rw[this] at e3
      exact hne (cT.mpr ⟨p,hp,tO hN e3 e1⟩)
     ·exact e' (cv e1)
    rcases r with rfl|⟨rfl,rfl⟩
    ·rcases hk' with rfl|rfl|rfl
     ·exact absurd (.inl rfl) no
     ·exact absurd (.inr rfl) no
     ·exact⟨e,.inr hk0⟩
    ·exact⟨e,.inl hk0⟩
   have e3:kJ cenv.scope y:=e3
   rcases e3 with e3|e3|e3
   ·exact key _ e3 (.inl rfl)
   ·exact key _ e3 (.inr (.inl rfl))
   ·exact key _ e3 (.inr (.inr rfl))
  obtain⟨m,hn,hl⟩:=I.loc
  have hvis:kJ X.env.scope y:=(ok.free _ (fj hfr.1) rfl).elim (fun k=>.inr (.inl k)) (fun k=>.inr (.inr k))
  obtain⟨w,r,q⟩:=hl i y av e1 e2 hvis
  refine⟨w,r,.inr ⟨hfr.2,?_⟩⟩
  obtain⟨c,h1,h2⟩:=look hfr.1
  rcases q with⟨k,_⟩|⟨_,c',e',z⟩
  ·have k:X.env.scope.names.lookup y=some .local:=k
   rcases ok.free _ (fj hfr.1) rfl with k'|k'<;>rw[show X.env.scope.names.lookup y=_ from k'] at k<;>cases k
  ·rw[h2] at e';cases e'
   exact⟨c,h1,z.keeps kp⟩
 ·have e:cenv.cells.lookup y=some c:=e
  rcases mem e with⟨h1,_⟩|⟨_,z⟩
  ·obtain⟨w,z⟩:=I.cell y c h1
   exact⟨w,z.keeps kp⟩
  ·exact⟨_,z⟩
 ·show H cenv.locals=none
  rw[hL];exact I.hok.fresh (aY _)
 ·have e:cenv.cells.lookup y=some c:=e
  rcases mem e with⟨h1,_⟩|⟨h1,_⟩
  ·exact I.freeC y c h1
  ·exact I.hok.fresh (xc h1)
 ·exact absurd (show p∈([]:List (Addr×Obj))++[] from hp) (by simp)
theorem Gq{E:Value->Shared->Prop}{D:Addr}{xs:List V}{y:V}{v:Value}{Q:Value->Shared->Prop}(I:aH X pins σ H s)(hD:H D=some (.lst xs))(hz:xs.length<sizeLine)(r:RelV y v)
  (h:∀s',aH X pins σ (upd H D (.lst (xs++[y]))) s'->Q .none s'):wpAny (model X.prog X.w) X.A (call (.builtin "list.append") [.ref D,v]) Q E s:=by
 obtain⟨hz',its,n,ri,e⟩:=I.hok D _ hD
 have hl:=ri.length
 refine append_at (hsz:=by rw[br];omega) e fun h' sb ho'=>?_
 refine h {s with heap:=h'} (I.write (t':=s.toks) (by rw[hD];trivial) (.inl rfl) (fun b u hb q=>(sb.2 b hb).trans q) ⟨_,ho'⟩ ⟨by rw[aS];exact hz,its++[v],n+1,ri.append (.cons r .nil),?_⟩)
 rw[ho']
 simp
def nD(X:Cx)(ifs:List Expr)(t:TT):Prop:=
 ∀(pins:List (Addr×Obj)) (s:Shared) (σ:St) (H:Hp) (Q:Bool->Hp->Prop),aH X pins σ H s->t σ H Q->
  wpAny (model X.prog X.w) X.A (forIn ifs true fun c r=>if r=true then do let ok<-isTrue c X.env (eval c X.env);pure (ForInStep.yield ok) else pure (ForInStep.yield r)) (TP X pins σ Q) X.xe s
def Gr:TT:=fun _ H Q=>Q true H
theorem eR:nD X [] Gr:=fun _ _ _ H _ I h=>wpAny_tests_nil ⟨H,I,h⟩
theorem uK{c:Expr}{t:TT}(h:PT X c t):nD X [c] t:=fun pins s σ H Q I hw=>wpAny_tests_one (h pins s σ H Q I hw)
end
theorem lP{α:Type}{t:Sem α}{Q Q':α->Shared->Prop}{M:Model}{A:Around}{E:Value->Shared->Prop}{s:Shared}(h:wpAny M A t Q (fun _ _=>False) s)(hQ:∀a s,Q a s->Q' a s):wpAny M A t Q' E s:=wpAny_mono h hQ fun _ _ z=>fH z
theorem Gs{prog:Program}{w:World}{A:Around}{R:Result->Shared->Prop}{s:Shared}{elt target iter:Expr}{ifs:List Expr}{scope:Scope}{pos:Pos}{it acc:Value}{env:Env}(I:Nat->Shared->Prop)
  (turn:∀n s,I n s->wpAny (model prog w) A (pyNext it) (fun r s₁=>match r with
   |none=>R (.ok .next) s₁
   |some v=>wpAny (model prog w) A (letOwnedTupleGo target it v) (fun _ s₁'=>wpAny (model prog w) A (assign target env v) (fun _ s₂=>
     wpAny (model prog w) A (forIn ifs true fun c r=>if r=true then do let ok<-isTrue c env (eval c env);pure (ForInStep.yield ok) else pure (ForInStep.yield r)) (fun ok s₃=>
      if ok=true then wpAny (model prog w) A (eval elt env) (fun x s₄=>
       wpAny (model prog w) A (call (.builtin "list.append") [acc,x]) (fun _ s₅=>∃m,m<n/\I m s₅) (notedBy (model prog w) A env fun e s'=>R (.error e) s') s₄) (notedBy (model prog w) A env fun e s'=>R (.error e) s') s₃
      else∃m,m<n/\I m s₃) (notedBy (model prog w) A env fun e s'=>R (.error e) s') s₂) (notedBy (model prog w) A env fun e s'=>R (.error e) s') s₁') (notedBy (model prog w) A env fun e s'=>R (.error e) s') s₁) (notedBy (model prog w) A env fun e s'=>R (.error e) s') s)
  (n:Nat)(h:I n s):
  codeAny (model prog w) A (.compLoop (.ListComp elt [⟨target,iter,ifs,0⟩] scope pos) 0 it acc env) R s:=by
 refine codeAny_loop rfl I (fun n s hI=>?_) n h
 show wpAny _ A ((compTurn (.ListComp elt [⟨target,iter,ifs,0⟩] scope pos) 0 it acc env).onRaise (fun x=>do noteFrame x env;theTreesLotGoes x)) _ _ s
 refine wpAny_noted ?_
 rw[compTurn_list]
 refine wpAny_bind (wpAny_standAt (wpAny_bind (wpAny_mono (turn n s hI) (fun r s₁ h₁=>?_) fun _ _ h'=>h')))
 cases r with
 |none=>exact wpAny_pure h₁
 |some v=>
  refine wpAny_bind (wpAny_mono h₁ (fun _ s₁' h₁'=>?_) fun _ _ h'=>h')
  refine wpAny_bind (wpAny_mono h₁' (fun _ s₂ h₂=>wpAny_bind (wpAny_mono h₂ (fun ok s₃ h₃=>?_) fun _ _ h'=>h')) fun _ _ h'=>h')
  cases ok with
  |false=>exact wpAny_pure ⟨rfl,h₃⟩
  |true=>
   exact wpAny_bind (wpAny_bind (wpAny_mono h₃ (fun x s₄ h₄=>wpAny_bind (wpAny_mono h₄ (fun _ s₅ h₅=>wpAny_pure (wpAny_pure ⟨rfl,h₅⟩)) fun _ _ h'=>h')) fun _ _ h'=>h'))
section
variable{X:Cx}
def pZ(wi:TI)(g:TG)(tt:TT)(te:TE)(vs:List Nat):TE:=fun σ H Q=>wi σ H fun J H1=>∀D,H1 D=none->∃W:Nat->Nat->Hp->Prop,(∃m,W 0 m (upd H1 D (.lst [])))/\∀i m H,W i m H->
 (J.stop i H/\Q (.ref D) H)\/(J.go i H/\∃Nx:Hp->Prop,(∀H',Nx H'->∃m',m'<m/\W (i+1) m' H')/\∀x H',J.yld i H x H'->g x (wipe σ vs) H' fun σ2 H2=>wipe σ2 vs=wipe σ vs/\tt σ2 H2 fun b H3=>
  if b=true then te σ2 H3 fun y H4=>∃acc,H4 D=some (.lst acc)/\acc.length<sizeLine/\Nx (upd H4 D (.lst (acc++[y]))) else Nx H3)
theorem zq{pins:List (Addr×Obj)}{s:Shared}{σ:St}{H:Hp}{Q:VK}{elt tg iter:Expr}{ifs:List Expr}{scope:Scope}{own:List (Str×Nat)}{pos pos':Pos}{wi:TI}{g:TG}{tt:TT}{te:TE}{use:Option (Value->Sem Unit)}{Qf:Value->Shared->Prop}
  (hc:X.calm=true)(hN:X.N.Nodup)(I:aH X pins σ H s)(hi:PI X tg iter wi)(ok:mz X.N X.env.scope scope own)
  (hg:∀(s:Shared) (H:Hp) (C:Addr) (cl:List (Str×Addr)) (fp:List Addr),PG (X.blk s H scope (compEnvC scope cl C X.env) fp) tg g)(ht:∀(s:Shared) (H:Hp) (C:Addr) (cl:List (Str×Addr)) (fp:List Addr),nD (X.blk s H scope (compEnvC scope cl C X.env) fp) ifs tt)
  (he:∀(s:Shared) (H:Hp) (C:Addr) (cl:List (Str×Addr)) (fp:List Addr),PE (X.blk s H scope (compEnvC scope cl C X.env) fp) elt te)(hs:∀x,foldedSetIterable iter X.env x=pure x)
  (h:pZ wi g tt te (own.map (·.2)) σ H Q)
  (hRR:∀D C s' m H',aH X pins σ H' s'->Q (.ref D) H'->s'.heap.Ns C m->gX X pins H' C->compPost (model X.prog X.w) X.A X.xe use Qf (.ref D) C (.ok .next) s'):
  wpAny (model X.prog X.w) X.A (comprehension (.ListComp elt [⟨tg,iter,ifs,0⟩] scope pos) scope X.env pos' (newList []) false (eval iter X.env) use) Qf X.xe s:=by
 have hfree:∀y∈scope.names,y.2=.free->∃c,X.env.cells.lookup y.1=some c:=fun y hy e=>by
  rcases ok.free y hy e with k|k
  ·exact I.ok.has _ (.inl k)
  ·exact I.ok.has _ (.inr k)
 refine wpAny_comprehension_free (use:=use) rfl hs (Gm hfree) ok.kind (fun y hy e=>by rw[ok.uniq y hy,e])
  (af (hi pins s σ H _ I h) fun xv s1 hx=>af hx fun itv s2 h2=>?_)
 obtain⟨it,fp,tn,J,H2,e,I2,T,st2,f2,q⟩:=h2
 subst e
 refine wpAny_newObj_type (Gn ?_) (by show 0<=sizeLine;decide)
 generalize hD:s2.heap.objs.size=D
 have hDn:H2 D=none:=I2.hok.fresh (xY hD)
 obtain⟨W,⟨m0,w0⟩,turn⟩:=q D hDn
 generalize hs3:({s2 with heap:=s2.heap.push {cls:=.type "list",data:=.seq ([]:List Value).toArray}}:Shared)=s3
 have I3:aH X pins σ (upd H2 D (.lst [])) s3:=by
  rw[<-hs3]
  refine I2.laid (t':=s2.toks) (fun b o e=>Heap.get?_push_of_some _ e) (xY hD) ⟨bF _,[],0,.nil,?_⟩
  rw[<-hD]
  exact Heap.get?_push_size _ rfl
 have h3:s3.heap=s2.heap.push {cls:=.type "list",data:=.seq ([]:List Value).toArray}:=by rw[<-hs3]
 have sz:∀b∈fp,b<s2.heap.objs.size:=fun b hb=>by
  obtain⟨o,e,_⟩:=T.obj _ _ st2 b hb
  exact Heap.lt_size e
 have f3:∀b∈fp,gX X pins (upd H2 D (.lst [])) b/\b<s3.heap.objs.size:=fun b hb=>by
  have hlt:=sz b hb
  refine⟨⟨?_,(f2 b hb).2⟩,by rw[h3,Heap.size_push];exact Dx hlt⟩
  rw[aP (by rw[<-hD];exact fG hlt)]
  exact(f2 b hb).1
 have st3:tn 0 s3.heap:=T.keep _ _ _ st2 fun b _ o e=>by rw[h3];exact Heap.get?_push_of_some _ e
 have I4:=Gp I3 ok hN f3
 have pg:=hg s3 (upd H2 D (.lst [])) s3.heap.objs.size (cellsFrom (s3.heap.objs.size+1) scope.names (dZ X.env.cells scope.names [])) fp
 have pt:=ht s3 (upd H2 D (.lst [])) s3.heap.objs.size (cellsFrom (s3.heap.objs.size+1) scope.names (dZ X.env.cells scope.names [])) fp
 have pe:=he s3 (upd H2 D (.lst [])) s3.heap.objs.size (cellsFrom (s3.heap.objs.size+1) scope.names (dZ X.env.cells scope.names [])) fp
 show codeAny _ _ (.compStart (.ListComp elt [⟨tg,iter,ifs,0⟩] scope pos) 0 (.ref it) (.ref D) (compEnvC scope (cellsFrom (s3.heap.objs.size+1) scope.names (dZ X.env.cells scope.names [])) s3.heap.objs.size X.env)) (compPost (model X.prog X.w) X.A X.xe use Qf (.ref D) s3.heap.objs.size) {s3 with heap:=pushCells (s3.heap.push {cls:=.type "dict",data:=.dict #[]}) scope.names}
 have nfp:∀b∈fp,(upd H2 D (.lst [])) b=none:=fun b hb=>(f3 b hb).1.1
 generalize hce:compEnvC scope (cellsFrom (s3.heap.objs.size+1) scope.names (dZ X.env.cells scope.names [])) s3.heap.objs.size X.env=ce at I4 pg pt pe⊢
 have cL:ce.locals=s3.heap.objs.size:=by subst hce;rfl
 generalize hH3:upd H2 D (.lst [])=H3 at I3 I4 pg pt pe w0 nfp f3
 generalize hs4:({s3 with heap:=pushCells (s3.heap.push {cls:=.type "dict",data:=.dict #[]}) scope.names}:Shared)=s4 at I4⊢
 have st4:tn 0 s4.heap:=T.keep _ _ _ st3 fun b _ o e=>by rw[<-hs4];exact pushCells_keeps _ _ _ _ (Heap.get?_push_of_some _ e)
 have stat:∀{σ':St} {H':Hp} {s':Shared},aH (X.blk s3 H3 scope ce fp) [] σ' H' s'->(∀b∈fp,H' b=none)->∀b∈fp,gX (X.blk s3 H3 scope ce fp) [] H' b:=fun{σ' H' s'} I' hn b hb=>
  ⟨hn b hb,(I'.ok.exf b hb).1,I'.ok.exfs b hb,.inl hb,fun x c e=>(I'.ok.exf b hb).2 x c e,fun p hp=>absurd (show p∈([]:List (Addr×Obj))++[] from hp) (by simp)⟩
 have loop:codeAny (model X.prog X.w) X.A (.compLoop (.ListComp elt [⟨tg,iter,ifs,0⟩] scope pos) 0 (.ref it) (.ref D) ce) (compPost (model X.prog X.w) X.A X.xe use Qf (.ref D) s3.heap.objs.size) s4:=by
  refine Gs (fun n s'=>∃i H',aH (X.blk s3 H3 scope ce fp) [] (wipe σ (own.map (·.2))) H' s'/\tn i s'.heap/\(∀b∈fp,H' b=none)/\W i n H') ?_ m0 ⟨0,H3,I4,st4,nfp,w0⟩
  rintro n s5 ⟨i,H5,I5,st5,n5,w5⟩
  rcases turn i n H5 w5 with⟨stop,qq⟩|⟨go,Nx,hNx,step⟩
  ·have td:=T.done (X.blk s3 H3 scope ce fp) rfl rfl rfl hc i [] s5 _ H5 (fun _ _=>False) I5 (stat I5 n5) st5 stop
   refine lP td fun r s6 ⟨hr,I6⟩=>?_
   subst hr
   have I7:aH X pins σ H5 s6:=I3.call' (ch:=fp) I6.os I6.base I6.hok I6.bare fun b hb=>⟨(f3 b hb).1.2.2.2.1,(f3 b hb).1.2.1,(f3 b hb).1.2.2.2.2.1,(f3 b hb).1.2.2.2.2.2⟩
   have nC:H5 s3.heap.objs.size=none:=by
    have z:H5 ce.locals=none:=I6.free
    rw[cL] at z
    exact z
   obtain⟨m,hn,_⟩:=I6.loc
   have hn:s6.heap.Ns ce.locals m:=hn
   rw[cL] at hn
   exact hRR D s3.heap.objs.size s6 m H5 I7 qq hn (I3.fpOk (aY _) nC)
  ·have ti:=T.item (X.blk s3 H3 scope ce fp) rfl rfl rfl hc i [] s5 _ H5 (fun _ _=>False) I5 (stat I5 n5) st5 go
   refine lP ti fun r s6 ⟨u,hr,h6⟩=>?_
   subst hr
   refine lP h6 fun _ s7 ⟨x,H7,I7,r7,y7,st7,n7⟩=>?_
   have I7':=I7.pinned (stat I7 n7) (T.obj _ _ st7)
   refine lP (pg _ s7 _ H7 x u _ I7' r7 (step x H7 y7)) fun _ s8 ⟨σ8,H8,I8,hw8,q8⟩=>?_
   refine lP (pt _ s8 σ8 H8 _ I8 q8) fun b s9 ⟨H9,I9,q9⟩=>?_
   have fin:∀{s':Shared} {H':Hp},aH (X.blk s3 H3 scope ce fp) ([]++mf fp s7.heap) σ8 H' s'->Nx H'->∃m,m<n/\∃i H',aH (X.blk s3 H3 scope ce fp) [] (wipe σ (own.map (·.2))) H' s'/\tn i s'.heap/\(∀b∈fp,H' b=none)/\W i m H':=fun{s' H'} I' nx=>by
    obtain⟨m',hm,w'⟩:=hNx H' nx
    have pin':∀b∈fp,∀o,s7.heap.get? b=some o->s'.heap.get? b=some o/\H' b=none:=fun b hb o e=>
     let z:=I'.pin (b,o) (kn _ (kn _ (tX hb e)))
     ⟨z.1,z.2.1⟩
    have hl:(wipe σ (own.map (·.2))).length=σ8.length:=by rw[<-hw8,uI]
    refine⟨m',hm,i+1,H',(I'.unpinned (pins:=[])).weak hl (fun j v e=>?_),T.keep _ _ _ st7 fun b hb o e=>(pin' b hb o e).1,fun b hb=>?_,w'⟩
    ·rw[<-hw8] at e
     exact(uJ e).1
    ·obtain⟨o,e,_⟩:=T.obj _ _ st7 b hb
     exact(pin' b hb o e).2
   cases b with
   |false=>
    simp only[D6,if_false] at q9⊢
    exact fin I9 q9
   |true=>
    simp only[if_true] at q9⊢
    refine lP (pe _ s9 σ8 H9 _ I9 q9) fun z s10 ⟨yv,H10,I10,r10,acc,hD10,hz10,nx⟩=>?_
    exact Gq (X:=X.blk s3 H3 scope ce fp) I10 hD10 hz10 r10 fun s11 I11=>fin I11 nx
 exact codeAny_compStart_list loop (T.self X.A 0 _ _ _ st4 loop)
theorem eS{elt tg iter:Expr}{ifs:List Expr}{scope:Scope}{own:List (Str×Nat)}{pos:Pos}{wi:TI}{g:TG}{tt:TT}{te:TE}(hc:X.calm=true)(hN:X.N.Nodup)(hi:PI X tg iter wi)(ok:mz X.N X.env.scope scope own)
  (hg:∀(s:Shared) (H:Hp) (C:Addr) (cl:List (Str×Addr)) (fp:List Addr),PG (X.blk s H scope (compEnvC scope cl C X.env) fp) tg g)(ht:∀(s:Shared) (H:Hp) (C:Addr) (cl:List (Str×Addr)) (fp:List Addr),nD (X.blk s H scope (compEnvC scope cl C X.env) fp) ifs tt)
  (he:∀(s:Shared) (H:Hp) (C:Addr) (cl:List (Str×Addr)) (fp:List Addr),PE (X.blk s H scope (compEnvC scope cl C X.env) fp) elt te)(hs:∀x,foldedSetIterable iter X.env x=pure x:=by intro _;rfl):
  PE X (.ListComp elt [⟨tg,iter,ifs,0⟩] scope pos) (pZ wi g tt te (own.map (·.2))):=by
 intro pins s σ H Q I h
 rw[eval_ListComp]
 refine zq hc hN I hi ok hg ht he hs h fun D C s' m H' I' q hn f=>⟨m,hn,fun h'' sb=>?_⟩
 obtain⟨f0,f1,f2,f3,f4,f5⟩:=f
 exact⟨.ref D,H',I'.turned (t':=s'.toks) (fun b o hb e=>(sb.2 b hb).trans e) f0 f1 f3 f4 f5,rfl,q⟩
theorem uL{i:Nat}{y:Str}{py:Pos}{elt tg iter:Expr}{ifs:List Expr}{scope:Scope}{own:List (Str×Nat)}{pos spos:Pos}{wi:TI}{g:TG}{tt:TT}{te:TE}(hc:X.calm=true)(hN:X.N.Nodup)(hy:X.N[i]? =some y)(hyl:X.env.scope.names.lookup y=some .local)
  (hsw:swapsWith (.ListComp elt [⟨tg,iter,ifs,0⟩] scope pos) (some (.Name y py)) spos.line X.env=pure true)(hi:PI X tg iter wi)(ok:mz X.N X.env.scope scope own)
  (hg:∀(s:Shared) (H:Hp) (C:Addr) (cl:List (Str×Addr)) (fp:List Addr),PG (X.blk s H scope (compEnvC scope cl C X.env) fp) tg g)(ht:∀(s:Shared) (H:Hp) (C:Addr) (cl:List (Str×Addr)) (fp:List Addr),nD (X.blk s H scope (compEnvC scope cl C X.env) fp) ifs tt)
  (he:∀(s:Shared) (H:Hp) (C:Addr) (cl:List (Str×Addr)) (fp:List Addr),PE (X.blk s H scope (compEnvC scope cl C X.env) fp) elt te)(hs:∀x,foldedSetIterable iter X.env x=pure x:=by intro _;rfl):
  PS X (.Assign [.Name y py] (.ListComp elt [⟨tg,iter,ifs,0⟩] scope pos) spos) (mZ (pZ wi g tt te (own.map (·.2))) (eO i)):=by
 intro pins s σ H D I h
 rw[exec_Assign_Name_used _ _ _ _ hsw]
 refine wpAny_bind (wpAny_standAt (wpAny_bind ?_))
 show wpAny _ X.A (do let _<-comprehension (.ListComp elt [⟨tg,iter,ifs,0⟩] scope pos) scope X.env (firstIterPos [⟨tg,iter,ifs,0⟩] pos) (newList []) false (eval iter X.env) (some (assign (.Name y py) X.env))) _ _ s
 have h:pZ wi g tt te (own.map (·.2)) σ H (fun x H1=>eO i x σ H1 D.nx):=h
 refine wpAny_bind (af (zq (Qf:=fun _ s'=>SP X pins D .next s') hc hN I hi ok hg ht he hs h fun L C s' m H' I' q hn f=>?_) fun _ s' hq=>wpAny_pure (wpAny_pure hq))
 show wpAny _ _ (assign (.Name y py) X.env (.ref L)) _ _ _
 refine wpAny_assign_Name (yi (v:=V.ref L) I' hN hy (.inl hyl) rfl (fun s2 I2 ⟨a,sb,ha⟩=>?_) (.inr hyl))
 obtain⟨f0,f1,f2,f3,f4,f5⟩:=f
 have haC:C≠a:=by
  rcases ha with z|z
  ·rw[z];exact f1
  ·exact fun e=>f4 y a z e.symm
 refine⟨m,hn.sameBut sb haC,fun h3 sb3=>?_⟩
 exact⟨_,H',I2.turned (t':=s2.toks) (fun b o hb e=>(sb3.2 b hb).trans e) f0 f1 f3 f4 f5,q⟩
theorem uM{elt:Expr}{gs:List Comprehension}{scope:Scope}{pos py:Pos}{y:Str}{l:Nat}{env:Env}(hk:env.scope.kind=.function)(hy:env.scope.names.lookup y=some .local)(hl:(py.line==pos.line)=true)
  (ha:(scope.names.any fun(n,k)=>n==y&&(k==.local||k==.cell))=false):swapsWith (.ListComp elt gs scope pos) (some (.Name y py)) l env=pure true:=by
 have ky:env.kindOf y=some .local:=hy
 have hb:env.blockKind=.function:=by unfold Env.blockKind;rw[hk];rfl
 unfold swapsWith
 simp only[hb,ky,ha,Expr.pos,hl]
 rfl
end
theorem fT{K:aD}{a:Addr}{xs:List V}{g:TG}{tt:TT}{te:TE}{vs:List Nat}{σ:St}{H1:Hp}{D:Addr}{Qd:Hp->Prop}(Pv:Nat->Hp->Prop)(h0:Pv 0 (upd H1 D (.lst [])))(hl:∀i H,i<=xs.length->Pv i H->aE K H a xs)
  (hs:∀i x H,xs[i]? =some x->Pv i H->g x (wipe σ vs) H fun σ2 H2=>wipe σ2 vs=wipe σ vs/\tt σ2 H2 fun b H3=>
   if b=true then te σ2 H3 fun y H4=>∃acc,H4 D=some (.lst acc)/\acc.length<sizeLine/\Pv (i+1) (upd H4 D (.lst (acc++[y]))) else Pv (i+1) H3)(hd:∀H,Pv xs.length H->Qd H):
  ∃W:Nat->Nat->Hp->Prop,(∃m,W 0 m (upd H1 D (.lst [])))/\∀i m H,W i m H->
   ((ja K a).stop i H/\Qd H)\/((ja K a).go i H/\∃Nx:Hp->Prop,(∀H',Nx H'->∃m',m'<m/\W (i+1) m' H')/\∀x H',(ja K a).yld i H x H'->g x (wipe σ vs) H' fun σ2 H2=>wipe σ2 vs=wipe σ vs/\tt σ2 H2 fun b H3=>
    if b=true then te σ2 H3 fun y H4=>∃acc,H4 D=some (.lst acc)/\acc.length<sizeLine/\Nx (upd H4 D (.lst (acc++[y]))) else Nx H3):=by
 refine⟨fun i m H=>m=xs.length-i/\i<=xs.length/\Pv i H,⟨xs.length,by simp,bF _,h0⟩,?_⟩
 rintro i m H ⟨rfl,hi,p⟩
 have q:=hl i H hi p
 by_cases hlt:i<xs.length
 ·refine .inr ⟨⟨xs,xs[i],q,by simp[hlt]⟩,Pv (i+1),fun H' p'=>⟨xs.length-(i+1),by omega,rfl,hlt,p'⟩,fun x H' y=>?_⟩
  obtain⟨e,y⟩:=y
  subst e
  exact hs i x _ (y xs q) p
 ·have e:i=xs.length:=by omega
  subst e
  exact .inl ⟨⟨xs,q,aY _⟩,hd H p⟩
def zt(N:List Str)(sc scope:Scope)(own:List (Str×Nat)):Bool:=
 (match scope.kind with|.function=>true|_=>false)&&(scope.names.all fun y=>decide (scope.names.lookup y.1=some y.2))&&(own.all fun p=>decide (N[p.2]? =some p.1))&&
  (scope.names.all fun y=>match y.2 with
   |.free=>(match sc.names.lookup y.1 with|some .cell=>true|some .free=>true|_=>false)
   |.local=>decide (y.1∈own.map (·.1))||decide (y.1∉N)
   |.cell=>decide (y.1∈own.map (·.1))||decide (y.1∉N)
   |_=>true)
theorem dc{N:List Str}{sc scope:Scope}{own:List (Str×Nat)}(h:zt N sc scope own=true):mz N sc scope own:=by
 unfold zt at h
 simp only[ag,cJ,decide_eq_true_eq] at h
 obtain⟨⟨⟨h1,h2⟩,h3⟩,h4⟩:=h
 refine⟨?_,h2,h3,fun y hy e=>?_,fun y hy e=>?_⟩
 ·split at h1
  ·assumption
  ·cases h1
 ·have q:=h4 y hy
  simp only[e] at q
  split at q<;>first|exact .inl (by assumption)|exact .inr (by assumption)|cases q
 ·have q:=h4 y hy
  rcases e with e|e<;>(simp only[e,xf,decide_eq_true_eq] at q;exact q)
def zu(i:Expr):Prop:=∀ov iv,subscripted i false ov iv=operate [ov,iv] (getItem ov iv)
theorem Gu{prog:Program}{w:World}{A:Around}{E:Value->Shared->Prop}{s:Shared}{env:Env}{value slice:Expr}{pos:Pos}{T id:String}{Q:Value->Shared->Prop}
  (hl:typeLookup (.type T) "__getitem__"=pure (some (.builtin id)))(hs:zu slice)
  (h:wpAny (model prog w) A (eval value env) (fun o s₁=>wpAny (model prog w) A (eval slice env) (fun i s₂=>s₂.TypeIs o T/\wpAny (model prog w) A (getItem o i) Q E s₂) E s₁) E s):
  wpAny (model prog w) A (eval (.Subscript value slice pos) env) Q E s:=by
 refine Subscript_ (wpAny_mono h (fun o s₁ h₁=>wpAny_mono h₁ (fun i s₂ h₂=>?_) fun _ _ x=>x) fun _ _ x=>x)
 obtain⟨hT,h₂⟩:=h₂
 unfold subscriptTail
 refine wpAny_bind ?_
 rw[getitemInPython_of_ne hT.not_modules]
 refine wpAny_bind (wpAny_specialOf hT hl ?_)
 have fin:wpAny (model prog w) A (subscripted slice false o i) (fun r s₃=>wpAny (model prog w) A (letTemporaryGo value o r>>=fun _=>pure r) Q E s₃) E s₂:=by
  rw[hs o i]
  exact wpAny_operating (wpAny_mono h₂ (fun r s₃ h₃=>wpAny_bind (wpAny_letTemporaryGo (wpAny_pure h₃))) fun _ _ x=>x)
 first
  |exact wpAny_pure (wpAny_bind fin)
  |exact wpAny_bind (wpAny_pure (wpAny_bind fin))
  |exact wpAny_bind fin
structure M2 (X:Cx) (o:Expr) (m:Str) (apos:Pos) (e f:Expr) (cpos:Pos):Prop where
 base:attributeBase o m X.env (eval o X.env)=eval o X.env
 few:((backTo cpos (starEach [e,f] X.env)).all (fun x=> !x.1)&&(backToKw cpos (keywordEach [] X.env)).all (fun x=>x.1.isSome)
  &&decide (([e,f]:List Expr).length+([]:List Keyword).length+(if([]:List Keyword).isEmpty then 0 else 1)<30))=true
 line:(apos.endLine==cpos.line)=true
 trees:backTo cpos (starEach [e,f] X.env)=[(false,eval e X.env),(false,eval f X.env)]
theorem Gv:bootBuiltins "reversed"=some (.type "reversed"):=by decide+kernel
section
variable{X:Cx}{pins:List (Addr×Obj)}{σ:St}{H:Hp}{s:Shared}{h':Heap}
theorem aH.turnedL{t':Nat}{ch:List Addr}(I:aH X pins σ H s)(k:∀b o,b∉ch->s.heap.get? b=some o->h'.get? b=some o)(hf:∀b∈ch,gX X pins H b):aH X pins σ H {s with heap:=h',toks:=t'}:=by
 have nit:∀b u,H b=some u->b∉ch:=fun b u e z=>by
  have q:=(hf b z).1
  rw[q] at e;cases e
 refine I.step (g':=s.gens) (d':=s.drawn) (ch:=ch) (fun b hb=>⟨(hf b hb).2.2.2.1,(hf b hb).2.1,(hf b hb).2.2.2.2.1,(hf b hb).2.2.2.2.2⟩) (fun b o _ _ hc e _=>k b o hc e) (fun b o _ _ hc e _=>⟨o.slots,k b o hc e⟩)
  (fun _ _ _ _ n=>n) (fun b o hc e=>⟨o,k b o hc e⟩) (fun _ _ e=>e) (fun _ _ _ e=>e) (fun b ps e=>⟨#[],by rw[e];simp⟩) (fun m hm=>?_) (fun b u e=>?_) I.bare
 ·obtain⟨o,es,ep,ho,r⟩:=hm
  exact⟨o,es,ep,k _ o (fun z=>(hf _ z).2.1 rfl) ho,r⟩
 ·refine(I.hok b u e).stay (fun c v hc q=>k c v ?_ q) (fun _ q=>q) fun _ _ q=>q
  rcases hc with z|z
  ·rw[z];exact nit b u e
  ·exact nit c _ z
theorem aH.turnedNew{t':Nat}{ch:List Addr}{T:Addr}{ob:HO}(I:aH X pins σ H s)(k:∀b o,b∉ch->s.heap.get? b=some o->h'.get? b=some o)(hf:∀b∈ch,gX X pins H b)(hT:s.heap.objs.size<=T)
  (new:dO X.prog X.w (upd H T ob) h' T ob):aH X pins σ (upd H T ob) {s with heap:=h',toks:=t'}:=by
 have hn:H T=none:=I.hok.fresh hT
 have nit:∀b u,H b=some u->b∉ch:=fun b u e z=>by
  have q:=(hf b z).1
  rw[q] at e;cases e
 refine I.step (g':=s.gens) (d':=s.drawn) (ch:=ch) (fun b hb=>⟨(hf b hb).2.2.2.1,(hf b hb).2.1,(hf b hb).2.2.2.2.1,(hf b hb).2.2.2.2.2⟩) (fun b o _ _ hc e _=>k b o hc e) (fun b o _ _ hc e _=>⟨o.slots,k b o hc e⟩)
  (fun b o _ e n=>?_) (fun b o hc e=>⟨o,k b o hc e⟩) (fun b xs e=>?_) (fun b o u e=>?_) (fun b ps e=>⟨#[],?_⟩) (fun m hm=>?_) (fun b u e=>?_) I.bare
 ·rw[aP (fG (fF (Heap.lt_size e) hT))];exact n
 ·rw[aP (ae e hn)];exact e
 ·rw[aP (ae e hn)];exact e
 ·rw[aP (ae e hn),e];simp
 ·obtain⟨o,es,ep,ho,r⟩:=hm
  exact⟨o,es,ep,k _ o (fun z=>(hf _ z).2.1 rfl) ho,r⟩
 ·by_cases hb:b=T
  ·subst hb
   rw[aF] at e
   cases e
   exact new
  ·rw[aP hb] at e
   refine(I.hok b u e).stay (fun c v hc q=>k c v ?_ q) (fun c q=>by rw[aP (ae q hn)];exact q) fun c xs q=>by rw[aP (ae q hn)];exact q
   rcases hc with z|z
   ·rw[z];exact nit b u e
   ·exact nit c _ z
theorem aH.lock{d:Addr}{u:HO}(I:aH X pins σ H s)(h:H d=some u)(mu:kI (some u)):∃od,aH X pins σ (upd H d (.frz od u)) s:=by
 have x:=I.hok d u h
 have ex:∃od,s.heap.get? d=some od:=by
  cases u with
  |lst xs=>obtain⟨_,_,_,_,e⟩:=x;exact⟨_,e⟩
  |dK kvs=>obtain⟨_,_,_,_,o,_,_,e,_⟩:=x;exact⟨o,e⟩
  |dT kvs=>obtain⟨_,_,_,_,o,_,_,e,_⟩:=x;exact⟨o,e⟩
  |set S n=>obtain⟨o,_,_,_,e,_⟩:=x;exact⟨o,e⟩
  |ins C dx fs=>obtain⟨_,_,_,e,_⟩:=x;exact⟨_,e⟩
  |ext φ=>obtain⟨_,⟨_,e⟩,_⟩:=x;exact⟨_,e⟩
  |_=>exact fH mu
 obtain⟨od,e⟩:=ex
 have new:dO X.prog X.w (upd H d (.frz od u)) s.heap d (.frz od u):=by
  refine⟨e,x.stay (fun b v _ q=>q) (fun b q=>?_) fun b xs q=>?_⟩
  ·rw[aP (fun z=>by rw[z,h] at q;cases q;exact mu)];exact q
  ·rw[aP (fun z=>by rw[z,h] at q;cases q;exact mu)];exact q
 exact⟨od,I.write (x:=d) (e:=d) (t':=s.toks) (h':=s.heap) (by rw[h];exact mu) (.inl rfl) (fun b v _ q=>q) ⟨od,e⟩ new⟩
theorem aH.nofrz{d:Addr}{u:HO}(I:aH X pins σ H s)(h:H d=some u)(mu:kI (some u)):∀o' u',X.H_0 d≠some (.frz o' u'):=fun o' u' e=>by
 have q:=I.base.frzs d o' u' e
 rw[h] at q
 cases q
 exact mu
theorem aH.unlock{d:Addr}{od:Obj}{u:HO}(I:aH X pins σ H s)(h:H d=some (.frz od u))(hn:∀o' u',X.H_0 d≠some (.frz o' u')):aH X pins σ (upd H d u) s:=by
 have neH:∀b o,H b=some o->(∀o' u',o≠ .frz o' u')->b≠d:=fun b o e hne z=>by
  rw[z,h] at e
  cases e
  exact hne _ _ rfl
 have neN:∀b,H b=none->b≠d:=fun b e z=>by rw[z,h] at e;cases e
 refine⟨I.ok,I.os,I.bare,⟨I.base.keep,I.base.slot,fun b o e n hx=>?_,I.base.there,fun b xs e=>?_,fun b o x e=>?_,fun b ps e=>?_⟩,I.loc,I.cell,?_,fun x c e=>?_,fun p hp=>?_,fun b o e=>?_,I.len⟩
 ·rw[aP (neN b (I.base.free b o e n hx))];exact I.base.free b o e n hx
 ·have q:=I.base.tups b xs e
  rw[aP (neH b _ q (fun _ _ z=>nomatch z))];exact q
 ·have q:=I.base.frzs b o x e
  rw[aP (fun z=>by rw[z] at e;exact hn _ _ e)];exact q
 ·obtain⟨m,q⟩:=I.base.tbls b ps e
  exact⟨m,by rw[aP (neH b _ q (fun _ _ z=>nomatch z))];exact q⟩
 ·rw[aP (neN _ I.free)];exact I.free
 ·rw[aP (neN c (I.freeC x c e))];exact I.freeC x c e
 ·obtain⟨e,n,r⟩:=I.pin p hp
  exact⟨e,by rw[aP (neN _ n)];exact n,r⟩
 ·by_cases hb:b=d
  ·rw[hb,aF] at e
   cases e
   rw[hb]
   obtain⟨_,x⟩:=I.hok d _ h
   exact x.stay (fun c v _ q=>q) (fun c q=>by rw[aP (neH c _ q (fun _ _ z=>nomatch z))];exact q) fun c xs q=>by rw[aP (neH c _ q (fun _ _ z=>nomatch z))];exact q
  ·rw[aP hb] at e
   exact(I.hok b o e).stay (fun c v _ q=>q) (fun c q=>by rw[aP (neH c _ q (fun _ _ z=>nomatch z))];exact q) fun c xs q=>by rw[aP (neH c _ q (fun _ _ z=>nomatch z))];exact q
end
def Gw(t:TE):TE:=fun σ H Q=>∃d u,H d=some u/\kI (some u)/\∀od,t σ (upd H d (.frz od u)) fun v H'=>H' d=some (.frz od u)/\Q v (upd H' d u)
section
variable{X:Cx}
theorem Gy{e:Expr}{t:TE}(h:PE X e t):PE X e (Gw t):=by
 intro pins s σ H Q I hw
 obtain⟨d,u,hd,mu,hw⟩:=hw
 obtain⟨od,I1⟩:=I.lock hd mu
 refine af (h pins s σ _ _ I1 (hw od)) fun v s1 ⟨x,H1,I2,r,e2,q⟩=>?_
 exact⟨x,_,I2.unlock e2 (I.nofrz hd mu),r,q⟩
theorem p8{tg:Expr}{pins:List (Addr×Obj)}{σ:St}{H:Hp}{s:Shared}{R:It->Hp->Prop}{J:It}{tn:Nat->Heap->Prop}{tk:Nat}(I:aH X pins σ H s)(o:Obj)
  (T:Turn X.prog X.w X.K tg J [s.heap.objs.size] s.heap.objs.size tn)(st:tn 0 (s.heap.push o))(q:R J H):yr X pins σ tg R (.ref s.heap.objs.size) {s with heap:=s.heap.push o,toks:=tk}:=by
 refine⟨s.heap.objs.size,[s.heap.objs.size],tn,J,H,rfl,I.kept fun b ob e=>Heap.get?_push_of_some _ e,T,st,fun b hb=>?_,q⟩
 have e:b=s.heap.objs.size:=by simpa using hb
 subst e
 exact I.fpOk (aY _) (I.hok.fresh (aY _))
end
def jj(lo c:Int)(n:Nat):It:=⟨fun i _=>i<n,fun i H x H'=>H'=H/\x=.int (lo+(i:Nat)*c),fun i _=>n<=i⟩
theorem Gz{P:Program}{w:World}{K:aD}{tg:Expr}(it:Addr)(lo c:Int)(n:Nat):Turn P w K tg (jj lo c n) [it] it (fun i h=>IsRangeIter h it (lo+(i:Nat)*c) ((n:Int)-(i:Nat)) c) where
 mem:=by simp
 obj:=fun i h st b hb=>by
  have e:b=it:=by simpa using hb
  subst e
  exact⟨_,st,fun v z=>nomatch z⟩
 keep:=fun i h h' st k=>k it (by simp) _ st
 item:=by
  intro X hP hw hK hc i pins s σ H E I hf st hg
  subst hP hw hK
  obtain⟨f0,f1,f2,f3,f4,f5⟩:=hf it (by simp)
  have W:=Walks.range (prog:=X.prog) (w:=X.w) (I.ok.hd hc) it lo c n
  refine W.item i s _ _ hg st fun v h' tk hv st' kk=>?_
  obtain⟨t,rfl⟩:=hv
  have I1:aH X pins σ H {s with heap:=h',toks:=tk}:=I.turned (fun b o hb e=>kk b o (by simpa using hb) e) f0 f1 f3 f4 f5
  exact⟨_,rfl,ma (s:={s with heap:=h',toks:=tk}) (n:="range_iterator") st' rfl rfl (by decide) ⟨.int (lo+(i:Nat)*c),H,I1,⟨t,rfl⟩,⟨rfl,rfl⟩,st',fun b hb=>(hf b hb).1⟩⟩
 done:=by
  intro X hP hw hK hc i pins s σ H E I hf st hg
  subst hP hw hK
  obtain⟨f0,f1,f2,f3,f4,f5⟩:=hf it (by simp)
  exact wpAny_pyNext_range_end (I.ok.hd hc) st (by have:n<=i:=hg;omega) fun h' eb=>⟨rfl,I.turned (t':=s.toks) (fun b o hb e=>eb b o hb e) f0 f1 f3 f4 f5⟩
 self:=fun A i s Q E st h=>wpAny_pyIter_rangeiter st h
def nE(i j c:Int)(n:Nat):Prop:=c≠0/\c.natAbs<1073741824/\Builtin.Range.small i j c=true/\Builtin.Range.rangeSize i j c=n
theorem nE.neg{i j:Int}(ha: -(2^62)<=i)(ha':i<2^62)(hb: -(2^62)<=j)(hb':j<2^62):nE i j (-1) (i-j).toNat:=
 ⟨by decide,by decide,PySem.W.small_down ha ha' hb hb',PySem.W.rangeSize_downNat i j⟩
def HA(ta:TA):TI:=fun σ H R=>ta σ H fun vs H1=>∃(i j c:Int) (n:Nat),vs=[.int i,.int j,.int c]/\nE i j c n/\R (jj i c n) H1
section
variable{X:Cx}{tg:Expr}
theorem zw{a b c:Expr}{ta:TA}{p pos:Pos}(hg:Gl X "range")(hm:X.mg "range"=none)(ha:PA X [a,b,c] ta)
  (hs:starEach [a,b,c] X.env=(false,eval a X.env)::starEach [b,c] X.env:=by rfl)(hpl:(backTo pos (starEach [b,c] X.env)).any (·.1)=false:=by rfl):
  PI X tg (.Call (.Name "range" p) [a,b,c] [] pos) (HA ta):=by
 intro pins s σ H R I h
 refine Call_ (j8 I hg hm boot_range (mC (af (ha pos pins s σ H _ I h) fun us s1 ⟨vs,H1,I1,r1,q1⟩=>?_) hs hpl))
 obtain⟨i,j,k,n,e,⟨c0,c1,c2,c3⟩,q⟩:=q1
 subst e
 cases r1 with
 |cons r rr=>
  cases rr with
  |cons r' rr=>
   cases rr with
   |cons r'' rr=>
    cases rr
    obtain⟨t,rfl⟩:=r
    obtain⟨t',rfl⟩:=r'
    obtain⟨t'',rfl⟩:=r''
    refine call_range_3 c0 ?_ (.inl (PyProof.noPylong_small c1))
    refine wpAny_pyIter_range (IsRange.new ..) c2 ?_
    have I2:aH X pins σ H1 {s1 with heap:=s1.heap.push {cls:=.type "range",data:=.fields #[.int i t,.int j t',.int k t'']}}:=I1.kept (t':=s1.toks) fun b o e=>Heap.get?_push_of_some _ e
    refine p8 (tk:=s1.toks) I2 _ (Gz _ i k n) ?_ q
    have e1:i+((0:Nat):Int)*k=i:=by simp
    have e2:(n:Int)-((0:Nat):Int)=Builtin.Range.rangeSize i j k:=by rw[c3];simp
    show IsRangeIter _ _ (i+((0:Nat):Int)*k) ((n:Int)-((0:Nat):Int)) k
    rw[e1,e2]
    exact Heap.get?_push_size _ rfl
end
theorem HB{lo c:Int}{n:Nat}{g:TG}{tb:TS}{D:Ends}{σ:St}{H:Hp}(Pv:Nat->St->Hp->Prop)(h0:Pv 0 σ H)
  (hs:∀i σ H,i<n->Pv i σ H->g (.int (lo+(i:Nat)*c)) σ H fun σ2 H2=>tb {D with nx:=Pv (i+1),ct:=Pv (i+1),bk:=D.nx} σ2 H2)(hd:∀σ H,Pv n σ H->D.nx σ H):
  ∃W:Nat->Nat->St->Hp->Prop,(∃m,W 0 m σ H)/\∀i m σ H,W i m σ H->
   ((jj lo c n).stop i H/\D.nx σ H)\/((jj lo c n).go i H/\∃N:St->Hp->Prop,(∀σ' H',N σ' H'->∃m',m'<m/\W (i+1) m' σ' H')/\∀x H',(jj lo c n).yld i H x H'->g x σ H' fun σ2 H2=>tb {D with nx:=N,ct:=N,bk:=D.nx} σ2 H2):=by
 refine⟨fun i m σ H=>m=n-i/\i<=n/\Pv i σ H,⟨n,by simp,bF _,h0⟩,?_⟩
 rintro i m σ H ⟨rfl,hi,p⟩
 by_cases hlt:i<n
 ·refine .inr ⟨hlt,Pv (i+1),fun σ' H' p'=>⟨n-(i+1),by omega,rfl,hlt,p'⟩,fun x H' y=>?_⟩
  obtain⟨e,y⟩:=y
  subst e y
  exact hs i σ _ hlt p
 ·have e:i=n:=by omega
  subst e
  exact .inl ⟨aY _,hd σ H p⟩
def nF(K:aD)(a:Addr)(n:Nat):It:=
 ⟨fun i H=>i<n/\∃(xs:List V) (x:V),aE K H a xs/\xs[n-1-i]? =some x,fun i H x H'=>H'=H/\∀xs,aE K H a xs->xs[n-1-i]? =some x,fun i _=>n<=i⟩
theorem HD{P:Program}{w:World}{K:aD}{tg:Expr}(a it:Addr)(n:Nat):Turn P w K tg (nF K a n) [it] it (fun i h=>i<=n/\h.IsRevIter it a ((n:Int)-1-(i:Nat))) where
 mem:=by simp
 obj:=fun i h st b hb=>by
  have e:b=it:=by simpa using hb
  subst e
  obtain⟨_,o,e,c,d⟩:=st
  exact⟨o,e,fun v z=>by rw[d] at z;cases z⟩
 keep:=fun i h h' st k=>⟨st.1,st.2.at fun o e=>k it (by simp) o e⟩
 item:=by
  intro X hP hw hK hc i pins s σ H E I hf st hg
  subst hP hw hK
  obtain⟨hin,xs,x,hq,hx⟩:=hg
  obtain⟨its,rv,p,hz⟩:=I.list hq
  obtain⟨u,hu,ru⟩:=rv.get hx
  obtain⟨f0,f1,f2,f3,f4,f5⟩:=hf it (by simp)
  obtain⟨_,hit⟩:=st
  have e1:(n:Int)-1-((i:Nat):Int)=((n-1-i:Nat):Int):=by omega
  rw[e1] at hit
  refine wpAny_pyNext_rev_item hit p.isList (x:=u) (by simpa using hu) fun h' st' sb=>?_
  have e2:((n-1-i:Nat):Int)-1=(n:Int)-1-((i+1:Nat):Int):=by omega
  rw[e2] at st'
  have I1:aH X pins σ H {s with heap:=h'}:=I.turned (t':=s.toks) (fun b o hb e=>(sb.2 b hb).trans e) f0 f1 f3 f4 f5
  obtain⟨o,e,c,d⟩:=id st'
  exact⟨u,rfl,ma (s:={s with heap:=h'}) e c d (by decide) ⟨x,H,I1,ru,⟨rfl,fun ys hy=>by rw[I.list_inj hy hq];exact hx⟩,⟨hin,st'⟩,fun b hb=>(hf b hb).1⟩⟩
 done:=by
  intro X hP hw hK hc i pins s σ H E I hf st hg
  subst hP hw hK
  obtain⟨f0,f1,f2,f3,f4,f5⟩:=hf it (by simp)
  obtain⟨hin,hit⟩:=st
  have hge:n<=i:=hg
  have e1:(n:Int)-1-((i:Nat):Int)= -1:=by omega
  rw[e1] at hit
  exact wpAny_pyNext_rev_end (I.ok.hd hc) hit fun h' eb=>⟨rfl,I.turned (t':=s.toks) (fun b o hb e=>eb b o hb e) f0 f1 f3 f4 f5⟩
 self:=fun A i s Q E st h=>wpAny_pyIter_revIter st.2 h
def HE(K:aD)(ta:TA):TI:=fun σ H R=>ta σ H fun vs H1=>∃(a:Addr) (xs:List V),vs=[.ref a]/\aE K H1 a xs/\R (nF K a xs.length) H1
section
variable{X:Cx}{tg:Expr}
theorem zx{e:Expr}{ta:TA}{p pos:Pos}(hg:Gl X "reversed")(hm:X.mg "reversed"=none)(ha:PA X [e] ta)(hs:starEach [e] X.env=[(false,eval e X.env)]:=by rfl):PI X tg (.Call (.Name "reversed" p) [e] [] pos) (HE X.K ta):=by
 intro pins s σ H R I h
 refine Call_ (j8 I hg hm Gv (mC (af (ha pos pins s σ H _ I h) fun us s1 ⟨vs,H1,I1,r1,q1⟩=>?_) hs rfl))
 obtain⟨a,xs,e,hq,q⟩:=q1
 subst e
 cases r1 with
 |cons r rr=>
  cases rr
  cases r
  obtain⟨its,rv,p',hz⟩:=I1.list hq
  have hl:=rv.length
  have e1:((its.toArray.size:Nat):Int)-1=(xs.length:Int)-1-((0:Nat):Int):=by simp only[br];omega
  refine call_reversed_list p'.isList (wpAny_pyIter_revIter (l:=a) (i:=((its.toArray.size:Nat):Int)-1) ⟨_,Heap.get?_push_size _ rfl,rfl,rfl⟩ ?_)
  refine p8 (tk:=s1.toks) I1 _ (HD a _ xs.length) ⟨bF _,?_⟩ q
  rw[<-e1]
  exact⟨_,Heap.get?_push_size _ rfl,rfl,rfl⟩
end
def nG(x:Str):It:=⟨fun i _=>i<x.cps.size,fun i H v H'=>H'=H/\∃c,x.cps[i]? =some c/\v=.str ⟨#[c]⟩,fun i _=>x.cps.size<=i⟩
theorem zy{P:Program}{w:World}{K:aD}{tg:Expr}(it:Addr)(x:Str)(t:Tok)(ty:String)(hty:ty="str_ascii_iterator"\/ty="str_iterator"):
  Turn P w K tg (nG x) [it] it (fun i h=>h.IsStrIter it ty x t i) where
 mem:=by simp
 obj:=fun i h st b hb=>by
  have e:b=it:=by simpa using hb
  subst e
  obtain⟨o,e,c,d⟩:=st
  exact⟨o,e,fun v z=>by rw[d] at z;cases z⟩
 keep:=fun i h h' st k=>let⟨o,ho,r⟩:=st;⟨o,k it (by simp) o ho,r⟩
 item:=by
  intro X hP hw hK hc i pins s σ H E I hf st hg
  subst hP hw hK
  obtain⟨f0,f1,f2,f3,f4,f5⟩:=hf it (by simp)
  have W:Walks X.prog X.w X.A it [it] [it] x.cps.size (SignAt x) (fun i h=>h.IsStrIter it ty x t i):=by
   rcases hty with e|e
   ·rw[e];exact Walks.strAscii (I.ok.hd hc) it x t
   ·rw[e];exact Walks.strWide (I.ok.hd hc) it x t
  have hno:["enumerate","zip","dict_itemiterator","dict_reverseitemiterator","odict_iterator","itertools.zip_longest","itertools.pairwise"].contains ty=false:=by
   rcases hty with e|e
   ·rw[e];decide
   ·rw[e];decide
  refine W.item i s _ _ hg st fun v h' tk hv st' kk=>?_
  obtain⟨c,u,hcx,rfl⟩:=hv
  have I1:aH X pins σ H {s with heap:=h',toks:=tk}:=I.turned (fun b o hb e=>kk b o (by simpa using hb) e) f0 f1 f3 f4 f5
  obtain⟨oi,e,cc,dd⟩:=id st'
  exact⟨_,rfl,ma (s:={s with heap:=h',toks:=tk}) e cc dd hno ⟨.str ⟨#[c]⟩,H,I1,⟨u,rfl⟩,⟨rfl,c,hcx,rfl⟩,st',fun b hb=>(hf b hb).1⟩⟩
 done:=by
  intro X hP hw hK hc i pins s σ H E I hf st hg
  subst hP hw hK
  obtain⟨f0,f1,f2,f3,f4,f5⟩:=hf it (by simp)
  have hx:x.cps[i]? =none:=Array.getElem?_eq_none hg
  rcases hty with e|e
  ·rw[e] at st
   exact wpAny_pyNext_ascii_end (I.ok.hd hc) st hx fun h' eb=>⟨rfl,I.turned (t':=s.toks) (fun b o hb e=>eb b o hb e) f0 f1 f3 f4 f5⟩
  ·rw[e] at st
   exact wpAny_pyNext_wide_end (I.ok.hd hc) st hx fun h' eb=>⟨rfl,I.turned (t':=s.toks) (fun b o hb e=>eb b o hb e) f0 f1 f3 f4 f5⟩
 self:=fun A i s Q E st h=>by
  rcases hty with e|e
  ·rw[e] at st;exact wpAny_pyIter_striter_ascii st h
  ·rw[e] at st;exact wpAny_pyIter_striter_wide st h
def HF(te:TE):TI:=fun σ H R=>te σ H fun v H1=>∃x,v=.str x/\R (nG x) H1
theorem zz{X:Cx}{tg e:Expr}{te:TE}(he:PE X e te):PI X tg e (HF te):=by
 intro pins s σ H R I h
 refine af (he pins s σ H _ I h) fun v s1 ⟨y,H1,I1,r1,x,ex,q⟩=>?_
 subst ex
 obtain⟨t,rfl⟩:=r1
 cases ha:x.cps.all (·<128)
 ·exact wpAny_pyIter_wide ha (p8 (tk:=s1.toks) I1 _ (zy _ x t "str_iterator" (.inr rfl)) ⟨_,Heap.get?_push_size _ rfl,rfl,rfl⟩ q)
 ·exact wpAny_pyIter_ascii ha (p8 (tk:=s1.toks) I1 _ (zy _ x t "str_ascii_iterator" (.inl rfl)) ⟨_,Heap.get?_push_size _ rfl,rfl,rfl⟩ q)
def jk(K:aD)(a:Addr):It:=
 ⟨fun i H=>∃(xs:List V) (x:V),aE K H a xs/\xs[i]? =some x,fun i H v H'=>∃T x,v=.ref T/\H T=none/\H'=upd H T (.tup [.int (i:Nat),x])/\∀xs,aE K H a xs->xs[i]? =some x,fun i H=>∃xs:List V,aE K H a xs/\xs.length<=i⟩
theorem HG{P:Program}{w:World}{K:aD}{elts:List Expr}{kk:Nat}{tpos:Pos}(a e it:Addr):
  Turn P w K (.Tuple elts kk tpos) (jk K a) [e,it] e (fun i h=>(∃old,IsEnum h e it ((i:Nat):Int) old)/\h.IsListIter it a i/\e≠it) where
 mem:=by simp
 obj:=fun i h st b hb=>by
  obtain⟨⟨old,he⟩,⟨o,ho,hc,hd⟩,_⟩:=st
  have e':b=e\/b=it:=by simpa using hb
  rcases e' with z|z
  ·rw[z];exact⟨_,he,fun v q=>nomatch q⟩
  ·rw[z];exact⟨o,ho,fun v q=>by rw[hd] at q;cases q⟩
 keep:=fun i h h' st k=>let⟨⟨old,he⟩,hi,hne⟩:=st;⟨⟨old,k e (by simp) _ he⟩,hi.at fun o q=>k it (by simp) o q,hne⟩
 item:=by
  intro X hP hw hK hc i pins s σ H E I hf st hg
  subst hP hw hK
  obtain⟨⟨old,he⟩,hit,hne⟩:=st
  obtain⟨xs,x,hq,hx⟩:=hg
  obtain⟨its,rv,p,hz⟩:=I.list hq
  obtain⟨u,hu,ru⟩:=rv.get hx
  have hel:e<s.heap.objs.size:=Heap.lt_size he
  have hil:it<s.heap.objs.size:=by obtain⟨_,q,_⟩:=hit;exact Heap.lt_size q
  refine wpAny_pyNext_enum_item he hit p.isList (x:=u) (by simpa using hu) hne fun h' ho hit' hT hsz hk=>?_
  refine⟨_,rfl,wpAny_letOwnedTupleGo_enum (s:={s with heap:=h',toks:=s.toks+1}) ho fun h'' he' sb=>?_⟩
  have hT2:h''.get? s.heap.objs.size=some {cls:=.type "tuple",data:=.seq #[.int i s.toks,u]}:=(sb.2 _ (Dl hel)).trans hT
  have new:dO X.prog X.w (upd H s.heap.objs.size (.tup [.int (i:Nat),x])) h'' s.heap.objs.size (.tup [.int (i:Nat),x]):=
   ⟨by show 2<=sizeLine;decide,[.int i s.toks,u],.cons ⟨_,rfl⟩ (.cons ru .nil),⟨_,hT2,rfl,_,rfl⟩⟩
  have I1:aH X pins σ (upd H s.heap.objs.size (.tup [.int (i:Nat),x])) {s with heap:=h'',toks:=s.toks+1}:=
   I.turnedNew (ch:=[e,it]) (fun b ob hb q=>(sb.2 b (fun z=>hb (by simp[z]))).trans (hk b ob (fun z=>hb (by simp[z])) (fun z=>hb (by simp[z])) q)) hf (aY _) new
  refine⟨.ref s.heap.objs.size,_,I1,rfl,⟨_,x,rfl,I.hok.fresh (aY _),rfl,fun ys hy=>by rw[I.list_inj hy hq];exact hx⟩,⟨⟨u,?_⟩,hit'.at fun o q=>(sb.2 it (Ne.symm hne)).trans q,hne⟩,fun b hb=>?_⟩
  ·have e1:((i+1:Nat):Int)=(i:Int)+1:=by omega
   rw[e1];exact he'
  ·have hb':b<s.heap.objs.size:=by
    have e':b=e\/b=it:=by simpa using hb
    rcases e' with z|z
    ·rw[z];exact hel
    ·rw[z];exact hil
   rw[aP (fG hb')]
   exact(hf b hb).1
 done:=by
  intro X hP hw hK hc i pins s σ H E I hf st hg
  subst hP hw hK
  obtain⟨⟨old,he⟩,hit,hne⟩:=st
  obtain⟨xs,hq,hx⟩:=hg
  obtain⟨its,rv,p,hz⟩:=I.list hq
  obtain⟨f0,f1,f2,f3,f4,f5⟩:=hf it (by simp)
  have hl:=rv.length
  exact wpAny_pyNext_enum_end (I.ok.hd hc) he hit p.isList (by simp;omega) fun h' eb=>⟨rfl,I.turned (t':=s.toks) (fun b o hb q=>eb b o hb q) f0 f1 f3 f4 f5⟩
 self:=fun A i s Q E st h=>let⟨⟨_,he⟩,_⟩:=st;wpAny_pyIter_enum he h
def HH(K:aD)(ta:TA):TI:=fun σ H R=>ta σ H fun vs H1=>∃a xs,vs=[.ref a]/\aE K H1 a xs/\R (jk K a) H1
theorem p9{X:Cx}{e:Expr}{ta:TA}{p pos tpos:Pos}{elts:List Expr}{kk:Nat}(hg:Gl X "enumerate")(hm:X.mg "enumerate"=none)(ha:PA X [e] ta)(hs:starEach [e] X.env=[(false,eval e X.env)]:=by rfl):
  PI X (.Tuple elts kk tpos) (.Call (.Name "enumerate" p) [e] [] pos) (HH X.K ta):=by
 intro pins s σ H R I h
 refine Call_ (j8 I hg hm boot_enumerate (mC (af (ha pos pins s σ H _ I h) fun us s1 ⟨vs,H1,I1,r1,q1⟩=>?_) hs rfl))
 obtain⟨a,xs,ex,hq,q⟩:=q1
 subst ex
 cases r1 with
 |cons r rr=>
  cases rr
  cases r
  obtain⟨its,rv,p',hz⟩:=I1.list hq
  refine call_enumerate_list p'.isList fun h' he hit hsz hk=>wpAny_pyIter_enum he ?_
  have I2:aH X pins σ H1 {s1 with heap:=h'}:=I1.kept (t':=s1.toks) hk
  refine⟨s1.heap.objs.size+1,[s1.heap.objs.size+1,s1.heap.objs.size],_,_,H1,rfl,I2,HG a (s1.heap.objs.size+1) s1.heap.objs.size,⟨⟨.none,he⟩,hit,Nat.succ_ne_self _⟩,fun b hb=>?_,q⟩
  have e':b=s1.heap.objs.size+1\/b=s1.heap.objs.size:=by simpa using hb
  have hle:s1.heap.objs.size<=b:=by
   rcases e' with z|z
   ·rw[z];exact oT _ _
   ·rw[z];exact aY _
  exact I1.fpOk hle (I1.hok.fresh hle)
theorem HI:bootBuiltins "zip"=some (.type "zip"):=by decide+kernel
def nH(K:aD)(a b:Addr):It:=
 ⟨fun i H=>∃(xs ys:List V) (x y:V),aE K H a xs/\aE K H b ys/\xs[i]? =some x/\ys[i]? =some y,
  fun i H v H'=>∃T x y,v=.ref T/\H T=none/\H'=upd H T (.tup [x,y])/\(∀xs,aE K H a xs->xs[i]? =some x)/\∀ys,aE K H b ys->ys[i]? =some y,
  fun i H=>∃xs ys:List V,aE K H a xs/\aE K H b ys/\(xs.length<=i\/ys.length<=i)⟩
theorem HJ{P:Program}{w:World}{K:aD}{elts:List Expr}{kk:Nat}{tpos:Pos}{a b z TI TO i1 i2:Addr}(D:ZipApart z TI TO i1 i2 a b):
  Turn P w K (.Tuple elts kk tpos) (nH K a b) [z,TI,TO,i1,i2] z (fun i h=>IsZip h z TI TO .none/\IsPair h TI (.ref i1) (.ref i2)/\(∃x y,IsPair h TO x y)/\h.IsListIter i1 a i/\h.IsListIter i2 b i) where
 mem:=by simp
 obj:=fun i h st c hc=>by
  obtain⟨hz,hTI,⟨x,y,hTO⟩,⟨o1,e1,_,d1⟩,⟨o2,e2,_,d2⟩⟩:=st
  have e':c=z\/c=TI\/c=TO\/c=i1\/c=i2:=by simpa using hc
  rcases e' with q|q|q|q|q
  ·rw[q];exact⟨_,hz,fun v q=>nomatch q⟩
  ·rw[q];exact⟨_,hTI,fun v q=>nomatch q⟩
  ·rw[q];exact⟨_,hTO,fun v q=>nomatch q⟩
  ·rw[q];exact⟨o1,e1,fun v q=>by rw[d1] at q;cases q⟩
  ·rw[q];exact⟨o2,e2,fun v q=>by rw[d2] at q;cases q⟩
 keep:=fun i h h' st k=>by
  obtain⟨hz,hTI,⟨x,y,hTO⟩,h1,h2⟩:=st
  exact⟨k z (by simp) _ hz,k TI (by simp) _ hTI,⟨x,y,k TO (by simp) _ hTO⟩,h1.at fun o q=>k i1 (by simp) o q,h2.at fun o q=>k i2 (by simp) o q⟩
 item:=by
  intro X hP hw hK hc i pins s σ H E I hf st hg
  subst hP hw hK
  obtain⟨hz,hTI,⟨x0,y0,hTO⟩,h1,h2⟩:=st
  obtain⟨xs,ys,x,y,hqx,hqy,hx,hy⟩:=hg
  obtain⟨its,rv,p,_⟩:=I.list hqx
  obtain⟨its2,rv2,p2,_⟩:=I.list hqy
  obtain⟨u,hu,ru⟩:=rv.get hx
  obtain⟨u2,hu2,ru2⟩:=rv2.get hy
  have hzl:z<s.heap.objs.size:=Heap.lt_size hz
  refine wpAny_pyNext_zip_item D hz hTI hTO h1 h2 p.isList p2.isList (x:=u) (y:=u2) (by simpa using hu) (by simpa using hu2) fun h' z' TO' h1' h2' hT hsz hk=>?_
  refine⟨_,rfl,wpAny_letOwnedTupleGo_zip (s:={s with heap:=h'}) z' fun h'' z'' sb=>?_⟩
  have hT2:h''.get? s.heap.objs.size=some {cls:=.type "tuple",data:=.seq #[u,u2]}:=(sb.2 _ (Dl hzl)).trans hT
  have new:dO X.prog X.w (upd H s.heap.objs.size (.tup [x,y])) h'' s.heap.objs.size (.tup [x,y]):=
   ⟨by show 2<=sizeLine;decide,[u,u2],.cons ru (.cons ru2 .nil),⟨_,hT2,rfl,_,rfl⟩⟩
  have I1:aH X pins σ (upd H s.heap.objs.size (.tup [x,y])) {s with heap:=h''}:=
   I.turnedNew (t':=s.toks) (ch:=[z,TI,TO,i1,i2]) (fun c o hb q=>(sb.2 c (fun q'=>hb (by simp[q']))).trans (hk c o (fun q'=>hb (by simp[q'])) (fun q'=>hb (by simp[q'])) (fun q'=>hb (by simp[q'])) (fun q'=>hb (by simp[q'])) q)) hf (aY _) new
  refine⟨.ref s.heap.objs.size,_,I1,rfl,⟨_,x,y,rfl,I.hok.fresh (aY _),rfl,fun l hl=>by rw[I.list_inj hl hqx];exact hx,fun l hl=>by rw[I.list_inj hl hqy];exact hy⟩,⟨z'',?_,⟨u,u2,?_⟩,?_,?_⟩,fun c hcm=>?_⟩
  ·exact(sb.2 _ D.TIz).trans (hk _ _ D.TIz D.TITO D.TIi1 D.TIi2 hTI)
  ·exact(sb.2 _ D.TOz).trans TO'
  ·exact h1'.at fun o q=>(sb.2 _ D.i1z).trans q
  ·exact h2'.at fun o q=>(sb.2 _ D.i2z).trans q
  ·have hlt:c<s.heap.objs.size:=by
    have e':c=z\/c=TI\/c=TO\/c=i1\/c=i2:=by simpa using hcm
    rcases e' with q|q|q|q|q
    ·rw[q];exact hzl
    ·rw[q];exact Heap.lt_size hTI
    ·rw[q];exact Heap.lt_size hTO
    ·rw[q];obtain⟨_,e1,_⟩:=h1;exact Heap.lt_size e1
    ·rw[q];obtain⟨_,e2,_⟩:=h2;exact Heap.lt_size e2
   rw[aP (fG hlt)]
   exact(hf c hcm).1
 done:=by
  intro X hP hw hK hc i pins s σ H E I hf st hg
  subst hP hw hK
  obtain⟨hz,hTI,⟨x0,y0,hTO⟩,h1,h2⟩:=st
  obtain⟨xs,ys,hqx,hqy,hend⟩:=hg
  obtain⟨its,rv,p,_⟩:=I.list hqx
  obtain⟨its2,rv2,p2,_⟩:=I.list hqy
  have l1:=rv.length
  have l2:=rv2.length
  have he:its.toArray[i]? =none\/its2.toArray[i]? =none:=by
   rcases hend with q|q
   ·exact .inl (by simp;omega)
   ·exact .inr (by simp;omega)
  exact wpAny_pyNext_zip_end (I.ok.hd hc) D hz hTI hTO h1 h2 p.isList p2.isList he fun h' hk=>⟨rfl,I.turnedL (t':=s.toks) (ch:=[z,TI,TO,i1,i2]) (fun c o hb q=>
   hk c o (fun q'=>hb (by simp[q'])) (fun q'=>hb (by simp[q'])) (fun q'=>hb (by simp[q'])) (fun q'=>hb (by simp[q'])) q) hf⟩
 self:=fun A i s Q E st h=>wpAny_pyIter_zip st.1 h
def HK(K:aD)(ta:TA):TI:=fun σ H R=>ta σ H fun vs H1=>∃a b xs ys,vs=[.ref a,.ref b]/\aE K H1 a xs/\aE K H1 b ys/\R (nH K a b) H1
theorem HL{X:Cx}{e e2:Expr}{ta:TA}{p pos tpos:Pos}{elts:List Expr}{kk:Nat}(hg:Gl X "zip")(hm:X.mg "zip"=none)(ha:PA X [e,e2] ta)
  (hs:starEach [e,e2] X.env=(false,eval e X.env)::starEach [e2] X.env:=by rfl)(hpl:(backTo pos (starEach [e2] X.env)).any (·.1)=false:=by rfl):
  PI X (.Tuple elts kk tpos) (.Call (.Name "zip" p) [e,e2] [] pos) (HK X.K ta):=by
 intro pins s σ H R I h
 refine Call_ (j8 I hg hm HI (mC (af (ha pos pins s σ H _ I h) fun us s1 ⟨vs,H1,I1,r1,q1⟩=>?_) hs hpl))
 obtain⟨a,b,xs,ys,ex,hqx,hqy,q⟩:=q1
 subst ex
 cases r1 with
 |cons r rr=>
  cases rr with
  |cons r' rr=>
   cases rr
   cases r
   cases r'
   obtain⟨its,rv,p1,_⟩:=I1.list hqx
   obtain⟨its2,rv2,p2,_⟩:=I1.list hqy
   have la:a<s1.heap.objs.size:=p1.lt
   have lb:b<s1.heap.objs.size:=p2.lt
   refine call_zip_2 p1.isList p2.isList fun h' hz hTI hTO h1 h2 hsz hk=>wpAny_pyIter_zip hz ?_
   have I2:aH X pins σ H1 {s1 with heap:=h'}:=I1.kept (t':=s1.toks) hk
   refine⟨s1.heap.objs.size+4,[s1.heap.objs.size+4,s1.heap.objs.size+2,s1.heap.objs.size+3,s1.heap.objs.size,s1.heap.objs.size+1],_,_,H1,rfl,I2,HJ (PySem.W.ktu_apart s1.heap.objs.size a b la lb),⟨hz,hTI,⟨_,_,hTO⟩,h1,h2⟩,fun c hcm=>?_,q⟩
   have e':c=s1.heap.objs.size+4\/c=s1.heap.objs.size+2\/c=s1.heap.objs.size+3\/c=s1.heap.objs.size\/c=s1.heap.objs.size+1:=by simpa using hcm
   have hle:s1.heap.objs.size<=c:=by
    rcases e' with z|z|z|z|z
    ·rw[z];exact oT _ _
    ·rw[z];exact oT _ _
    ·rw[z];exact oT _ _
    ·rw[z];exact aY _
    ·rw[z];exact oT _ _
   exact I1.fpOk hle (I1.hok.fresh hle)
end L2
namespace L2
open PySem PySem.Spec PyProof.Rows
def inClass(s:Stmt)(j:Nat):Stmt:=match s with
 |.ClassDef _ _ _ body _ _ _ _ _ _ _=>body.getD j (.Pass ⟨0,0,0,0⟩)
 |_=>.Pass ⟨0,0,0,0⟩
def iN(s:Stmt):Arguments:=match s with
 |.FunctionDef _ a _ _ _ _ _ _ _ _=>a
 |_=>{posonlyargs:=[],args:=[],vararg:=none,kwonlyargs:=[],kw_defaults:=[],kwarg:=none,defaults:=[]}
def fU(s:Stmt):List Stmt:=match s with
 |.FunctionDef _ _ b _ _ _ _ _ _ _=>b
 |_=>[]
def aQ(s:Stmt):Scope:=match s with
 |.FunctionDef _ _ _ _ _ _ sc _ _ _=>sc
 |_=>{kind:=.function,names:=[],isGenerator:=false,isCoroutine:=false}
abbrev eT:iK:=fun _ _ _ _ _ _=>False
abbrev E0:XK:=fun _ _ _=>False
theorem kU{X:Cx}:jN eT X E0:=fun _ _ _ _ _ _ _ h=>h.elim
structure fV (K:aD) (x qual:Str) (st:Stmt) (f:Addr) (fd:FuncData):Prop where
 ex:∃(oc:Value) (od:Option Addr) (kV doc pm:Value) (an:Option Addr) (cdv ct:Value) (osl:Array (Option Value)),
  fd=hU x qual (iN st) (fU st) (aQ st) .none kV doc pm an cdv ct/\K.lookup f=some ⟨oc,od,.func fd,osl⟩/\mB K cdv qual=true
 kp:hJ K (.ref f)=true
section
variable{P:Program}{w:World}{K:aD}{mg:Str->Option Value}{base:Heap}
theorem fV.ok{x qual:Str}{st:Stmt}{f:Addr}{fd:FuncData}{N ps:List Str}{k:Nat}{sp:Sp}(F:fV K x qual st f fd)(S:aZ N ps (aQ st))(len:∀vs H Q E,sp vs H Q E->vs.length=ps.length)
  (hbody:∀(cdv:Value) (A:Around) (outer:List Env) (s:Shared) (H:Hp) (vs:List V) (Q:VK) (E:XK),bh k (A.deeper (envOfC qual (aQ st) s.heap.objs.size f cdv))->sp vs H Q E->
   ∃t,eY (jd eT P w K mg base N qual (aQ st) f cdv A outer s H E).nox (fU st) t/\t {nx:=fun _ H'=>Q .non H',rt:=Q} (start N vs) H):dB P w K mg base eT (k+1) f fd ps sp:=by
 obtain⟨oc,od,kV,doc,pm,an,cdv,ct,osl,rfl,lk,hcd⟩:=F.ex
 refine GT lk hcd S len fun A outer s H vs Q E hr hsp=>?_
 obtain⟨t,h,q⟩:=hbody cdv A outer s H vs Q E hr hsp
 exact⟨t,h.nox,q⟩
theorem fV.binds{x qual:Str}{st:Stmt}{f:Addr}{fd:FuncData}{ps:List Str}(F:fV K x qual st f fd)
  (h:∀(kV doc pm:Value) (an:Option Addr) (cdv ct:Value) (us:List Value),us.length=ps.length->bindArgs (hU x qual (iN st) (fU st) (aQ st) .none kV doc pm an cdv ct) ⟨us,[]⟩=pure (ps.zip us)):Binds K fd ps []:=by
 obtain⟨oc,od,kV,doc,pm,an,cdv,ct,osl,rfl,lk,hcd⟩:=F.ex
 exact .all (h kV doc pm an cdv ct)
theorem pb{x qual:Str}{st:Stmt}{f:Addr}{oc:Value}{od an:Option Addr}{osl:Array (Option Value)}{kV doc pm cdv ct:Value}(l:K.lookup f=some ⟨oc,od,.func (hU x qual (iN st) (fU st) (aQ st) .none kV doc pm an cdv ct),osl⟩)
  (c:mB K cdv qual=true)(k:hJ K (.ref f)=true):fV K x qual st f (hU x qual (iN st) (fU st) (aQ st) .none kV doc pm an cdv ct):=⟨⟨oc,od,kV,doc,pm,an,cdv,ct,osl,rfl,l,c⟩,k⟩
end
section
variable{X:Cx}
theorem pv(i:Nat){x:Str}{pos:Pos}(hN:X.N[i]? =some x:=by rfl)(hv:kJ X.env.scope x:=by first|exact aJ rfl|exact gQ (aJ rfl)|exact gQ (gQ rfl))(hd:(x==("__debug__":Str))=false:=by decide)
  (hcd:(x==("__classdict__":Str))=false:=by decide):PE X (.Name x pos) (ax i):=yj hN hv hd hcd
end
theorem ir{A B:Prop}(h:B):if false=true then A else B:=by
 rw[if_neg dQ]
 exact h
theorem kW{A B:Prop}(h:A):if true=true then A else B:=by
 rw[if_pos rfl]
 exact h
theorem aU{c A B:Prop} [Decidable c](h1:c->A)(h2:¬c->B):if c then A else B:=by
 by_cases h:c
 ·rw[if_pos h]
  exact h1 h
 ·rw[if_neg h]
  exact h2 h
def aA(H H':Hp):Prop:=∀b o,H b=some o->H' b=some o
theorem aA.refl(H:Hp):aA H H:=fun _ _ h=>h
theorem aA.trans{H H1 H2:Hp}(a:aA H H1)(b:aA H1 H2):aA H H2:=fun c o h=>b c o (a c o h)
theorem aA.free{H H':Hp}(e:aA H H'){l:Addr}(h:H' l=xh):H l=xh:=by
 cases q:H l with
 |none=>rfl
 |some o=>
  rw[e l o q] at h
  cases h
theorem aA.seq{K:aD}{H H':Hp}{a:Addr}{xs:List V}(e:aA H H')(h:aE K H a xs):aE K H' a xs:=by
 rcases h with(h|⟨o,h⟩)|h
 ·exact .inl (.inl (e _ _ h))
 ·exact .inl (.inr ⟨o,e _ _ h⟩)
 ·exact .inr h
theorem at_of{xs:List V}{z:Int}{j:Nat}{v:V}(e:z=(j:Int))(h:xs[j]? =some v):jO xs z=some v:=by
 rw[e]
 exact ah h
theorem aA.made{H H1:Hp}{x dx C:Addr}(nx:H x=xh)(nd:H dx=xh)(k:∀b o,(upd (upd H dx (.own x)) x (.ins C dx [])) b=some o->b≠x->H1 b=some o):aA H H1:=fun b o e=>
 k b o (by rw[aP (ae e nx),aP (ae e nd)];exact e) (ae e nx)
end L2
section
namespace L2
open PySem PySem.Spec PyProof.Rows
open PySem.W (WData Codec OpenSpec Well WellAll ReadsW ReadsAllW)
mutual
inductive Dw (K:aD) (H:Hp):V->WData->Prop
 |non:Dw K H .non .none
 |bl (b:Bool):Dw K H (.bl b) (.bool b)
 |int (i:Int):Dw K H (.int i) (.int i)
 |str (x:Str):Dw K H (.str x) (.str x)
 |byt (b:Array UInt8):Dw K H (.byt b) (.bytes b.toList)
 |lst {a:Addr} {xs:List V} {ds:List WData}:aE K H a xs->g7 K H xs ds->Dw K H (.ref a) (.list ds)
 |tup {a:Addr} {xs:List V} {ds:List WData}:aW K H a xs->g7 K H xs ds->Dw K H (.ref a) (.tuple ds)
inductive g7 (K:aD) (H:Hp):List V->List WData->Prop
 |nil:g7 K H [] []
 |cons {v:V} {vs:List V} {d:WData} {ds:List WData}:Dw K H v d->g7 K H vs ds->g7 K H (v::vs) (d::ds)
end
theorem AA{K:aD}{H:Hp}:∀ns:List Int,g7 K H (ns.map V.int) (ns.map WData.int)
 |[]=>.nil
 |n::r=>.cons (.int n) (AA r)
theorem AB{K:aD}{H:Hp}:∀(ns:List Int) (xs:List V),g7 K H xs (ns.map WData.int)->xs=ns.map V.int
 |[],xs,h=>by
  cases h
  rfl
 |n::r,xs,h=>by
  cases h with
  |cons h1 h2=>
   cases h1
   rw[AB r _ h2]<;>rfl
section
variable{P:Program}{w:World}{K:aD}{H:Hp}{h:Heap}{R:M4}{cl:Str->Option Addr}
theorem HM{a:Addr}{xs:List V}(hok:cN P w H h)(KX:K.In h)(q:aE K H a xs):∃(its:List Value) (o:Obj) (n:Nat),ab xs its/\h.get? a=some o/\o.cls=.type "list"/\o.data=.seq its.toArray n:=by
 rcases q with q|⟨o,its,n,e,hc,_,hd,_,hv⟩
 ·obtain⟨_,its,n,hv,e⟩:=(show dO P w H h a (.lst xs) from q.ok hok)
  exact⟨its,_,n,hv,e,rfl,rfl⟩
 ·exact⟨its.toList,o,n,hv,KX _ _ e,hc,by simp[hd]⟩
theorem HN{a:Addr}{xs:List V}(hok:cN P w H h)(KX:K.In h)(q:aW K H a xs):∃(its:List Value) (o:Obj) (n:Nat),ab xs its/\h.get? a=some o/\o.cls=.type "tuple"/\o.data=.seq its.toArray n:=by
 rcases q with q|⟨o,its,n,e,hc,hd,_,hv⟩
 ·obtain⟨_,its,hv,o,e,hc,n,hd⟩:=(show dO P w H h a (.tup xs) from q.ok hok)
  exact⟨its,o,n,hv,e,hc,hd⟩
 ·exact⟨its.toList,o,n,hv,KX _ _ e,hc,by simp[hd]⟩
mutual
theorem Dw.reads(hok:cN P w H h)(KX:K.In h):∀(d:WData) (v:V) (u:Value),Dw K H v d->RelV v u->∃as,ReadsW R cl h u d as
 |.none,_,_,x,r=>by
  cases x
  cases r
  exact⟨_,ReadsW.none⟩
 |.bool b,_,_,x,r=>by
  cases x
  cases r
  exact⟨_,ReadsW.bool b⟩
 |.int i,_,_,x,r=>by
  cases x
  obtain⟨t,rfl⟩:=r
  exact⟨_,ReadsW.int i t⟩
 |.str s,_,_,x,r=>by
  cases x
  obtain⟨t,rfl⟩:=r
  exact⟨_,ReadsW.str s t⟩
 |.bytes b,_,_,x,r=>by
  cases x
  obtain⟨t,rfl⟩:=r
  exact⟨_,ReadsW.bytes _ t⟩
 |.list ds,_,_,x,r=>by
  cases x with
  |lst hs ha=>
   cases r
   obtain⟨its,o,n,rv,ho,hc,hd⟩:=HM hok KX hs
   obtain⟨as,hr⟩:=Dw.readsAll hok KX ds _ its ha rv
   exact⟨_,ReadsW.list ho hc hd hr⟩
 |.tuple ds,_,_,x,r=>by
  cases x with
  |tup hs ha=>
   cases r
   obtain⟨its,o,n,rv,ho,hc,hd⟩:=HN hok KX hs
   obtain⟨as,hr⟩:=Dw.readsAll hok KX ds _ its ha rv
   exact⟨_,ReadsW.tuple ho hc hd hr⟩
 |.float _,_,_,x,_=>by cases x
 |.dict _,_,_,x,_=>by cases x
 |.bytearray _,_,_,x,_=>by cases x
 |.set _,_,_,x,_=>by cases x
 |.frozenset _,_,_,x,_=>by cases x
 |.obj _ _,_,_,x,_=>by cases x
theorem Dw.readsAll(hok:cN P w H h)(KX:K.In h):∀(ds:List WData) (vs:List V) (us:List Value),g7 K H vs ds->ab vs us->∃as,ReadsAllW R cl h us ds as
 |[],_,_,x,r=>by
  cases x
  cases r
  exact⟨_,ReadsAllW.nil⟩
 |d::ds,_,_,x,r=>by
  cases x with
  |cons h1 h2=>
   cases r with
   |cons r1 r2=>
    obtain⟨as,q1⟩:=Dw.reads hok KX d _ _ h1 r1
    obtain⟨bs,q2⟩:=Dw.readsAll hok KX ds _ _ h2 r2
    exact⟨_,ReadsAllW.cons q1 q2⟩
end
end
mutual
def fW:WData->Bool
 |.none=>true
 |.bool _=>true
 |.int _=>true
 |.str _=>true
 |.bytes _=>true
 |.list xs=>g8 xs
 |.tuple xs=>g8 xs
 |_=>false
def g8:List WData->Bool
 |[]=>true
 |x::r=>fW x&&g8 r
end
theorem AC{α:Type}{f:α->WData}(h:∀a,fW (f a)=true):∀l:List α,g8 (l.map f)=true
 |[]=>rfl
 |x::r=>by
  show(fW (f x)&&g8 (r.map f))=true
  rw[h x,AC h r]<;>rfl
theorem jl:∀(c:Codec) (a:c.denote),fW (c.enc a)=true
 |.unit,_=>rfl
 |.bool,_=>rfl
 |.int _ _,_=>rfl
 |.nat _ _,_=>rfl
 |.u8,_=>rfl
 |.bytes _ _,_=>rfl
 |.text _ _ _ _,_=>rfl
 |.list _ _ c,a=>AC (fun x=>jl c x) a
 |.pair c d,a=>by
  show(fW (c.enc a.1)&&(fW (d.enc a.2)&&true))=true
  rw[jl c a.1,jl d a.2]<;>rfl
 |.triple c d e,a=>by
  show(fW (c.enc a.1)&&(fW (d.enc a.2.1)&&(fW (e.enc a.2.2)&&true)))=true
  rw[jl c a.1,jl d a.2.1,jl e a.2.2]<;>rfl
 |.option c,none=>rfl
 |.option c,some x=>jl c x
theorem AD:∀(cs:List Codec) (a:Codec.denoteAll cs),g8 (Codec.encAll cs a)=true
 |[],_=>rfl
 |c::cs,a=>by
  show(fW (c.enc a.1)&&g8 (Codec.encAll cs a.2))=true
  rw[jl c a.1,AD cs a.2]<;>rfl
theorem uN:∀{xs:List WData} {d:WData},d∈xs->d.weight<=WData.weightAll xs
 |[],d,h=>absurd h (by simp)
 |x::r,d,h=>by
  show d.weight<=x.weight+1+WData.weightAll r
  rcases bc.mp h with e|m
  ·rw[e]
   omega
  ·have z:=uN m
   omega
def toV:Value->V
 |.none=>.non
 |.bool b=>.bl b
 |.int i _=>.int i
 |.str x _=>.str x
 |.bytes b _=>.byt b
 |.ref a=>.ref a
 |_=>.non
def gG(A:List Addr):Value->Prop
 |.none=>True
 |.bool _=>True
 |.int _ _=>True
 |.str _ _=>True
 |.bytes _ _=>True
 |.ref a=>a∈A
 |_=>False
theorem gG.mono{A B:List Addr}(h:∀a∈A,a∈B):∀{u:Value},gG A u->gG B u:=fun{u} x=>by
 cases u with
 |ref a=>exact h a x
 |none=>trivial
 |bool b=>trivial
 |int i t=>trivial
 |str s t=>trivial
 |bytes b t=>trivial
 |_=>exact fH x
theorem HP{A:List Addr}{u:Value}(x:gG A u):RelV (toV u) u:=by
 cases u with
 |ref a=>rfl
 |none=>rfl
 |bool b=>rfl
 |int i t=>exact⟨t,rfl⟩
 |str s t=>exact⟨t,rfl⟩
 |bytes b t=>exact⟨t,rfl⟩
 |_=>exact fH x
theorem lQ{A:List Addr}:∀{vs:List Value},(∀u∈vs,gG A u)->ab (vs.map toV) vs
 |[],_=>.nil
 |u::r,h=>.cons (HP (h u (bY ..))) (lQ fun x hx=>h x (ba _ hx))
def g9(h:Heap)(A:List Addr)(a:Addr):Prop:=∃vs:List Value,vs.length<=sizeLine/\(∀u∈vs,gG A u)/\
 (h.get? a=some {cls:=.type "list",data:=.seq vs.toArray}\/h.get? a=some {cls:=.type "tuple",data:=.seq vs.toArray})
theorem g9.mono{h:Heap}{A B:List Addr}{a:Addr}(k:∀a∈A,a∈B)(x:g9 h A a):g9 h B a:=by
 obtain⟨vs,h1,h2,h3⟩:=x
 exact⟨vs,h1,fun u hu=>(h2 u hu).mono k,h3⟩
theorem ph{P:Params}{h:Heap}:∀{vs:List Value} {ds:List WData},WellAll P h vs ds->vs.length=ds.length
 |_,_,.nil=>rfl
 |_,_,.cons _ b=>by
  show _+1=_+1
  rw[ph b]
theorem AE{P:Params}{h:Heap}{v:Value}{ds:List WData}(x:Well P h v (.list ds)):∃(a:Addr) (vs:List Value),v=.ref a/\h.get? a=some {cls:=.type "list",data:=.seq vs.toArray}/\WellAll P h vs ds:=by
 cases x with
 |list ho hall=>exact⟨_,_,rfl,ho,hall⟩
theorem AF{P:Params}{h:Heap}{v:Value}{ds:List WData}(x:Well P h v (.tuple ds)):∃(a:Addr) (vs:List Value),v=.ref a/\h.get? a=some {cls:=.type "tuple",data:=.seq vs.toArray}/\WellAll P h vs ds:=by
 cases x with
 |tuple ho hall=>exact⟨_,_,rfl,ho,hall⟩
theorem AG{P:Params}{h:Heap}{us:List Value}{d:WData}{ds:List WData}(x:WellAll P h us (d::ds)):∃(v:Value) (vs:List Value),us=v::vs/\Well P h v d/\WellAll P h vs ds:=by
 cases x with
 |cons a b=>exact⟨_,_,rfl,a,b⟩
theorem AH{n:Nat}(h:n<=1048576):n<=sizeLine:=bW h (by decide)
section
variable{P:Params}{h:Heap}
mutual
theorem HQ:∀(d:WData) (v:Value),Well P h v d->fW d=true->d.weight<=1048576->∃A:List Addr,gG A v/\∀a∈A,g9 h A a
 |.none,_,x,_,_=>by
  cases x
  exact⟨[],trivial,fun a m=>absurd m (by simp)⟩
 |.bool b,_,x,_,_=>by
  cases x
  exact⟨[],trivial,fun a m=>absurd m (by simp)⟩
 |.int i,_,x,_,_=>by
  cases x
  exact⟨[],trivial,fun a m=>absurd m (by simp)⟩
 |.str s,_,x,_,_=>by
  cases x
  exact⟨[],trivial,fun a m=>absurd m (by simp)⟩
 |.bytes b,_,x,_,_=>by
  cases x
  exact⟨[],trivial,fun a m=>absurd m (by simp)⟩
 |.list ds,_,x,p,z=>by
  obtain⟨a,vs,rfl,ho,hall⟩:=AE x
  have z2:WData.weightAll ds<=1048576:=z
  obtain⟨A,h1,h2⟩:=pj ds _ hall p fun d hd=>bW (uN hd) z2
  have k:∀b∈A,b∈a::A:=fun b hb=>ba _ hb
  refine⟨a::A,bY ..,fun b hb=>?_⟩
  rcases bc.mp hb with e|m
  ·rw[e]
   exact⟨vs,AH (by rw[ph hall];exact bW (M5 ds) z2),fun u hu=>(h1 u hu).mono k,.inl ho⟩
  ·exact(h2 b m).mono k
 |.tuple ds,_,x,p,z=>by
  obtain⟨a,vs,rfl,ho,hall⟩:=AF x
  have z2:WData.weightAll ds<=1048576:=z
  obtain⟨A,h1,h2⟩:=pj ds _ hall p fun d hd=>bW (uN hd) z2
  have k:∀b∈A,b∈a::A:=fun b hb=>ba _ hb
  refine⟨a::A,bY ..,fun b hb=>?_⟩
  rcases bc.mp hb with e|m
  ·rw[e]
   exact⟨vs,AH (by rw[ph hall];exact bW (M5 ds) z2),fun u hu=>(h1 u hu).mono k,.inr ho⟩
  ·exact(h2 b m).mono k
 |.float _,_,_,p,_=>hW (show false=true from p)
 |.dict _,_,_,p,_=>hW (show false=true from p)
 |.bytearray _,_,_,p,_=>hW (show false=true from p)
 |.set _,_,_,p,_=>hW (show false=true from p)
 |.frozenset _,_,_,p,_=>hW (show false=true from p)
 |.obj _ _,_,_,p,_=>hW (show false=true from p)
theorem pj:∀(ds:List WData) (vs:List Value),WellAll P h vs ds->g8 ds=true->(∀d∈ds,d.weight<=1048576)->∃A:List Addr,(∀u∈vs,gG A u)/\∀a∈A,g9 h A a
 |[],_,x,_,_=>by
  cases x
  exact⟨[],fun u m=>absurd m (by simp),fun a m=>absurd m (by simp)⟩
 |d::ds,_,x,p,z=>by
  obtain⟨v,vs,rfl,x1,x2⟩:=AG x
  have q:fW d=true/\g8 ds=true:=xQ.mp p
  obtain⟨A,a1,a2⟩:=HQ d v x1 q.1 (z d (bY ..))
  obtain⟨B,b1,b2⟩:=pj ds vs x2 q.2 fun e he=>z e (ba _ he)
  have kA:∀b∈A,b∈A++B:=fun b hb=>dD.mpr (.inl hb)
  have kB:∀b∈B,b∈A++B:=fun b hb=>dD.mpr (.inr hb)
  refine⟨A++B,fun u hu=>?_,fun b hb=>?_⟩
  ·rcases bc.mp hu with e|m
   ·rw[e]
    exact a1.mono kA
   ·exact(b1 u m).mono kB
  ·rcases dD.mp hb with m|m
   ·exact(a2 b m).mono kA
   ·exact(b2 b m).mono kB
end
end
def pq(o:Obj):Option HO:=match o.data with
 |.seq vs _=>if(o.cls==Value.type "list")=true then some (.frz o (.lst (vs.toList.map toV))) else some (.frz o (.tup (vs.toList.map toV)))
 |_=>none
def dm(K:aD)(h:Heap)(A:List Addr):Hp:=fun b=>if b∈A then(if(K.lookup b).isNone=true then(h.get? b).bind pq else none) else none
def nI(H:Hp):Prop:=∀b,H b=none\/∃o u,H b=some (.frz o u)
theorem AI(vs:List Value):pq {cls:=.type "list",data:=.seq vs.toArray}=some (.frz {cls:=.type "list",data:=.seq vs.toArray} (.lst (vs.map toV))):=by
 show(if(Value.type "list"==Value.type "list")=true then some (HO.frz {cls:=.type "list",data:=.seq vs.toArray} (.lst (vs.toArray.toList.map toV))) else some (HO.frz {cls:=.type "list",data:=.seq vs.toArray} (.tup (vs.toArray.toList.map toV))))=_
 rw[if_pos (beq_self_eq_true _)]
theorem AJ(vs:List Value):pq {cls:=.type "tuple",data:=.seq vs.toArray}=some (.frz {cls:=.type "tuple",data:=.seq vs.toArray} (.tup (vs.map toV))):=by
 show(if(Value.type "tuple"==Value.type "list")=true then some (HO.frz {cls:=.type "tuple",data:=.seq vs.toArray} (.lst (vs.toArray.toList.map toV))) else some (HO.frz {cls:=.type "tuple",data:=.seq vs.toArray} (.tup (vs.toArray.toList.map toV))))=_
 rw[if_neg (by decide)]
section
variable{P:Program}{w:World}{K:aD}{h:Heap}{A:List Addr}
theorem qA{b:Addr}{o:Obj}(hb:b∈A)(hk:K.lookup b=none)(e:h.get? b=some o):dm K h A b=pq o:=by
 unfold dm
 rw[if_pos hb,hk,if_pos (show(none:Option Obj).isNone=true from rfl),e]<;>rfl
theorem HR{b:Addr}{u:HO}(q:dm K h A b=some u):b∈A/\K.lookup b=none:=by
 unfold dm at q
 by_cases hb:b∈A
 ·rw[if_pos hb] at q
  cases hk:K.lookup b with
  |none=>exact⟨hb,rfl⟩
  |some o=>
   rw[hk,if_neg (by simp)] at q
   cases q
 ·rw[if_neg hb] at q
  cases q
theorem qB (ar : ∀ a ∈ A, g9 h A a) {b : Addr} {u : HO} (q : dm K h A b = some u) : K.lookup b = none ∧ ∃ vs : List Value, vs.length ≤ sizeLine ∧ (∀ u ∈ vs, gG A u) ∧
    ((h.get? b = some { cls := .type "list", data := .seq vs.toArray } ∧ u = .frz { cls := .type "list", data := .seq vs.toArray } (.lst (vs.map toV))) ∨
     (h.get? b = some { cls := .type "tuple", data := .seq vs.toArray } ∧ u = .frz { cls := .type "tuple", data := .seq vs.toArray } (.tup (vs.map toV)))) := by
  obtain ⟨hb, hk⟩ := HR q
  obtain ⟨vs, h1, h2, h3⟩ := ar b hb
  refine ⟨hk, vs, h1, h2, ?_⟩
  rcases h3 with e | e
  · rw [qA hb hk e, AI] at q
    exact .inl ⟨e, (bL q).symm⟩
  · rw [qA hb hk e, AJ] at q
    exact .inr ⟨e, (bL q).symm⟩
theorem HS(ar:∀a∈A,g9 h A a):nI (dm K h A):=fun b=>by
 cases q:dm K h A b with
 |none=>exact .inl rfl
 |some u=>
  obtain⟨_,vs,_,_,⟨_,e⟩|⟨_,e⟩⟩:=qB ar q
  ·exact .inr ⟨_,_,by rw[e]⟩
  ·exact .inr ⟨_,_,by rw[e]⟩
theorem HU(ar:∀a∈A,g9 h A a):cN P w (dm K h A) h:=fun b u q=>by
 obtain⟨_,vs,h1,h2,⟨e,rfl⟩|⟨e,rfl⟩⟩:=qB ar q
 ·exact⟨e,by rw[aL];exact h1,vs,_,lQ h2,e⟩
 ·exact⟨e,by rw[aL];exact h1,vs,lQ h2,_,e,rfl,_,rfl⟩
theorem qC{c c':Value}{vs us:List Value}(e:(some {cls:=c,data:=.seq vs.toArray}:Option Obj)=some {cls:=c',data:=.seq us.toArray}):c=c'/\vs=us:=by
 have e1:=bL e
 have e2:c=c':=congrArg Obj.cls e1
 have e3:Data.seq vs.toArray=Data.seq us.toArray:=congrArg Obj.data e1
 injection e3 with e4
 refine⟨e2,?_⟩
 have e5:=congrArg Dk e4
 simpa using e5
theorem HV(KX:K.In h)(ar:∀a∈A,g9 h A a){a:Addr}{vs:List Value}(ha:a∈A)(e:h.get? a=some {cls:=.type "list",data:=.seq vs.toArray}):(∀u∈vs,gG A u)/\aE K (dm K h A) a (vs.map toV):=by
 obtain⟨us,h1,h2,h3⟩:=ar a ha
 have hu:us=vs:=by
  rcases h3 with q|q
  ·rw[e] at q
   exact(qC q).2.symm
  ·rw[e] at q
   exact absurd (Value.type.inj (qC q).1) (by decide)
 subst hu
 refine⟨h2,?_⟩
 cases hk:K.lookup a with
 |none=>exact .inl (.inr ⟨_,by rw[qA ha hk e,AI]⟩)
 |some o=>
  have e2:=KX a o hk
  rw[e] at e2
  obtain rfl:=bL e2
  exact .inr ⟨_,us.toArray,_,hk,rfl,rfl,rfl,by rw[br];exact h1,by simpa using lQ h2⟩
theorem HW(KX:K.In h)(ar:∀a∈A,g9 h A a){a:Addr}{vs:List Value}(ha:a∈A)(e:h.get? a=some {cls:=.type "tuple",data:=.seq vs.toArray}):(∀u∈vs,gG A u)/\aW K (dm K h A) a (vs.map toV):=by
 obtain⟨us,h1,h2,h3⟩:=ar a ha
 have hu:us=vs:=by
  rcases h3 with q|q
  ·rw[e] at q
   exact absurd (Value.type.inj (qC q).1) (by decide)
  ·rw[e] at q
   exact(qC q).2.symm
 subst hu
 refine⟨h2,?_⟩
 cases hk:K.lookup a with
 |none=>exact .inl (.inr ⟨_,by rw[qA ha hk e,AJ]⟩)
 |some o=>
  have e2:=KX a o hk
  rw[e] at e2
  obtain rfl:=bL e2
  exact .inr ⟨_,us.toArray,_,hk,rfl,rfl,by rw[br];exact h1,by simpa using lQ h2⟩
mutual
theorem HX{Pm:Params}(KX:K.In h)(ar:∀a∈A,g9 h A a):∀(d:WData) (v:Value),Well Pm h v d->fW d=true->gG A v->Dw K (dm K h A) (toV v) d
 |.none,_,x,_,_=>by
  cases x
  exact .non
 |.bool b,_,x,_,_=>by
  cases x
  exact .bl b
 |.int i,_,x,_,_=>by
  cases x
  exact .int i
 |.str s,_,x,_,_=>by
  cases x
  exact .str s
 |.bytes b,_,x,_,_=>by
  cases x
  have z:=Dw.byt (K:=K) (H:=dm K h A) b.toArray
  exact z
 |.list ds,_,x,p,hu=>by
  obtain⟨a,vs,rfl,ho,hall⟩:=AE x
  obtain⟨h2,hs⟩:=HV KX ar hu ho
  exact .lst hs (qD KX ar ds _ hall p h2)
 |.tuple ds,_,x,p,hu=>by
  obtain⟨a,vs,rfl,ho,hall⟩:=AF x
  obtain⟨h2,hs⟩:=HW KX ar hu ho
  exact .tup hs (qD KX ar ds _ hall p h2)
 |.float _,_,_,p,_=>hW (show false=true from p)
 |.dict _,_,_,p,_=>hW (show false=true from p)
 |.bytearray _,_,_,p,_=>hW (show false=true from p)
 |.set _,_,_,p,_=>hW (show false=true from p)
 |.frozenset _,_,_,p,_=>hW (show false=true from p)
 |.obj _ _,_,_,p,_=>hW (show false=true from p)
theorem qD{Pm:Params}(KX:K.In h)(ar:∀a∈A,g9 h A a):∀(ds:List WData) (vs:List Value),WellAll Pm h vs ds->g8 ds=true->(∀u∈vs,gG A u)->g7 K (dm K h A) (vs.map toV) ds
 |[],_,x,_,_=>by
  cases x
  exact .nil
 |d::ds,_,x,p,hu=>by
  obtain⟨v,vs,rfl,x1,x2⟩:=AG x
  have q:fW d=true/\g8 ds=true:=xQ.mp p
  exact .cons (HX KX ar d v x1 q.1 (hu _ (bY ..))) (qD KX ar ds vs x2 q.2 fun u m=>hu u (ba _ m))
end
end
theorem HY{P:Program}{w:World}{K:aD}{mg mb:Str->Option Value}{CX:iK}{k:Nat}{fa:Addr}{fd:FuncData}{ps:List Str}{sp:Sp}{s₁:Shared}{vals:List Value}{ds:List WData}{R:M4}{cl:Str->Option Addr}{d0:WData}
  (KX:K.In s₁.heap)(hns:s₁.heap.Ns mainGlobals mg)(hb:s₁.heap.Ns builtinsNs mb)(hbb:∀x:Str,x≠"__name__"->mb x=bootBuiltins x)(hlim:s₁.heap.NoLimit)(hg:s₁.gens= #[])
  (hwl:WellAll w.params s₁.heap vals ds)(hpl:g8 ds=true)(hwt:∀d∈ds,d.weight<=1048576)(hr:bh k callerA)
  (F:∀base:Heap,K.In base->base.Ns mainGlobals mg->dB P w K mg base CX k fa fd ps sp)(hbind:∀(s:Shared) (us:List Value),us.length=ps.length->BindsTo s fd ⟨us,[]⟩ (ps.zip us))(hlen:ds.length=ps.length)
  (hsp:∀(H:Hp) (xs:List V),nI H->g7 K H xs ds->sp xs H (fun v H'=>Dw K H' v d0) fun _ _ _=>False)
  (hCX:∀H e s',CX [] H s₁ (fun _ _ _=>False) e s'->False):
  codeAny (model P w) callerA (.call (.ref fa) ⟨vals,[]⟩) (fun r s'=>∃u as,r=.ok (.ret u)/\ReadsW R cl s'.heap u d0 as/\OldK s₁.heap s'.heap/\s'.os=s₁.os/\AllBare s'.gens) s₁:=by
 obtain⟨A,ho,ar⟩:=pj ds vals hwl hpl hwt
 have hO:nI (dm K s₁.heap A):=HS ar
 have hok:cN P w (dm K s₁.heap A) s₁.heap:=HU ar
 have hS:=qD KX ar ds vals hwl hpl ho
 have hV:=lQ ho
 have hK:∀b u,dm K s₁.heap A b=some u->K.lookup b=none:=fun b u q=>(qB ar q).1
 have noA:∀{b:Addr} {o:Obj} {es:Array DictEntry} {ep:Nat},s₁.heap.get? b=some o->o.data=.dict es ep->dm K s₁.heap A b=none:=fun{b o es ep} e d=>by
  cases q:dm K s₁.heap A b with
  |none=>rfl
  |some u=>
   obtain⟨_,vs,_,_,⟨e2,_⟩|⟨e2,_⟩⟩:=qB ar q
   ·rw[e2] at e
    cases e
    have d':Data.seq vs.toArray _=Data.dict es ep:=d
    cases d'
   ·rw[e2] at e
    cases e
    have d':Data.seq vs.toArray _=Data.dict es ep:=d
    cases d'
 generalize dm K s₁.heap A=H at hO hok hS hK noA
 have base_of:∀{b:Addr} {o:Obj},s₁.heap.get? b=some o->H b=none->(jG s₁.heap H).get? b=some o:=fun e n=>F7 e n
 have nsK:∀{b:Addr} {m:Str->Option Value},s₁.heap.Ns b m->(jG s₁.heap H).Ns b m:=fun{b m} ⟨o,es,ep,e,d,r⟩=>⟨o,es,ep,base_of e (noA e d),d,r⟩
 have nK:∀b o,K.lookup b=some o->H b=none:=fun b o e=>by
  cases q:H b with
  |none=>rfl
  |some u=>
   rw[hK b u q] at e
   cases e
 have hKb:K.In (jG s₁.heap H):=fun b o e=>base_of (KX b o e) (nK b o e)
 have hM:Mod K mg (jG s₁.heap H):=⟨hKb,nsK hns,⟨mb,nsK hb,hbb⟩,let⟨mc,h1,h2⟩:=hlim;⟨mc,nsK h1,h2⟩⟩
 have e0:kS P w K mg (jG s₁.heap H) callerA [] s₁ H:=⟨rfl,hM,fun b o e=>F8 e,xY (F6 _ _),trivial,fun b hb=>absurd (show b∈([]:List Addr) from hb) (by simp),hok,.of_eq hg⟩
 have hl:vals.length=ps.length:=by rw[ph hwl];exact hlen
 refine codeAny_mono ((F _ hKb (nsK hns)).run callerA [] s₁ H ⟨vals,[]⟩ vals (vals.map toV) _ _ hr e0 (hbind s₁ vals hl) hV (hsp H _ hO hS)) fun r s' x=>?_
 cases r with
 |error e=>exact(hCX H e s' x).elim
 |ok fl=>
  cases fl with
  |next=>exact fH x
  |brk=>exact fH x
  |cont=>exact fH x
  |ret u=>
   obtain⟨v,H',os,bare,un,hok',r',q⟩:=x
   have kept:∀b o,s₁.heap.get? b=some o->s'.heap.get? b=some o:=fun b o e=>by
    cases q2:H b with
    |none=>exact un.keep b o e q2 (by intro z;exact absurd (show b∈([]:List Addr) from z) (by simp)) (by simp)
    |some u2=>
     rcases hO b with z|⟨ob,u3,z⟩
     ·rw[q2] at z
      cases z
     ·have z2:=un.frzs b ob _ z
      obtain⟨e1,_⟩:=hok b _ z
      obtain⟨e2,_⟩:=hok' b _ z2
      rw[e] at e1
      cases e1
      exact e2
   have KX':K.In s'.heap:=fun b o e=>kept b o (KX b o e)
   obtain⟨as,hrd⟩:=Dw.reads (R:=R) (cl:=cl) hok' KX' d0 v u q r'
   exact⟨u,as,rfl,hrd,OldK.of_keep kept,os,bare⟩
theorem HZ{ds:List WData}(h:WData.layableAll ds=true):∀d∈ds,d.weight<=1048576:=fun d hd=>
 (PySem.W.layableW_iff.mp (cJ.mp h d hd)).2.2
theorem AK:∀(cs:List Codec) (a:Codec.denoteAll cs),(Codec.encAll cs a).length=cs.length
 |[],_=>rfl
 |c::cs,a=>by
  show(Codec.encAll cs a.2).length+1=cs.length+1
  rw[AK cs a.2]
theorem Hc{r:OpenSpec}{k:Nat}{q:Program}{loose:List Str}{XP:(Str->Option Value)->Heap->Prop}{YP:World->Heap->Prop}{d:DefRec}{K:Params->aD}{CX:World->iK}{ps:List Str}{sp:World->Sp}
  (hwell:r.wellSaid=true)(hdf:d.params.defaults=[])(hlen:r.args.length=ps.length)(hr:bh k callerA)
  (hY:∀(w:World) (h:Heap),YP w h->(K w.params).In h)
  (F:∀(w:World) (mg:Str->Option Value) (fa:Addr) (h:Heap),YP w h->(K w.params).In h->h.Ns mainGlobals mg->mg d.name=some (.ref fa)->
   ∃fd:FuncData,(∀(s:Shared) (us:List Value),us.length=ps.length->BindsTo s fd ⟨us,[]⟩ (ps.zip us))/\
    ∀base:Heap,(K w.params).In base->base.Ns mainGlobals mg->dB r.prog w (K w.params) mg base (CX w) k fa fd ps (sp w))
  (hsp:∀(w:World) (H:Hp) (xs:List V) (a:Codec.denoteAll r.args),nI H->Codec.withinAll r.args a=true->Codec.app r.args r.asked a=true->g7 (K w.params) H xs (Codec.encAll r.args a)->
   sp w xs H (fun v H'=>Dw (K w.params) H' v (r.ret.enc (Codec.app r.args r.f a))) fun _ _ _=>False)
  (hCX:∀(w:World) (H:Hp) (s:Shared) (e:Value) (s':Shared),CX w [] H s (fun _ _ _=>False) e s'->False):
  M6 q loose XP YP r d [] (fun f vs=>PySem.call f vs):=by
 intro w s_0 s₁ mg mb G Y fa o pm cd doc dV kV ho hd hcd hD hmg hg args vals as hpre hlay hrd hwl hlo
 obtain⟨a,e1,e2⟩:=PySem.W.os_pre_some hpre
 obtain⟨e3,hwi⟩:=Codec.encAll_of_decAll r.args args a e1
 subst e3
 have KX:=hY w _ Y
 obtain⟨fd,hb,hF⟩:=F w mg fa _ Y KX G.T.g hmg
 refine PySem.W.enter_call (codeAny_mono (HY (R:=[]) (cl:=classAt s_0.heap) (d0:=r.ret.enc (Codec.app r.args r.f a)) KX G.T.g G.T.b G.T.builtins G.T.nolimit hg hwl (AD _ _) (HZ hlay) hr hF hb (by rw[AK];exact hlen)
  (fun H xs hO hS=>hsp w H xs a hO hwi e2 hS) fun H e s'=>hCX w H s₁ e s') fun r' s' hq=>?_)
 obtain⟨u,as',rfl,h1,h2,h3,h4⟩:=hq
 exact⟨.inl ⟨u,_,as',rfl,fun _=>rfl,h1,(OpenSpec.post_iff hwell hwi _ _).mpr rfl,fun z=>hW (show false=true from z)⟩,h2,h3,h4⟩
theorem Hd{r:OpenSpec}{k:Nat}{q:Program}{loose:List Str}{XP:(Str->Option Value)->Heap->Prop}{YP:World->Heap->Prop}{d:DefRec}{K:Params->aD}{CX:iK}{ps:List Str}{sp:aD->Sp}
  (hwell:r.wellSaid=true)(hdf:d.params.defaults=[])(hlen:r.args.length=ps.length)(hr:bh k callerA)
  (hY:∀(w:World) (h:Heap),YP w h->(K w.params).In h)
  (F:∀(w:World) (mg:Str->Option Value) (fa:Addr) (h:Heap),YP w h->(K w.params).In h->h.Ns mainGlobals mg->mg d.name=some (.ref fa)->
   ∃fd:FuncData,(∀(s:Shared) (us:List Value),us.length=ps.length->BindsTo s fd ⟨us,[]⟩ (ps.zip us))/\
    ∀base:Heap,(K w.params).In base->base.Ns mainGlobals mg->dB r.prog w (K w.params) mg base CX k fa fd ps (sp (K w.params)))
  (hsp:∀(K:aD) (H:Hp) (xs:List V) (a:Codec.denoteAll r.args),nI H->Codec.withinAll r.args a=true->Codec.app r.args r.asked a=true->g7 K H xs (Codec.encAll r.args a)->
   sp K xs H (fun v H'=>Dw K H' v (r.ret.enc (Codec.app r.args r.f a))) fun _ _ _=>False)
  (hCX:∀(H:Hp) (s:Shared) (e:Value) (s':Shared),CX [] H s (fun _ _ _=>False) e s'->False):
  M6 q loose XP YP r d [] (fun f vs=>PySem.call f vs):=
 Hc (K:=K) (CX:=fun _=>CX) (sp:=fun w=>sp (K w.params)) hwell hdf hlen hr hY F (fun w H xs a h1 h2 h3 h4=>hsp (K w.params) H xs a h1 h2 h3 h4) fun _ H s e s'=>hCX H s e s'
end L2
end
namespace Dt
open PySem PySem.Spec PyProof.Rows L2
def top(i:Nat):Stmt:=PySem.Challenge.pw_drawntogether_s01_answers.main.body.getD i (.Pass ⟨0,0,0,0⟩)
abbrev uO:Stmt:=top 8
abbrev uP:Stmt:=top 9
abbrev qE:Stmt:=top 10
abbrev qF:Stmt:=top 11
abbrev uQ:Stmt:=top 12
abbrev uR:Stmt:=top 13
abbrev uS:Stmt:=top 14
abbrev uT:Stmt:=top 15
abbrev uU:Stmt:=top 16
abbrev uV:Stmt:=top 17
abbrev uW:Stmt:=top 18
abbrev qG:Stmt:=top 24
abbrev uX:Stmt:=top 25
abbrev uY:Stmt:=top 26
abbrev uZ:Stmt:=top 27
abbrev u0:Stmt:=inClass (top 28) 0
abbrev u7:Stmt:=inClass (top 28) 1
abbrev qH:Stmt:=inClass (top 28) 2
abbrev u9:Stmt:=top 29
abbrev qI:Stmt:=top 30
abbrev qJ:Stmt:=top 31
abbrev qK:Stmt:=top 32
abbrev ua:Stmt:=top 34
abbrev ub:Stmt:=top 35
abbrev uc:Stmt:=top 36
abbrev ud:Stmt:=top 37
abbrev ue:Stmt:=top 38
abbrev ug:Stmt:=inClass (top 40) 0
abbrev qL:Stmt:=inClass (top 40) 1
abbrev uh:Stmt:=top 41
abbrev ui:Stmt:=top 42
abbrev qM:Stmt:=top 43
abbrev nJ:Stmt:=top 44
abbrev uj:Stmt:=top 45
abbrev uk:Stmt:=inClass (top 46) 0
abbrev um:Stmt:=inClass (top 46) 1
abbrev uo:Stmt:=inClass (top 46) 2
abbrev uq:Stmt:=inClass (top 46) 3
abbrev ur:Stmt:=inClass (top 46) 4
abbrev uu:Stmt:=top 47
abbrev uv:Stmt:=top 48
abbrev qN:Stmt:=top 49
abbrev nL:Stmt:=top 50
abbrev uw:Stmt:=top 51
abbrev ux:Stmt:=top 63
abbrev uz:Stmt:=top 64
abbrev vC:Stmt:=top 65
abbrev vD:Stmt:=top 66
abbrev vE:Stmt:=top 67
abbrev vF:Stmt:=top 68
abbrev vG:Stmt:=top 69
abbrev vH:Stmt:=inClass (top 70) 0
abbrev vI:Stmt:=inClass (top 70) 1
abbrev vJ:Stmt:=inClass (top 70) 2
abbrev vK:Stmt:=inClass (top 70) 3
abbrev vL:Stmt:=inClass (top 70) 4
abbrev vM:Stmt:=inClass (top 70) 5
abbrev vN:Stmt:=inClass (top 70) 6
abbrev vO:Stmt:=inClass (top 70) 7
abbrev vP:Stmt:=inClass (top 70) 8
abbrev vQ:Stmt:=inClass (top 70) 9
abbrev vR:Stmt:=inClass (top 70) 10
abbrev vS:Stmt:=inClass (top 70) 11
abbrev vT:Stmt:=top 71
abbrev nM:Stmt:=top 72
abbrev qO:Stmt:=top 73
abbrev qP:Stmt:=top 74
abbrev vU:Stmt:=top 75
abbrev vV:Stmt:=top 76
abbrev vW:Stmt:=top 77
abbrev vX:Stmt:=inClass (top 87) 0
abbrev vY:Stmt:=top 88
abbrev qQ:Stmt:=top 89
abbrev vZ:Stmt:=top 90
abbrev v5:Stmt:=top 91
abbrev v7:Stmt:=top 92
abbrev v8:Stmt:=top 93
abbrev v9:Stmt:=top 94
abbrev qR:Stmt:=top 95
abbrev vc:Stmt:=top 96
abbrev ve:Stmt:=top 97
abbrev vf:Stmt:=top 98
abbrev vg:Stmt:=top 99
abbrev vh:Stmt:=top 100
abbrev vi:Stmt:=top 101
abbrev vj:Stmt:=top 105
abbrev qS:Stmt:=top 106
abbrev jm:Stmt:=top 107
section
variable(P:Program)(w:World)(K:aD)(mg:Str->Option Value)(base:Heap)
structure aK (x:Str) (k:Nat) (ps:List Str) (sp:Sp):Prop where
 ex:∃(f:Addr) (fd:FuncData),mg x=some (.ref f)/\hJ K (.ref f)=true/\Binds K fd ps []/\dB P w K mg base eT k f fd ps sp
end
section
variable{X:Cx}{x:Str}{k:Nat}{ps:List Str}{sp:Sp}{p pos:Pos}{e:Expr}{es:List Expr}{t:TA}
theorem pc(C:aK X.prog X.w X.K X.mg X.base x k ps sp)(hr:bh k X.A)(ha:PA X (e::es) t)(hg:Gl X x:=by rfl)(hdb:(x==("__debug__":Str))=false:=by decide)
  (he:starEach (e::es) X.env=(false,eval e X.env)::starEach es X.env:=by rfl)(hpl:(backTo pos (starEach es X.env)).any (·.1)=false:=by rfl):
  PE X (.Call (.Name x p) (e::es) [] pos) (jc sp [] E0 t):=by
 obtain⟨f,fd,h1,h2,h3,h4⟩:=C.ex
 exact GM h4 hr hg h1 h2 h3 .nil kU ha hdb he hpl
theorem He(C:aK X.prog X.w X.K X.mg X.base x k ps sp)(hr:bh k X.A)(hg:Gl X x:=by rfl)(hdb:(x==("__debug__":Str))=false:=by decide):
  PE X (.Call (.Name x p) [] [] pos) (jc sp [] E0 cK):=by
 obtain⟨f,fd,h1,h2,h3,h4⟩:=C.ex
 exact GN h4 hr hg h1 h2 h3 .nil kU hdb
theorem cA{te:TE}(he:PE X e te)(hw:∀whole,isTrue e X.env whole=(do let v<-whole;standAt e.pos;holding [v] (truthy v)):=by intro _;rfl):PT X e (tB te):=Fb he hw
end
def vb(b:UInt8):V:=.int (b.toNat:Int)
def ai(K:aD)(H:Hp)(v:V)(n:List UInt8):Prop:=∃a,v=.ref a/\aW K H a (n.map vb)
theorem Hg{a b:UInt8}(h:vb a=vb b):a=b:=by
 have h1:(a.toNat:Int)=(b.toNat:Int):=V.int.inj h
 exact Dy.mp (by omega)
theorem aA.tup{K:aD}{H H':Hp}{a:Addr}{xs:List V}(e:aA H H')(h:aW K H a xs):aW K H' a xs:=by
 rcases h with(h|⟨o,h⟩)|h
 ·exact .inl (.inl (e _ _ h))
 ·exact .inl (.inr ⟨o,e _ _ h⟩)
 ·exact .inr h
theorem aA.upd{H:Hp}{p:Addr}{o:HO}(hp:H p=none):aA H (upd H p o):=fun b u e=>by rw[aP (ae e hp)];exact e
theorem ai.same{K:aD}{H H':Hp}{v:V}{n:List UInt8}(h:ai K H v n)(e:aA H H'):ai K H' v n:=by
 obtain⟨a,rfl,q⟩:=h
 exact⟨a,rfl,aA.tup e q⟩
def dN(n:List UInt8):PyData:=.tuple (n.map fun b=>.int (b.toNat:Int))
theorem AL{K:aD}{H:Hp}:∀n:List UInt8,fR K H (n.map vb) (n.map fun b=>PyData.int (b.toNat:Int))
 |[]=>.nil
 |b::r=>.cons (.int _) (AL r)
theorem ai.dp{K:aD}{H:Hp}{v:V}{n:List UInt8}(h:ai K H v n):Dp K H v (dN n):=by
 obtain⟨a,rfl,q⟩:=h
 exact .tup q (AL n)
theorem AM:∀n m:List UInt8,PyData.eqvAll (n.map fun b=>PyData.int (b.toNat:Int)) (m.map fun b=>PyData.int (b.toNat:Int))=decide (n=m)
 |[],[]=>rfl
 |[],_::_=>rfl
 |_::_,[]=>rfl
 |a::n,b::m=>by
  show(((a.toNat:Int)==(b.toNat:Int))&&PyData.eqvAll _ _)=_
  rw[AM n m,ck,ag,beq_iff_eq,decide_eq_true_iff,decide_eq_true_iff]
  constructor
  ·rintro⟨h1,h2⟩
   rw[Dy.mp (show a.toNat=b.toNat by omega),h2]
  ·intro h
   injection h with h1 h2
   exact⟨by rw[h1],h2⟩
theorem vk(n m:List UInt8):PyData.eqv (dN n) (dN m)=decide (n=m):=AM n m
theorem eA(n:List UInt8):SeqAt.shaped (dN n)=true:=by
 have h1:∀n:List UInt8,PyData.canLayAll0 (n.map fun b=>PyData.int (b.toNat:Int))=true:=by
  intro n
  induction n with
  |nil=>rfl
  |cons b r ih=>show(true&&_)=true;rw[ih];rfl
 have h2:∀n:List UInt8,PyData.depthAll (n.map fun b=>PyData.int (b.toNat:Int))<=1:=by
  intro n
  induction n with
  |nil=>decide
  |cons b r ih=>exact Nat.max_le.mpr ⟨bF 1,ih⟩
 show(PyData.canLay0 (dN n)&&decide (PyData.depth (dN n)<=64))=true
 rw[ag,decide_eq_true_iff]
 refine⟨h1 n,?_⟩
 have:=h2 n
 show PyData.depthAll _+1<=64
 omega
theorem fX{K:aD}{H:Hp}{Q:VK}{x y:V}{n m:List UInt8}(hx:ai K H x n)(hy:ai K H y m)(h:Q (.bl (decide (n=m))) H):uB K x y H Q:=
 ⟨_,_,hx.dp,hy.dp,eA n,eA m,by rw[vk];exact h⟩
theorem kX{K:aD}{H:Hp}{Q:VK}{x y:V}{n m:List UInt8}(hx:ai K H x n)(hy:ai K H y m)(h:Q (.bl (!decide (n=m))) H):uC K x y H Q:=
 ⟨_,_,hx.dp,hy.dp,eA n,eA m,by rw[vk];exact h⟩
structure fY (K:aD) (mg:Str->Option Value) (x:Str) (n:List UInt8):Prop where
 ex:∃a,mg x=some (.ref a)/\∀H,aW K H a (n.map vb)
def AN(K:aD)(n:List UInt8):TE:=fun _ H Q=>∀v,(∀H',ai K H' v n)->Q v H
theorem bT{X:Cx}{x:Str}{n:List UInt8}{pos:Pos}(C:fY X.K X.mg x n)(hg:Gl X x:=by rfl)(hd:(x==("__debug__":Str))=false:=by decide):PE X (.Name x pos) (AN X.K n):=by
 obtain⟨a,h1,h2⟩:=C.ex
 intro pins s σ H Q I h
 exact tQ (v:=.ref a) hg h1 rfl hd pins s σ H Q I (h (.ref a) fun H'=>⟨a,rfl,h2 H'⟩)
structure aO (K:aD) (mg:Str->Option Value) (x:Str) (st:Stmt):Prop where
 ex:∃(f:Addr) (fd:FuncData),mg x=some (.ref f)/\fV K x x st f fd
theorem fS{N P:List Str}{sc:Scope}(a:sc.kind=.function:=by rfl)(b:sc.isCoroutine=false:=by rfl)(c:sc.isGenerator=false:=by rfl)(d:N.Nodup:=by decide+kernel)(e:N.take P.length=P:=by rfl)(f:∀x∈P,sc.names.lookup x=some .local\/sc.names.lookup x=some .cell:=by decide+kernel)(g:∀y∈sc.names,y.2≠ .free:=by decide+kernel):aZ N P sc:=⟨a,b,c,d,e,f,g⟩
theorem aO.cal{P:Program}{w:World}{K:aD}{mg:Str->Option Value}{base:Heap}{x:Str}{st:Stmt}{N ps:List Str}{k:Nat}{sp:Sp}(D:aO K mg x st)(S:aZ N ps (aQ st))
  (len:∀vs H Q E,sp vs H Q E->vs.length=ps.length)
  (hbody:∀(f:Addr) (cdv:Value) (A:Around) (outer:List Env) (s:Shared) (H:Hp) (vs:List V) (Q:VK) (E:XK),bh k (A.deeper (envOfC x (aQ st) s.heap.objs.size f cdv))->sp vs H Q E->
   ∃t,eY (jd eT P w K mg base N x (aQ st) f cdv A outer s H E).nox (fU st) t/\t {nx:=fun _ H'=>Q .non H',rt:=Q} (start N vs) H)
  (hb:∀(kV doc pm:Value) (an:Option Addr) (cdv ct:Value) (us:List Value),us.length=ps.length->bindArgs (hU x x (iN st) (fU st) (aQ st) .none kV doc pm an cdv ct) ⟨us,[]⟩=pure (ps.zip us):=by first|(exact fun _ _ _ _ _ _ us hl=>match us,hl with|[_],_=>rfl)|(exact fun _ _ _ _ _ _ us hl=>match us,hl with|[_,_],_=>rfl)|(exact fun _ _ _ _ _ _ us hl=>match us,hl with|[_,_,_],_=>rfl)|(exact fun _ _ _ _ _ _ us hl=>match us,hl with|[_,_,_,_],_=>rfl)|(exact fun _ _ _ _ _ _ us hl=>match us,hl with|[],_=>rfl)):aK P w K mg base x (k+1) ps sp:=by
 obtain⟨f,fd,h1,F⟩:=D.ex
 exact⟨f,fd,h1,F.kp,F.binds hb,F.ok S len (hbody f)⟩
end Dt
namespace HT
open PySem PyProof.Rows
section
variable{prog:Program}{w:World}{A:Around}{E:Value->Shared->Prop}{s:Shared}
theorem Hh{t sl:Addr}{items:Array Value}{vl vu:Value}{lo hi:Option Int}{Q:Value->Shared->Prop}(ht:IsTup s.heap t items)(hs:s.heap.IsSliceOf sl vl vu .none)(pl:IsPart vl lo)(pu:IsPart vu hi)
  (hw:aq items.size 0 lo=0/\aq items.size items.size hi=items.size)(h:Q (.ref t) s):wpAny (model prog w) A (getItem (.ref t) (.ref sl)) Q E s:=by
 obtain⟨os,hos,hcs,hds⟩:=id hs
 have hTs:s.TypeIs (.ref sl) "slice":=⟨os,hos,hcs⟩
 unfold getItem
 try with_reducible refine wpAny_holding ?_
 first|refine wpAny_bind (wpAny_pure ?_)|skip
 refine wpAny_bind (wpAny_sequenceKey ht.typeIs (by decide) ?_)
 refine wpAny_bind (wpAny_callSpecial?_slot (name:=Str.ofString "__getitem__") ht.typeIs x9
  (wpAny_call_entry x9 ht.typeIs entry_tuple_getitem ?_ (args_tuple_getitem _ _)))
 show wpAny _ _ (Builtin.Tuple.tupleItemsOf (.ref t)>>=_) _ _ s
 refine wpAny_bind (tupleItemsOf_ ht ?_)
 refine wpAny_bind (wpAny_typeOf hTs ?_)
 rw[if_pos (by decide)]
 refine wpAny_bind (z5 hs pl pu ?_)
 have hyes:(((aq items.size 0 lo:Nat):Int)==0&&(1:Int)==1&&(aq items.size items.size hi-aq items.size 0 lo)==items.size)=true:=by
  rw[hw.1,hw.2]
  simp
 show wpAny _ _ (if(((aq items.size 0 lo:Nat):Int)==0&&(1:Int)==1&&(aq items.size items.size hi-aq items.size 0 lo)==items.size)=true then _ else _) _ _ s
 rw[if_pos hyes]
 unfold Builtin.Tuple.tupleIsExact
 refine wpAny_bind (wpAny_bind (wpAny_typeOf ht.typeIs (wpAny_pure ?_)))
 rw[if_pos (by decide)]
 exact wpAny_bind (wpAny_rule (wpAny_pure ⟨_,rfl,wpAny_pure h⟩))
end
end HT
namespace Dt
open PySem PySem.Spec PyProof.Rows L2
section
variable{X:Cx}
def Hi(K:aD):V->Option Int->Option Int->Hp->VK->Prop:=fun x lo hi H Q=>∃a xs,x=.ref a/\aW K H a xs/\∀b H',aA H H'->aW K H' b (cW xs lo hi)->Q (.ref b) H'
theorem AO:pT X (Hi X.K):=by
 intro pins s σ H x v vl vu lo hi sl Q I rx hs pl pu h
 obtain⟨a,xs,rfl,hx,q⟩:=h
 by_cases hw:HT.aq xs.length 0 lo=0/\HT.aq xs.length xs.length hi=xs.length
 ·cases rx
  obtain⟨its,r,ht,hz⟩:=I.tuple hx
  have hlen:its.toArray.size=xs.length:=by rw[br];exact r.length.symm
  refine⟨"tuple",_,PyProof.Rows.slot_tuple_getitem.lookup,ht.typeIs,?_⟩
  refine HT.Hh ht hs pl pu (by rw[hlen];exact hw) ⟨.ref a,H,I,rfl,q a H (aA.refl H) ?_⟩
  have e:cW xs lo hi=xs:=by
   unfold cW
   rw[hw.1,hw.2,l9,xV,cQ]
  rw[e]
  exact hx
 ·exact G2 pins s σ H (.ref a) v vl vu lo hi sl Q I rx hs pl pu ⟨a,xs,rfl,hx,hw,fun p hp=>q p _ (aA.upd hp) (aW.of aF)⟩
end
section
variable{X:Cx}
theorem in1_units{A:Around}(h:A.units+65<cLine):A.in1.units+64<cLine:=by
 show A.units+1+64<cLine
 omega
noncomputable def gc(h:Heap)(d:PyData)(u:Value):Bool:=@decide (∃e as,Reads h u e as/\PyData.eqv e d=true) (Dz _)
theorem vm{h:Heap}{d e:PyData}{u:Value}{as:List Addr}(r:Reads h u e as)(hs:SeqAt.shaped e=true):gc h d u=PyData.eqv e d:=by
 unfold gc
 cases q:PyData.eqv e d with
 |true=>exact @decide_eq_true _ (Dz _) ⟨e,as,r,q⟩
 |false=>
  refine @decide_eq_false _ (Dz _) ?_
  rintro⟨e',as',r',q'⟩
  have z:=PySem.Reads.unique r e' as' r'
  rw[<-z.1,q] at q'
  cases q'
theorem readsAll_mem{h:Heap}:∀{us:List Value} {ds:List PyData} {as:List Addr},ReadsAll h us ds as->∀u∈us,∃d as',d∈ds/\Reads h u d as'
 |_,_,_,.nil=>fun u hu=>by cases hu
 |_,_,_,.cons r t=>fun u hu=>by
  rcases bc.mp hu with rfl|hu
  ·exact⟨_,_,bY,r⟩
  ·obtain⟨d,as',h1,h2⟩:=readsAll_mem t u hu
   exact⟨d,as',ba _ h1,h2⟩
theorem vo{h:Heap}{d:PyData}:∀{us:List Value} {ds:List PyData} {as:List Addr},ReadsAll h us ds as->ds.all SeqAt.shaped=true->us.any (gc h d)=ds.any fun e=>PyData.eqv e d
 |_,_,_,.nil,_=>rfl
 |_,_,_,.cons r t,f=>by
  rw[bx,ag] at f
  rw[iY,iY,vm r f.1,vo t f.2]
theorem AQ{h:Heap}{d:PyData}:∀{us:List Value} {ds:List PyData} {as:List Addr},ReadsAll h us ds as->ds.all SeqAt.shaped=true->us.countP (gc h d)=ds.countP fun e=>PyData.eqv e d
 |_,_,_,.nil,_=>rfl
 |_,_,_,.cons r t,f=>by
  rw[bx,ag] at f
  rw[EA,EA,vm r f.1,AQ t f.2]
theorem vp{A:Around}{s:Shared}{d:PyData}{v:Value}{bs:List Addr}(rv:Reads s.heap v d bs)(sd:SeqAt.shaped d=true)(hu:A.units+65<cLine){us:List Value}{ds:List PyData}{as:List Addr}(ru:ReadsAll s.heap us ds as)(f:ds.all SeqAt.shaped=true):
  ∀u∈us,SeqAt.EqAt A.in1 s u v (gc s.heap d u):=fun u hm=>by
 obtain⟨e,as',he,re⟩:=readsAll_mem ru u hm
 have se:SeqAt.shaped e=true:=cJ.mp f e he
 rw[vm re se]
 exact SeqAt.eqAt_reads e d A.in1 s u v _ _ re rv (SeqAt.canLay_of_shaped se) (SeqAt.canLay_of_shaped sd) (SeqAt.room_of_shaped se (in1_units hu))
def qT(K:aD):R2:=fun x y H Q=>∃p xs d ds,y=.ref p/\(aE K H p xs\/aW K H p xs)/\Dp K H x d/\fR K H xs ds/\SeqAt.shaped d=true/\ds.all SeqAt.shaped=true/\Q (.bl (ds.any fun e=>PyData.eqv e d)) H
theorem nN(hu:X.A.units+65<cLine):cV X (compareOp .In) (qT X.K):=by
 intro pins s σ H x y v u Q I rx ry h
 obtain⟨p,xs,d,ds,rfl,hq,hd,hds,sd,sds,q⟩:=h
 obtain⟨as,rd⟩:=Dp.reads I d x v hd rx
 cases ry
 rcases hq with hq|hq
 ·obtain⟨its,r,pl,hz⟩:=I.list hq
  obtain⟨bs,ru⟩:=Dp.readsAll I ds xs its hds r
  refine SeqAt.in_listAt (gc s.heap d) pl.isList (fun w hw=>vp rd sd hu ru sds w (by simpa using hw)) ⟨.bl _,H,I,rfl,?_⟩
  rw[show its.toArray.any (gc s.heap d)=its.any (gc s.heap d) by simp,vo ru sds]
  exact q
 ·obtain⟨its,r,pl,hz⟩:=I.tuple hq
  obtain⟨bs,ru⟩:=Dp.readsAll I ds xs its hds r
  refine SeqAt.in_tupleAt (gc s.heap d) pl (fun w hw=>vp rd sd hu ru sds w (by simpa using hw)) ⟨.bl _,H,I,rfl,?_⟩
  rw[show its.toArray.any (gc s.heap d)=its.any (gc s.heap d) by simp,vo ru sds]
  exact q
def Hj(K:aD):V->List V->Hp->VK->Prop:=fun x xs H Q=>∃a ys y d ds,x=.ref a/\xs=[y]/\aE K H a ys/\Dp K H y d/\fR K H ys ds/\SeqAt.shaped d=true/\ds.all SeqAt.shaped=true/\Q (.int (ds.countP fun e=>PyData.eqv e d:Nat)) H
theorem AR(hu:X.A.units+80<cLine):tj X "list.count" (Hj X.K):=by
 intro pins s σ H x xs v us Q I rx rxs h
 obtain⟨a,ys,y,d,ds,rfl,rfl,hs,hd,hds,sd,sds,q⟩:=h
 cases rx
 cases rxs with
 |cons ry rt=>
  rename_i uy ut
  cases rt
  obtain⟨as,rd⟩:=Dp.reads I d y uy hd ry
  obtain⟨its,rv,⟨⟨cls,dd,data,sl⟩,n,ho,hc,hdn,hdd⟩,hlen⟩:=I.list hs
  obtain⟨bs,ru⟩:=Dp.readsAll I ds ys its hds rv
  simp only at hc hdd
  subst hc hdd
  refine call_meets EB ⟨_,ho,rfl⟩ PySem.F.entry_list_count (PySem.F.args_list_count_2 _ _)
   (SeqAt.list_countAt a its.toArray n dd sl uy (gc s.heap d)) ⟨ho,fun u' hu'=>vp rd sd (by omega) ru sds u' (by simpa using hu'),?_⟩
  rw[show its.toArray.toList=its from rfl,AQ ru sds]
  exact⟨.int _,H,I.tok _,⟨_,rfl⟩,q⟩
end
theorem AS{K:aD}{a:Addr}{xs:List V}{g:TG}{tb:TS}{D:Ends}{σ:L2.St}{H:Hp}(Pv:Nat->L2.St->Hp->Prop)(h0:Pv 0 σ H)(hl:∀i σ H,i<=xs.length->Pv i σ H->aE K H a xs)
  (hs:∀i x σ H,i<xs.length->xs[xs.length-1-i]? =some x->Pv i σ H->g x σ H fun σ2 H2=>tb {D with nx:=Pv (i+1),ct:=Pv (i+1),bk:=D.nx} σ2 H2)(hd:∀σ H,Pv xs.length σ H->D.nx σ H):
  ∃W:Nat->Nat->L2.St->Hp->Prop,(∃m,W 0 m σ H)/\∀i m σ H,W i m σ H->
   ((nF K a xs.length).stop i H/\D.nx σ H)\/((nF K a xs.length).go i H/\∃N:L2.St->Hp->Prop,(∀σ' H',N σ' H'->∃m',m'<m/\W (i+1) m' σ' H')/\∀x H',(nF K a xs.length).yld i H x H'->g x σ H' fun σ2 H2=>tb {D with nx:=N,ct:=N,bk:=D.nx} σ2 H2):=by
 refine⟨fun i m σ H=>m=xs.length-i/\i<=xs.length/\Pv i σ H,⟨xs.length,by simp,bF _,h0⟩,?_⟩
 rintro i m σ H ⟨rfl,hi,p⟩
 have q:=hl i σ H hi p
 by_cases hlt:i<xs.length
 ·have hx:xs[xs.length-1-i]? =some xs[xs.length-1-i]:=bU (by omega)
  refine .inr ⟨⟨hlt,xs,_,q,hx⟩,Pv (i+1),fun σ' H' p'=>⟨xs.length-(i+1),by omega,rfl,hlt,p'⟩,fun x H' y=>?_⟩
  obtain⟨e,y⟩:=y
  subst e
  exact hs i x σ _ hlt (y xs q) p
 ·have e:i=xs.length:=by omega
  subst e
  exact .inl ⟨aY _,hd σ H p⟩
theorem AU{K:aD}{a:Addr}{xs:List V}{g:TG}{tb:TS}{D:Ends}{σ:L2.St}{H:Hp}(Pv:Nat->L2.St->Hp->Prop)(h0:Pv 0 σ H)(hl:∀i σ H,i<=xs.length->Pv i σ H->aE K H a xs)
  (hs:∀i x T σ H,xs[i]? =some x->H T=none->Pv i σ H->g (.ref T) σ (upd H T (.tup [.int (i:Nat),x])) fun σ2 H2=>tb {D with nx:=Pv (i+1),ct:=Pv (i+1),bk:=D.nx} σ2 H2)(hd:∀σ H,Pv xs.length σ H->D.nx σ H):
  ∃W:Nat->Nat->L2.St->Hp->Prop,(∃m,W 0 m σ H)/\∀i m σ H,W i m σ H->
   ((jk K a).stop i H/\D.nx σ H)\/((jk K a).go i H/\∃N:L2.St->Hp->Prop,(∀σ' H',N σ' H'->∃m',m'<m/\W (i+1) m' σ' H')/\∀x H',(jk K a).yld i H x H'->g x σ H' fun σ2 H2=>tb {D with nx:=N,ct:=N,bk:=D.nx} σ2 H2):=by
 refine⟨fun i m σ H=>m=xs.length-i/\i<=xs.length/\Pv i σ H,⟨xs.length,by simp,bF _,h0⟩,?_⟩
 rintro i m σ H ⟨rfl,hi,p⟩
 have q:=hl i σ H hi p
 by_cases hlt:i<xs.length
 ·refine .inr ⟨⟨xs,xs[i],q,by simp[hlt]⟩,Pv (i+1),fun σ' H' p'=>⟨xs.length-(i+1),by omega,rfl,hlt,p'⟩,fun v H' y=>?_⟩
  obtain⟨T,x,rfl,hT,rfl,hx⟩:=y
  exact hs i x T σ _ (hx xs q) hT p
 ·have e:i=xs.length:=by omega
  subst e
  exact .inl ⟨⟨xs,q,aY _⟩,hd σ H p⟩
theorem AV{K:aD}{a:Addr}{xs:List V}{g:TG}{tt:TT}{te:TE}{vs:List Nat}{σ:L2.St}{H1:Hp}{D:Addr}{Qd:Hp->Prop}(Pv:Nat->Hp->Prop)(h0:Pv 0 (upd H1 D (.lst [])))(hl:∀i H,i<=xs.length->Pv i H->aE K H a xs)
  (hs:∀i x T H,xs[i]? =some x->H T=none->Pv i H->g (.ref T) (wipe σ vs) (upd H T (.tup [.int (i:Nat),x])) fun σ2 H2=>wipe σ2 vs=wipe σ vs/\tt σ2 H2 fun b H3=>
   if b=true then te σ2 H3 fun y H4=>∃acc,H4 D=some (.lst acc)/\acc.length<sizeLine/\Pv (i+1) (upd H4 D (.lst (acc++[y]))) else Pv (i+1) H3)(hd:∀H,Pv xs.length H->Qd H):
  ∃W:Nat->Nat->Hp->Prop,(∃m,W 0 m (upd H1 D (.lst [])))/\∀i m H,W i m H->
   ((jk K a).stop i H/\Qd H)\/((jk K a).go i H/\∃Nx:Hp->Prop,(∀H',Nx H'->∃m',m'<m/\W (i+1) m' H')/\∀x H',(jk K a).yld i H x H'->g x (wipe σ vs) H' fun σ2 H2=>wipe σ2 vs=wipe σ vs/\tt σ2 H2 fun b H3=>
    if b=true then te σ2 H3 fun y H4=>∃acc,H4 D=some (.lst acc)/\acc.length<sizeLine/\Nx (upd H4 D (.lst (acc++[y]))) else Nx H3):=by
 refine⟨fun i m H=>m=xs.length-i/\i<=xs.length/\Pv i H,⟨xs.length,by simp,bF _,h0⟩,?_⟩
 rintro i m H ⟨rfl,hi,p⟩
 have q:=hl i H hi p
 by_cases hlt:i<xs.length
 ·refine .inr ⟨⟨xs,xs[i],q,by simp[hlt]⟩,Pv (i+1),fun H' p'=>⟨xs.length-(i+1),by omega,rfl,hlt,p'⟩,fun v H' y=>?_⟩
  obtain⟨T,x,rfl,hT,rfl,hx⟩:=y
  exact hs i x T _ (hx xs q) hT p
 ·have e:i=xs.length:=by omega
  subst e
  exact .inl ⟨⟨xs,q,aY _⟩,hd H p⟩
theorem Hk{K:aD}{a b:Addr}{xs ys:List V}{g:TG}{tt:TT}{te:TE}{vs:List Nat}{σ:L2.St}{H1:Hp}{D:Addr}{Qd:Hp->Prop}(hxy:xs.length=ys.length)(Pv:Nat->Hp->Prop)(h0:Pv 0 (upd H1 D (.lst [])))(hl:∀i H,i<=xs.length->Pv i H->aE K H a xs/\aE K H b ys)
  (hs:∀i x y T H,xs[i]? =some x->ys[i]? =some y->H T=none->Pv i H->g (.ref T) (wipe σ vs) (upd H T (.tup [x,y])) fun σ2 H2=>wipe σ2 vs=wipe σ vs/\tt σ2 H2 fun b H3=>
   if b=true then te σ2 H3 fun y H4=>∃acc,H4 D=some (.lst acc)/\acc.length<sizeLine/\Pv (i+1) (upd H4 D (.lst (acc++[y]))) else Pv (i+1) H3)(hd:∀H,Pv xs.length H->Qd H):
  ∃W:Nat->Nat->Hp->Prop,(∃m,W 0 m (upd H1 D (.lst [])))/\∀i m H,W i m H->
   ((nH K a b).stop i H/\Qd H)\/((nH K a b).go i H/\∃Nx:Hp->Prop,(∀H',Nx H'->∃m',m'<m/\W (i+1) m' H')/\∀x H',(nH K a b).yld i H x H'->g x (wipe σ vs) H' fun σ2 H2=>wipe σ2 vs=wipe σ vs/\tt σ2 H2 fun b H3=>
    if b=true then te σ2 H3 fun y H4=>∃acc,H4 D=some (.lst acc)/\acc.length<sizeLine/\Nx (upd H4 D (.lst (acc++[y]))) else Nx H3):=by
 refine⟨fun i m H=>m=xs.length-i/\i<=xs.length/\Pv i H,⟨xs.length,by simp,bF _,h0⟩,?_⟩
 rintro i m H ⟨rfl,hi,p⟩
 obtain⟨q,q2⟩:=hl i H hi p
 by_cases hlt:i<xs.length
 ·have hlt2:i<ys.length:=by omega
  refine .inr ⟨⟨xs,ys,xs[i],ys[i],q,q2,by simp[hlt],by simp[hlt2]⟩,Pv (i+1),fun H' p'=>⟨xs.length-(i+1),by omega,rfl,hlt,p'⟩,fun v H' z=>?_⟩
  obtain⟨T,x,y,rfl,hT,rfl,hx,hy⟩:=z
  exact hs i x y T _ (hx xs q) (hy ys q2) hT p
 ·have e:i=xs.length:=by omega
  subst e
  exact .inl ⟨⟨xs,ys,q,q2,.inl (aY _)⟩,hd H p⟩
theorem AW{x:Str}{g:TG}{tt:TT}{te:TE}{vs:List Nat}{σ:L2.St}{H1:Hp}{D:Addr}{Qd:Hp->Prop}(Pv:Nat->Hp->Prop)(h0:Pv 0 (upd H1 D (.lst [])))
  (hs:∀i c H,x.cps[i]? =some c->Pv i H->g (.str ⟨#[c]⟩) (wipe σ vs) H fun σ2 H2=>wipe σ2 vs=wipe σ vs/\tt σ2 H2 fun b H3=>
   if b=true then te σ2 H3 fun y H4=>∃acc,H4 D=some (.lst acc)/\acc.length<sizeLine/\Pv (i+1) (upd H4 D (.lst (acc++[y]))) else Pv (i+1) H3)(hd:∀H,Pv x.cps.size H->Qd H):
  ∃W:Nat->Nat->Hp->Prop,(∃m,W 0 m (upd H1 D (.lst [])))/\∀i m H,W i m H->
   ((nG x).stop i H/\Qd H)\/((nG x).go i H/\∃Nx:Hp->Prop,(∀H',Nx H'->∃m',m'<m/\W (i+1) m' H')/\∀v H',(nG x).yld i H v H'->g v (wipe σ vs) H' fun σ2 H2=>wipe σ2 vs=wipe σ vs/\tt σ2 H2 fun b H3=>
    if b=true then te σ2 H3 fun y H4=>∃acc,H4 D=some (.lst acc)/\acc.length<sizeLine/\Nx (upd H4 D (.lst (acc++[y]))) else Nx H3):=by
 refine⟨fun i m H=>m=x.cps.size-i/\i<=x.cps.size/\Pv i H,⟨x.cps.size,by simp,bF _,h0⟩,?_⟩
 rintro i m H ⟨rfl,hi,p⟩
 by_cases hlt:i<x.cps.size
 ·refine .inr ⟨hlt,Pv (i+1),fun H' p'=>⟨x.cps.size-(i+1),by omega,rfl,hlt,p'⟩,fun v H' y=>?_⟩
  obtain⟨rfl,c,hc,rfl⟩:=y
  exact hs i c _ hc p
 ·have e:i=x.cps.size:=by omega
  subst e
  exact .inl ⟨aY _,hd H p⟩
end Dt
namespace PySem.AutoSeq1
open MeetsSeq MeetsSeq2 MeetsSeq3 SeqRoads2
theorem extend_tuple_any(l:Addr)(items:Array Value)(n:Nat)(b:Addr)(items2:Array Value)(n2:Nat)(dd:Option Addr)(sl:Array (Option Value))(hs0:¬(!items.isEmpty&&Builtin.List.listTooLong (items.size+items2.size))=true)(hs1:items.size<=sizeLine)(hs2:items.size+items2.size<=sizeLine+1):
  Meets (Builtin.«list.extend» ⟨[.ref l,.ref b],[]⟩) (fun _ R s=>s.heap.get? l=some {cls:=.type "list",dict:=none,data:=.seq items n,slots:= #[]}/\s.heap.get? b=some {cls:=.type "tuple",dict:=dd,data:=.seq items2 n2,slots:=sl}/\R (.ok (.ret Value.none)) {s with heap:=s.heap.update l (Obj.mapSeq fun x=>x++items2),toks:=s.toks}):=
 .of_wp fun prog w A R s h=>by
  obtain⟨hp,g,d,tk,os⟩:=s;obtain⟨hl,hb,h⟩:=h;have f1:=idx_int;have f2:=sub_tuple_tuple;have f3:=sub_list_list;have f4:=sub_tuple_list;have f5:=sub_list_tuple;
  have hz':(items++items2).size<=sizeLine+1:=by rw[Array.size_append];exact hs2
  wp_walk using(wpAny_updateSeq hl rfl (hz:=hs1) (_hz':=hz')),wpAny_loadPart' hl,wpAny_loadPart' hb;exact⟨_,rfl,h⟩
end PySem.AutoSeq1
namespace Dt
open PySem PySem.Spec PyProof.Rows L2
section
variable{X:Cx}
def Hl(K:aD):V->List V->Hp->VK->Prop:=fun x vs H Q=>∃l b xs zs,x=.ref l/\vs=[.ref b]/\H l=some (.lst xs)/\aW K H b zs/\xs.length+zs.length<=sizeLine/\Q .non (upd H l (.lst (xs++zs)))
theorem Hm:mx X "list.extend" (Hl X.K):=by
 intro pins s σ H x vs v us Q I rx rv h
 obtain⟨l,b,xs,zs,rfl,rfl,hH,hB,hz,q⟩:=h
 cases rx
 obtain⟨u,rfl,ru⟩:=rv.one
 cases ru
 obtain⟨z,its,n,r,hl,e⟩:=I.lstM hH
 obtain⟨its2,r2,⟨⟨cls,dd,data,sl⟩,e2,hc,n2,hd⟩,z2⟩:=I.tuple hB
 simp only at hc hd
 subst hc hd
 have hl2:=r2.length
 have hsz:its.toArray.size+its2.toArray.size<=sizeLine:=by rw[br,br];omega
 have hlong:¬(!its.toArray.isEmpty&&Builtin.List.listTooLong (its.toArray.size+its2.toArray.size))=true:=by
  rw[zd hsz,xb]
  exact dQ
 refine call_meets F.slot_list_extend ⟨_,e,rfl⟩ F.entry_list_extend (F.args_list_extend_2 _ _)
  (AutoSeq1.extend_tuple_any l its.toArray n b its2.toArray n2 dd sl hlong (by rw[br];omega) (by omega)) ⟨e,e2,?_⟩
 refine⟨.non,_,I.lset (its':=its++its2) hH e (by simp) (r.append r2) ?_,rfl,q⟩
 rw[aS]
 omega
end
open MF (bP da nl aM bG)
structure cY (K:aD) (mg:Str->Option Value):Prop where
 tensor:fY K mg "TENSOR" [42]
 par:fY K mg "PAR" [124]
 tilde:fY K mg "TILDE" [126]
 left:fY K mg "LEFT" [40]
 right:fY K mg "RIGHT" [41]
 len:mg "len"=none
 max:mg "max"=none
 list:mg "list"=none
 reversed:mg "reversed"=none
def bz:Nat:=1000000
theorem AX:bz<sizeLine:=by decide
def kY(K:aD)(H:Hp)(v:V)(ns:List (List UInt8)):Prop:=∃a vs,v=.ref a/\aE K H a vs/\Paired (ai K H) vs ns
theorem eC{K:aD}{H H':Hp}{vs:List V}{ns:List (List UInt8)}(h:Paired (ai K H) vs ns)(e:aA H H'):Paired (ai K H') vs ns:=Paired.mono (fun _ _ q=>ai.same q e) h
theorem kY.same{K:aD}{H H':Hp}{v:V}{ns:List (List UInt8)}(h:kY K H v ns)(e:aA H H'):kY K H' v ns:=by
 obtain⟨a,vs,rfl,h1,h2⟩:=h
 exact⟨a,vs,rfl,aA.seq e h1,eC h2 e⟩
theorem bw{α β:Type}{F:α->β->Prop}:∀{xs:List α} {ys:List β} {i:Nat} {x:α},Paired F xs ys->xs[i]? =some x->∃y,ys[i]? =some y/\F x y
 |_,_,_,_,.nil,e=>by simp at e
 |_,_,0,_,.cons r _,e=>by simp at e;subst e;exact⟨_,rfl,r⟩
 |_,_,i+1,x,.cons _ t,e=>by
  obtain⟨u,h1,h2⟩:=bw (i:=i) (x:=x) t (by simpa using e)
  exact⟨u,by simpa using h1,h2⟩
theorem take_snoc{α:Type}{l:List α}{i:Nat}{x:α}(h:l[i]? =some x):l.take (i+1)=l.take i++[x]:=by
 rw[List.take_succ,h];rfl
theorem aW.upd{K:aD}{H:Hp}{a D:Addr}{xs ys zs:List V}(h:aW K H a xs)(hD:H D=some (.lst ys)):aW K (upd H D (.lst zs)) a xs:=by
 rcases h with(h|⟨o,h⟩)|h
 ·exact .inl (.inl (by rw[aP (dG h hD (by intro z;cases z))];exact h))
 ·exact .inl (.inr ⟨o,by rw[aP (dG h hD (by intro z;cases z))];exact h⟩)
 ·exact .inr h
theorem ai.upd{K:aD}{H:Hp}{v:V}{n:List UInt8}{D:Addr}{ys zs:List V}(h:ai K H v n)(hD:H D=some (.lst ys)):ai K (upd H D (.lst zs)) v n:=by
 obtain⟨a,rfl,q⟩:=h
 exact⟨a,rfl,aW.upd q hD⟩
theorem aA.upd2{H H1:Hp}{D:Addr}{o:HO}(h:aA H H1)(hD:H D=none):aA H (L2.upd H1 D o):=fun b u e=>by rw[aP (ae e hD)];exact h b u e
section
variable{P:Program}{w:World}{K:aD}{mg:Str->Option Value}{base:Heap}
def jQ(K:aD):Sp:=fun vs H Q _=>∃v n,vs=[v]/\ai K H v n/\Q (.bl (bP n)) H
theorem Hn:aZ ["node"] ["node"] (aQ uO):=fS
theorem Ho(D:aO K mg "is_atom" uO)(T:cY K mg):aK P w K mg base "is_atom" 1 ["node"] (jQ K):=by
 refine D.cal Hn (fun vs H Q E h=>?_) (fun f cdv A outer s H vs Q E hr h=>?_)
 ·obtain⟨v,n,rfl,_⟩:=h
  rfl
 ·obtain⟨v,n,rfl,hn,k⟩:=h
  have hu:=hr.units
  refine⟨_,aI (aN (lJ (il (ji hu) (pv 0) (bT T.tensor) (ak _)) (lI (il (ji hu) (pv 0) (bT T.par) (ak _))))),?_⟩
  refine⟨v,rfl,fun a ha=>kX hn (ha H) ⟨_,rfl,?_⟩⟩
  split
  ·rename_i h1
   refine⟨v,rfl,fun a ha=>kX hn (ha H) ?_⟩
   have e:bP n= !decide (n=[124]):=by unfold bP;rw[h1];rfl
   rw[<-e]
   exact k
  ·rename_i h1
   have e:bP n=false:=by unfold bP;rw[dI.mpr h1];rfl
   rw[e] at k
   exact k
def vq(K:aD):Sp:=fun vs H Q _=>∃v n,vs=[v]/\ai K H v n/\n.length<=1000/\∀v' H',aA H H'->ai K H' v' (da n)->Q v' H'
theorem Hq:aZ ["node"] ["node"] (aQ uP):=fS
theorem nO(n:List UInt8)(lo hi:Option Int):cW (n.map vb) lo hi=((n.drop (HT.aq n.length 0 lo)).take (HT.aq n.length n.length hi-HT.aq n.length 0 lo)).map vb:=by
 unfold cW
 rw[aL,EC,List.map_drop]
theorem Hr(D:aO K mg "dual_node" uP)(T:cY K mg):aK P w K mg base "dual_node" 1 ["node"] (vq K):=by
 refine D.cal Hq (fun vs H Q E h=>?_) (fun f cdv A outer s H vs Q E hr h=>?_)
 ·obtain⟨v,n,rfl,_⟩:=h
  rfl
 ·obtain⟨v,n,rfl,hn,hl,k⟩:=h
  have hu:=hr.units
  refine⟨_,aG (aj (ao (fM hu) (pv 0) (bT T.tensor) (ak _)) (aI (aN (bT T.par))) ay)
   (aG (aj (ao (fM hu) (pv 0) (bT T.par) (ak _)) (aI (aN (bT T.tensor))) ay)
   (aG (aj (ao (fM hu) (gD AO (pv 0) je (dz aR)) (bT T.tilde) (ak _)) (aI (aN (gD AO (pv 0) (dz aR) je))) ay)
   (aI (aN (bH G4 (bT T.tilde) (pv 0)))))),?_⟩
  refine⟨v,rfl,fun a ha=>fX hn (ha H) ⟨_,rfl,?_⟩⟩
  refine aU (fun e1=>?_) (fun e1=>?_)
  ·have e1:=of_decide_eq_true e1
   exact fun b hb=>k b H (aA.refl H) (by rw[show da n=[124] from if_pos e1];exact hb H)
  have e1:¬n=[42]:=fun e=>e1 (decide_eq_true e)
  refine⟨v,rfl,fun a2 ha2=>fX hn (ha2 H) ⟨_,rfl,?_⟩⟩
  refine aU (fun e2=>?_) (fun e2=>?_)
  ·have e2:=of_decide_eq_true e2
   exact fun b hb=>k b H (aA.refl H) (by rw[show da n=[42] from(if_neg e1).trans (if_pos e2)];exact hb H)
  have e2:¬n=[124]:=fun e=>e2 (decide_eq_true e)
  obtain⟨p,rfl,hp⟩:=id hn
  refine⟨_,rfl,_,rfl,p,_,rfl,hp,fun b H1 s1 hb a3 ha3=>fX (n:=n.take 1) ⟨b,rfl,?_⟩ (ha3 H1) ⟨_,rfl,?_⟩⟩
  ·rw[nO] at hb
   have e:n.take 1=((n.drop (HT.aq n.length 0 none)).take (HT.aq n.length n.length (some 1)-HT.aq n.length 0 none)):=by
    rw[show HT.aq n.length n.length (some 1)=min 1 n.length from HT.gC _ _ 1]
    show n.take 1=n.take (min 1 n.length-0)
    cases n with
    |nil=>rfl
    |cons x r=>simp
   rw[e]
   exact hb
  refine aU (fun e3=>?_) (fun e3=>?_)
  ·have e3:=of_decide_eq_true e3
   refine⟨_,rfl,_,rfl,p,_,rfl,aA.tup s1 hp,fun b2 H2 s2 hb2=>k _ H2 (s1.trans s2) ⟨b2,rfl,?_⟩⟩
   rw[nO] at hb2
   have e:da n=((n.drop (HT.aq n.length 0 (some 1))).take (HT.aq n.length n.length none-HT.aq n.length 0 (some 1))):=by
    rw[show da n=n.drop 1 from(if_neg e1).trans ((if_neg e2).trans (if_pos e3)),show HT.aq n.length 0 (some 1)=min 1 n.length from HT.gC _ _ 1]
    show _=((n.drop (min 1 n.length)).take (n.length-min 1 n.length))
    cases n with
    |nil=>rfl
    |cons x r=>simp
   rw[e]
   exact hb2
  ·have e3:¬n.take 1=[126]:=fun e=>e3 (decide_eq_true e)
   intro c hc
   obtain⟨q,rfl,hq⟩:=hc H1
   have ed:da n=126::n:=(if_neg e1).trans ((if_neg e2).trans (if_neg e3))
   refine⟨_,rfl,q,p,_,_,rfl,rfl,hq,aA.tup s1 hp,by simp,?_,fun z=>?_,fun z d hd=>?_⟩
   ·rw[aL,aL,sizeLine_eq]
    show 1+n.length<=_
    omega
   ·have z':n=[]:=by simpa using z
    refine k _ H1 s1 ⟨q,rfl,?_⟩
    rw[ed,z']
    exact hq
   ·refine k _ _ (s1.trans (aA.upd hd)) ⟨d,rfl,?_⟩
    rw[ed]
    exact aW.of aF
def nP(K:aD):Sp:=fun vs H Q _=>∃v ns,vs=[v]/\kY K H v ns/\ns.length<=bz/\(∀n∈ns,n.length<=1000)/\∀b ws H',aA H H'->H' b=some (.lst ws)->H b=none->Paired (ai K H') ws (ns.map da)->Q (.ref b) H'
theorem vt:aZ ["formula","node"] ["formula"] (aQ qE):=fS
theorem Hs(D:aO K mg "dual" qE)(C1:aK P w K mg base "dual_node" 1 ["node"] (vq K)):aK P w K mg base "dual" 2 ["formula"] (nP K):=by
 refine D.cal vt (fun vs H Q E h=>?_) (fun f cdv A outer s H vs Q E hr h=>?_)
 ·obtain⟨v,n,rfl,_⟩:=h
  rfl
 ·obtain⟨v,ns,rfl,⟨a,ws,rfl,hs,hp⟩,hl,hb,k⟩:=h
  refine⟨_,aI (aN (eS (own:=[("node",1)]) rfl vt.nd (c6 (pv 0)) (dc (N:=["formula","node"]) (sc:=aQ qE) (by decide+kernel)) (fun _ _ _ _ _=>bN (i:=1) vt.nd rfl (aJ rfl)) (fun _ _ _ _ _=>eR) (fun _ _ _ _ _=>pc C1 hr (aB (pv 1) aC)))),?_⟩
  refine⟨_,rfl,a,rfl,⟨_,hs⟩,fun D hD=>?_⟩
  refine fT (K:=K) (a:=a) (xs:=ws) (fun i H'=>∃zs,H' D=some (.lst zs)/\aA H H'/\Paired (ai K H') zs ((ns.take i).map da)) ?_ ?_ ?_ ?_
  ·exact⟨[],aF,aA.upd hD,.nil⟩
  ·rintro i H' _ ⟨zs,_,s1,_⟩
   exact aA.seq s1 hs
  ·rintro i x H' hx ⟨zs,hz,s1,hzp⟩
   obtain⟨n,hn,hxn⟩:=bw hp hx
   have hln:=hp.length
   have hil:i<ns.length:=(bC.mp hn).1
   refine⟨rfl,x,rfl,x,n,rfl,ai.same hxn s1,hb n (cv hn),fun v' H2 s2 hv'=>?_⟩
   have hz2:=s2 _ _ hz
   have hlz:=hzp.length
   rw[aL,cM] at hlz
   refine⟨zs,hz2,?_,zs++[v'],aF,aA.upd2 (s1.trans s2) hD,?_⟩
   ·have:=AX;omega
   ·rw[take_snoc hn,bO]
    exact Paired.snoc (Paired.mono (fun _ _ q=>q.upd hz2) (eC hzp s2)) (hv'.upd hz2)
  ·rintro H' ⟨zs,hz,s1,hzp⟩
   rw[<-hp.length.symm,cQ] at hzp
   exact k D zs H' s1 hz hD hzp
end
open MF (bP da nl aM bG gS)
open MP (good)
open Vaneta (Formula deep form)
theorem fZ{l:Addr}{xs:List V}{y:V}{H:Hp}{Q:VK}(h:H l=some (.lst (xs++[y])))(k:Q y (upd H l (.lst xs))):zh (.ref l) [] H Q:=
 ⟨l,xs++[y],y,rfl,rfl,h,by simp,by rw[List.dropLast_concat];exact k⟩
def jn(K:aD)(H:Hp)(v:V)(A:Formula):Prop:=good A=true/\(nl A).length<=10000/\(∀n∈nl A,n.length<=100)/\kY K H v (nl A)
theorem jn.same{K:aD}{H H':Hp}{v:V}{A:Formula}(h:jn K H v A)(e:aA H H'):jn K H' v A:=⟨h.1,h.2.1,h.2.2.1,h.2.2.2.same e⟩
section
variable{P:Program}{w:World}{K:aD}{mg:Str->Option Value}{base:Heap}
def nQ(K:aD):Sp:=fun vs H Q _=>∃v ns,vs=[v]/\kY K H v ns/\ns.length<=bz/\∀b ws H',aA H H'->H' b=some (.lst ws)->H b=none->Paired (ai K H') ws (ns.filter bP)->Q (.ref b) H'
theorem vw:aZ ["formula","node"] ["formula"] (aQ qF):=fS
theorem Ht(D:aO K mg "atoms" qF)(C1:aK P w K mg base "is_atom" 1 ["node"] (jQ K)):aK P w K mg base "atoms" 2 ["formula"] (nQ K):=by
 refine D.cal vw (fun vs H Q E h=>?_) (fun f cdv A outer s H vs Q E hr h=>?_)
 ·obtain⟨v,n,rfl,_⟩:=h
  rfl
 ·obtain⟨v,ns,rfl,⟨a,ws,rfl,hs,hp⟩,hl,k⟩:=h
  refine⟨_,aI (aN (eS (own:=[("node",1)]) rfl vw.nd (c6 (pv 0)) (dc (N:=["formula","node"]) (sc:=aQ qF) (by decide+kernel)) (fun _ _ _ _ _=>bN (i:=1) vw.nd rfl (aJ rfl)) (fun _ _ _ _ _=>uK (cA (pc C1 hr (aB (pv 1) aC)))) (fun _ _ _ _ _=>pv 1))),?_⟩
  refine⟨_,rfl,a,rfl,⟨_,hs⟩,fun D hD=>?_⟩
  refine fT (K:=K) (a:=a) (xs:=ws) (fun i H'=>∃zs,H' D=some (.lst zs)/\aA H H'/\Paired (ai K H') zs ((ns.take i).filter bP)) ?_ ?_ ?_ ?_
  ·exact⟨[],aF,aA.upd hD,.nil⟩
  ·rintro i H' _ ⟨zs,_,s1,_⟩
   exact aA.seq s1 hs
  ·rintro i x H' hx ⟨zs,hz,s1,hzp⟩
   obtain⟨n,hn,hxn⟩:=bw hp hx
   have hxn':=ai.same hxn s1
   refine⟨rfl,x,rfl,x,n,rfl,hxn',_,rfl,?_⟩
   have et:(ns.take (i+1)).filter bP=(ns.take i).filter bP++(if bP n=true then[n] else[]):=by
    rw[take_snoc hn,rQ,jz];rfl
   refine aU (fun e=>?_) (fun e=>?_)
   ·have hlz:=hzp.length
    have hle:((ns.take i).filter bP).length<=(ns.take i).length:=oC _ _
    rw[cM] at hle
    have hil:i<ns.length:=(bC.mp hn).1
    refine⟨x,rfl,zs,hz,?_,zs++[x],aF,aA.upd2 s1 hD,?_⟩
    ·have:=AX;omega
    ·rw[et,if_pos e]
     exact Paired.snoc (Paired.mono (fun _ _ q=>q.upd hz) hzp) (hxn'.upd hz)
   ·exact⟨zs,hz,s1,by rw[et,if_neg e,d8];exact hzp⟩
  ·rintro H' ⟨zs,hz,s1,hzp⟩
   rw[<-hp.length.symm,cQ] at hzp
   exact k D zs H' s1 hz hD hzp
def AY(K:aD):Sp:=fun vs H Q _=>∃v A,vs=[v]/\jn K H v A/\∀H',aA H H'->Q (.int (deep A:Nat)) H'
theorem AZ:aZ ["formula","depths","node","first","second"] ["formula"] (aQ uR):=fS
def jo(gs:List Formula):List V:=(gs.map fun A=>V.int (deep A:Nat)).reverse
theorem iO(A:Formula)(gs:List Formula):jo (A::gs)=jo gs++[V.int (deep A:Nat)]:=by
 unfold jo;rw[bg,eU]
theorem A2(a b:Nat):(1:Int)+(if(b:Int)>(a:Int) then(b:Int) else(a:Int))=((1+max a b:Nat):Int):=by
 split<;>omega
theorem Hu(D:aO K mg "depth" uR)(T:cY K mg)(C1:aK P w K mg base "is_atom" 1 ["node"] (jQ K)):aK P w K mg base "depth" 2 ["formula"] (AY K):=by
 refine D.cal AZ (fun vs H Q E h=>?_) (fun f cdv A outer s H vs Q E hr h=>?_)
 ·obtain⟨v,n,rfl,_⟩:=h
  rfl
 ·obtain⟨v,F,rfl,⟨hg,hl,_,⟨a,ws,rfl,hs,hp⟩⟩,k⟩:=h
  have nd:=AZ.nd
  refine⟨_,aG (aT (i:=1) nd rfl (aJ rfl) (au aC))
   (aG (dy PassesOwn.never rfl (zx rfl T.reversed (aB (pv 0) aC)) (bN (i:=2) nd rfl (aJ rfl))
    (aI (aj (cA (pc C1 hr (aB (pv 2) aC)))
     (aI (bV (cG bR cw cy c7 (pv 1) (aB aR aC))))
     (aG (aT (i:=3) nd rfl (aJ rfl) (gE bR iZ i0 g6 (pv 1)))
     (aG (aT (i:=4) nd rfl (aJ rfl) (gE bR iZ i0 g6 (pv 1)))
     (aI (bV (cG bR cw cy c7 (pv 1)
      (aB (bH e9 aR (bD (Fx rfl) rfl T.max PyProof.Rows.boot_max (aB (pv 3) (aB (pv 4) aC)))) aC)))))))))
   (aI (aN (aa az (pv 1) aR (fun _ _=>rfl))))),?_⟩
  refine⟨bF _,fun d hd=>?_⟩
  have hln:=hp.length
  refine⟨_,rfl,a,ws,rfl,aA.seq (aA.upd hd) hs,AS (K:=K) (a:=a) (xs:=ws) (fun i σ H'=>∃(x1 x2 x3:Option V) (gs:List Formula),σ=[some (.ref a),some (.ref d),x1,x2,x3]/\aA H H'/\H' d=some (.lst (jo gs))/\gs.length<=i/\gs.all good=true/\(aM [F]).drop (ws.length-i)=aM gs)
   ?_ ?_ ?_ ?_⟩
  ·refine⟨none,none,none,[],rfl,aA.upd hd,aF,aY _,rfl,?_⟩
   rw[mD]
   ·rfl
   ·rw[MF.cD];simp[MF.lC];omega
  ·rintro i σ H' _ ⟨_,_,_,_,_,s1,_⟩
   exact aA.seq s1 hs
  ·rintro i x σ H' hi hx ⟨x1,x2,x3,gs,rfl,s1,hd1,hgl,hgg,hdr⟩
   obtain⟨n,hn,hxn⟩:=bw hp hx
   have hxn':=ai.same hxn s1
   have hn':(aM [F])[ws.length-1-i]? =some n:=by
    rw[MF.cD,MF.lC,d8];exact hn
   have ek:ws.length-1-i+1=ws.length-i:=by omega
   obtain⟨hs',h1,h2,hH⟩:=MF.step (fs:=[F]) (by simp[hg]) hn' hgg (by rw[ek];exact hdr)
   have ek2:ws.length-(i+1)=ws.length-1-i:=by omega
   refine⟨x,rfl,x,n,rfl,hxn',_,rfl,?_⟩
   have hsz:(jo gs).length<sizeLine:=by
    unfold jo
    rw[fm,aL,sizeLine_eq]
    omega
   cases hH with
   |atom hnm e=>
    refine aU (fun _=>?_) (fun q=>absurd (by rw[e];exact MF.gR hnm) q)
    refine⟨_,rfl,.inl ⟨rfl,_,aE.of hd1⟩,d,_,_,rfl,rfl,hd1,hsz,?_⟩
    refine⟨_,_,_,_,rfl,aA.upd2 s1 hd,aF.trans ?_,?_,h1,by rw[ek2];exact h2⟩
    ·rw[iO];rfl
    ·rw[aV];omega
   |tensor e eg=>
    subst eg
    refine aU (fun q=>absurd q (by rw[e];decide)) (fun _=>?_)
    rw[iO,iO] at hd1
    refine⟨_,rfl,.inl ⟨rfl,_,aE.of hd1⟩,fZ hd1 ⟨_,rfl,.inl ⟨rfl,_,aE.of aF⟩,fZ aF ?_⟩⟩
    refine⟨_,rfl,.inl ⟨rfl,_,aE.of aF⟩,_,rfl,_,rfl,_,_,rfl,_,_,rfl,rfl,d,_,_,rfl,rfl,aF,?_,?_⟩
    ·rw[iO,iO,aS,aS] at hsz
     omega
    ·rw[eX,eX]
     refine⟨_,_,_,_,rfl,aA.upd2 s1 hd,aF.trans ?_,?_,h1,by rw[ek2];exact h2⟩
     ·rw[iO];exact congrArg (fun z=>some (HO.lst (jo _++[V.int z]))) (A2 _ _)
     ·simp only[aV] at hgl⊢;omega
   |par e eg=>
    subst eg
    refine aU (fun q=>absurd q (by rw[e];decide)) (fun _=>?_)
    rw[iO,iO] at hd1
    refine⟨_,rfl,.inl ⟨rfl,_,aE.of hd1⟩,fZ hd1 ⟨_,rfl,.inl ⟨rfl,_,aE.of aF⟩,fZ aF ?_⟩⟩
    refine⟨_,rfl,.inl ⟨rfl,_,aE.of aF⟩,_,rfl,_,rfl,_,_,rfl,_,_,rfl,rfl,d,_,_,rfl,rfl,aF,?_,?_⟩
    ·rw[iO,iO,aS,aS] at hsz
     omega
    ·rw[eX,eX]
     refine⟨_,_,_,_,rfl,aA.upd2 s1 hd,aF.trans ?_,?_,h1,by rw[ek2];exact h2⟩
     ·rw[iO];exact congrArg (fun z=>some (HO.lst (jo _++[V.int z]))) (A2 _ _)
     ·simp only[aV] at hgl⊢;omega
  ·rintro σ H' ⟨x1,x2,x3,gs,rfl,s1,hd1,_,hgg,hdr⟩
   rw[kj,l9] at hdr
   have eg:=MF.mP _ [F] gs rfl hdr.symm (by simp[hg]) hgg
   subst eg
   refine⟨_,rfl,d,_,_,_,rfl,rfl,aE.of hd1,ah (j:=0) rfl,k H' s1⟩
end
open MF (bP da nl aM bG gS eM fu)
open Vaneta (Formula deep form atoms inBounds signOf paren)
structure dC (mg:Str->Option Value) (x:Str) (i:Int):Prop where
 ex:∃t,mg x=some (.int i t)
theorem bX{X:Cx}{x:Str}{i:Int}{pos:Pos}(C:dC X.mg x i)(hg:Gl X x:=by rfl)(hd:(x==("__debug__":Str))=false:=by decide):PE X (.Name x pos) (tC (.int i)):=by
 obtain⟨t,h⟩:=C.ex
 exact tQ hg h ⟨t,rfl⟩ hd
section
variable{P:Program}{w:World}{K:aD}{mg:Str->Option Value}{base:Heap}
def qU(K:aD):Sp:=fun vs H Q _=>∃v A,vs=[v]/\jn K H v A/\∀H',aA H H'->Q (.bl (inBounds A)) H'
theorem Hv:aZ ["formula"] ["formula"] (aQ uS):=fS
theorem Hw(D:aO K mg "in_bounds" uS)(hlen:mg "len"=none)(c1:dC mg "MOST_ATOMS" 60)(c2:dC mg "MOST_DEPTH" 40)(C1:aK P w K mg base "atoms" 2 ["formula"] (nQ K))(C2:aK P w K mg base "depth" 2 ["formula"] (AY K)):
  aK P w K mg base "in_bounds" 3 ["formula"] (qU K):=by
 refine D.cal Hv (fun vs H Q E h=>?_) (fun f cdv A outer s H vs Q E hr h=>?_)
 ·obtain⟨v,n,rfl,_⟩:=h
  rfl
 ·obtain⟨v,F,rfl,hF,k⟩:=h
  refine⟨_,aI (aN (lJ (il ij (bD bI (by rfl) hlen bM (aB (pc C1 hr (aB (pv 0) aC)) aC)) (bX c1) (ak _))
   (lI (il ij (pc C2 hr (aB (pv 0) aC)) (bX c2) (ak _))))),?_⟩
  refine⟨v,rfl,v,_,rfl,hF.2.2.2,bW hF.2.1 (by decide),fun b ws H1 s1 hb _ hp=>?_⟩
  have e1:(ws.length:Int)=((atoms F:Nat):Int):=by
   rw[hp.length,MF.jX hF.1,aL,MF.fQ]
  refine⟨b,ws,rfl,.inl (aE.of hb),_,_,rfl,rfl,_,rfl,?_⟩
  rw[MF.yH hF.1] at k
  refine aU (fun e=>?_) (fun e=>?_)
  ·refine⟨v,rfl,v,F,rfl,hF.same s1,fun H2 s2=>⟨_,_,rfl,rfl,?_⟩⟩
   have e2:=of_decide_eq_true e
   have e3:decide (atoms F<=60)=true:=decide_eq_true (by omega)
   have e4:decide (((deep F:Nat):Int)<=40)=decide (deep F<=40):=by
    rw[ck,decide_eq_true_iff,decide_eq_true_iff];omega
   have:=k H2 (s1.trans s2)
   rw[e3,gz,<-e4] at this
   exact this
  ·have e2:¬((ws.length:Int)<=60):=fun z=>e (decide_eq_true z)
   have e3:decide (atoms F<=60)=false:=decide_eq_false (by omega)
   have:=k H1 s1
   rw[e3,lu] at this
   exact this
def vx(K:aD):Sp:=fun vs H Q _=>∃b t,vs=[.ref b]/\H b=some (.lst (t.map vb))/\t.length<=4000000/\∀b' H',aA H H'->H' b'=some (.lst ((40::(t++[41])).map vb))->H b'=none->Q (.ref b') H'
theorem Hx:aZ ["text"] ["text"] (aQ uW):=fS
theorem boot_list:bootBuiltins "list"=some (.type "list"):=by decide+kernel
theorem Hy(D:aO K mg "in_brackets" uW)(T:cY K mg):aK P w K mg base "in_brackets" 1 ["text"] (vx K):=by
 refine D.cal Hx (fun vs H Q E h=>?_) (fun f cdv A outer s H vs Q E hr h=>?_)
 ·obtain⟨v,n,rfl,_⟩:=h
  rfl
 ·obtain⟨b,t,rfl,hb,hl,k⟩:=h
  refine⟨_,aI (aN (bH c8 (bH c8 (gZ jf (by rfl) T.list boot_list (aB (bT T.left) aC)) (pv 0)) (gZ jf (by rfl) T.list boot_list (aB (bT T.right) aC)))),?_⟩
  intro v1 h1
  obtain⟨p1,rfl,q1⟩:=h1 H
  refine⟨p1,_,rfl,.inr q1,fun l1 n1=>?_⟩
  have s1:aA H (upd H l1 (.lst ([(40:UInt8)].map vb))):=aA.upd n1
  refine⟨_,rfl,l1,b,_,_,rfl,rfl,aF,s1 _ _ hb,?_,fun l2 n2=>?_⟩
  ·rw[aL,aL,sizeLine_eq];show 1+t.length<=_;omega
  have s2:=s1.trans (aA.upd (o:=.lst (([(40:UInt8)].map vb)++t.map vb)) n2)
  intro v2 h2
  obtain⟨p2,rfl,q2⟩:=h2 (upd (upd H l1 (.lst ([(40:UInt8)].map vb))) l2 (.lst (([(40:UInt8)].map vb)++t.map vb)))
  refine⟨p2,_,rfl,.inr q2,fun l3 n3=>?_⟩
  have s3:=s2.trans (aA.upd (o:=.lst ([(41:UInt8)].map vb)) n3)
  have hl2:(upd (upd (upd H l1 (.lst ([(40:UInt8)].map vb))) l2 (.lst (([(40:UInt8)].map vb)++t.map vb))) l3 (.lst ([(41:UInt8)].map vb))) l2=some (.lst (([(40:UInt8)].map vb)++t.map vb)):=(aA.upd n3) _ _ aF
  refine⟨l2,l3,_,_,rfl,rfl,hl2,aF,?_,fun l4 n4=>?_⟩
  ·rw[aS,aL,aL,aL,sizeLine_eq];show 1+t.length+1<=_;omega
  ·refine k l4 _ (s3.trans (aA.upd n4)) (aF.trans ?_) (s3.free n4)
   rw[<-bO,<-bO]
   rfl
structure Hf (K:aD) (H:Hp) (v:V) (n t:List UInt8) (b:Addr):Prop where
 ex:∃p x,v=.ref p/\aW K H p [x,.ref b]/\ai K H x n
 tx:H b=some (.lst (t.map vb))
theorem Hf.same{K:aD}{H H':Hp}{v:V}{n t:List UInt8}{b:Addr}(h:Hf K H v n t b)(e:aA H H'):Hf K H' v n t b:=by
 obtain⟨⟨p,x,rfl,h1,h2⟩,h3⟩:=h
 exact⟨⟨p,x,rfl,aA.tup e h1,h2.same e⟩,e _ _ h3⟩
def A3(K:aD):Sp:=fun vs H Q _=>∃v n t b,vs=[v]/\Hf K H v n t b/\t.length<=4000000/\∀b' H',aA H H'->H' b'=some (.lst ((eM n t).map vb))->Q (.ref b') H'
def A4(K:aD):Sp:=fun vs H Q _=>∃v u n m t b,vs=[v,u]/\Hf K H v n t b/\ai K H u m/\t.length<=4000000/\∀b' H',aA H H'->H' b'=some (.lst ((fu n m t).map vb))->Q (.ref b') H'
theorem Hz:aZ ["half"] ["half"] (aQ uU):=fS
theorem IA:aZ ["half","sign"] ["half","sign"] (aQ uV):=fS
theorem IB(D:aO K mg "first_written" uU)(C1:aK P w K mg base "is_atom" 1 ["node"] (jQ K))(C2:aK P w K mg base "in_brackets" 1 ["text"] (vx K)):
  aK P w K mg base "first_written" 2 ["half"] (A3 K):=by
 refine D.cal Hz (fun vs H Q E h=>?_) (fun f cdv A outer s H vs Q E hr h=>?_)
 ·obtain⟨v,_,_,_,rfl,_⟩:=h
  rfl
 ·obtain⟨v,n,t,b,rfl,⟨⟨p,x,rfl,h1,h2⟩,h3⟩,hl,k⟩:=h
  refine⟨_,aG (aj (cA (pc C1 hr (aB (aa cX (pv 0) aR (fun _ _=>rfl)) aC))) (aI (aN (aa cX (pv 0) aR (fun _ _=>rfl)))) ay)
   (aI (aN (pc C2 hr (aB (aa cX (pv 0) aR (fun _ _=>rfl)) aC)))),?_⟩
  refine⟨_,rfl,p,_,_,_,rfl,rfl,h1,ah (j:=0) rfl,x,n,rfl,h2,_,rfl,?_⟩
  refine aU (fun e=>?_) (fun e=>?_)
  ·refine⟨_,rfl,p,_,_,_,rfl,rfl,h1,ah (j:=1) rfl,k b H (aA.refl H) ?_⟩
   unfold eM
   rw[if_pos e];exact h3
  ·refine⟨_,rfl,p,_,_,_,rfl,rfl,h1,ah (j:=1) rfl,b,t,rfl,h3,hl,fun b' H' s1 hb _=>k b' H' s1 ?_⟩
   unfold eM
   rw[if_neg e];exact hb
theorem IC(D:aO K mg "second_written" uV)(C1:aK P w K mg base "is_atom" 1 ["node"] (jQ K))(C2:aK P w K mg base "in_brackets" 1 ["text"] (vx K)):
  aK P w K mg base "second_written" 2 ["half","sign"] (A4 K):=by
 refine D.cal IA (fun vs H Q E h=>?_) (fun f cdv A outer s H vs Q E hr h=>?_)
 ·obtain⟨v,_,_,_,_,_,rfl,_⟩:=h
  rfl
 ·obtain⟨v,u,n,m,t,b,rfl,⟨⟨p,x,rfl,h1,h2⟩,h3⟩,hm,hl,k⟩:=h
  refine⟨_,aG (aj (iF (cA (pc C1 hr (aB (aa cX (pv 0) aR (fun _ _=>rfl)) aC))) (ie (ao (fM hr.units) (aa cX (pv 0) aR (fun _ _=>rfl)) (pv 1) (ak _)))).pt
    (aI (aN (aa cX (pv 0) aR (fun _ _=>rfl)))) ay)
   (aI (aN (pc C2 hr (aB (aa cX (pv 0) aR (fun _ _=>rfl)) aC)))),?_⟩
  have k1:bP n=true\/n=m->eZ (cE (mv K) (ax 0) (tC (.int 1))) {nx:=fun _ H'=>Q .non H',rt:=Q} [some (.ref p),some u] H:=fun e=>by
   refine⟨_,rfl,p,_,_,_,rfl,rfl,h1,ah (j:=1) rfl,k b H (aA.refl H) ?_⟩
   unfold fu
   rw[if_pos e];exact h3
  refine⟨_,rfl,p,_,_,_,rfl,rfl,h1,ah (j:=0) rfl,x,n,rfl,h2,_,rfl,?_⟩
  refine aU (fun e=>k1 (.inl e)) (fun e=>?_)
  refine⟨_,rfl,p,_,_,_,rfl,rfl,h1,ah (j:=0) rfl,_,rfl,fX h2 hm ⟨_,rfl,?_⟩⟩
  refine aU (fun e2=>k1 (.inr (of_decide_eq_true e2))) (fun e2=>?_)
  have e3:¬n=m:=fun z=>e2 (decide_eq_true z)
  refine⟨_,rfl,p,_,_,_,rfl,rfl,h1,ah (j:=1) rfl,b,t,rfl,h3,hl,fun b' H' s1 hb _=>k b' H' s1 ?_⟩
  unfold fu
  rw[if_neg (by rintro(z|z);exact e z;exact e3 z)];exact hb
end
open MF (bP da nl aM bG gS eM fu hd)
open Vaneta (Formula deep form atoms inBounds signOf paren two)
theorem Hf.upd{K:aD}{H:Hp}{v:V}{n t:List UInt8}{b D:Addr}{ys zs:List V}(h:Hf K H v n t b)(hD:H D=some (.lst ys))(hb:b≠D):Hf K (upd H D (.lst zs)) v n t b:=by
 obtain⟨⟨p,x,rfl,h1,h2⟩,h3⟩:=h
 exact⟨⟨p,x,rfl,aW.upd h1 hD,h2.upd hD⟩,by rw[aP hb];exact h3⟩
def iP(K:aD)(H0 H:Hp)(d:Addr)(v:V)(A:Formula):Prop:=∃b,b≠d/\H0 b=none/\Hf K H v (hd A) (form A) b
theorem iP.same{K:aD}{H0 H H':Hp}{d:Addr}{v:V}{A:Formula}(h:iP K H0 H d v A)(e:aA H H'):iP K H0 H' d v A:=by
 obtain⟨b,h1,h0,h2⟩:=h
 exact⟨b,h1,h0,h2.same e⟩
theorem iP.upd{K:aD}{H0 H:Hp}{d:Addr}{v:V}{A:Formula}{ys zs:List V}(h:iP K H0 H d v A)(hD:H d=some (.lst ys)):iP K H0 (upd H d (.lst zs)) d v A:=by
 obtain⟨b,h1,h0,h2⟩:=h
 exact⟨b,h1,h0,h2.upd hD h1⟩
section
variable{P:Program}{w:World}{K:aD}{mg:Str->Option Value}{base:Heap}
def A5(K:aD):Sp:=fun vs H Q _=>∃v A,vs=[v]/\jn K H v A/\∀b H',aA H H'->H' b=some (.lst ((form A).map vb))->H b=none->Q (.ref b) H'
theorem A6:aZ ["formula","halves","node","first","second","text"] ["formula"] (aQ uT):=fS
theorem ID(D:aO K mg "written" uT)(T:cY K mg)(C1:aK P w K mg base "is_atom" 1 ["node"] (jQ K))(C2:aK P w K mg base "first_written" 2 ["half"] (A3 K))
  (C3:aK P w K mg base "second_written" 2 ["half","sign"] (A4 K)):aK P w K mg base "written" 3 ["formula"] (A5 K):=by
 refine D.cal A6 (fun vs H Q E h=>?_) (fun f cdv A outer s H vs Q E hr h=>?_)
 ·obtain⟨v,n,rfl,_⟩:=h
  rfl
 ·obtain⟨v,F,rfl,⟨hg,hl,hnb,⟨a,ws,rfl,hs,hp⟩⟩,k⟩:=h
  have nd:=A6.nd
  have hr1:=hr.mono (show 1<=2 by decide)
  refine⟨_,aG (aT (i:=1) nd rfl (aJ rfl) (au aC))
   (aG (dy PassesOwn.never rfl (zx rfl T.reversed (aB (pv 0) aC)) (bN (i:=2) nd rfl (aJ rfl))
    (aI (aj (cA (pc C1 hr1 (aB (pv 2) aC)))
     (aI (bV (cG bR cw cy c7 (pv 1)
      (aB (eQ (aB (pv 2) (aB (gZ jf (by rfl) T.list boot_list (aB (pv 2) aC)) aC))) aC))))
     (aG (aT (i:=3) nd rfl (aJ rfl) (gE bR iZ i0 g6 (pv 1)))
     (aG (aT (i:=4) nd rfl (aJ rfl) (gE bR iZ i0 g6 (pv 1)))
     (aG (aT (i:=5) nd rfl (aJ rfl) (bH c8 (bH c8 (pc C2 hr (aB (pv 3) aC)) (gZ jf (by rfl) T.list boot_list (aB (pv 2) aC))) (pc C3 hr (aB (pv 4) (aB (pv 2) aC)))))
     (aI (bV (cG bR cw cy c7 (pv 1)
      (aB (eQ (aB (pv 2) (aB (pv 5) aC))) aC))))))))))
   (aI (aN (aa cX (aa az (pv 1) aR (fun _ _=>rfl)) aR (fun _ _=>rfl))))),?_⟩
  refine⟨bF _,fun d hd0=>?_⟩
  have hln:=hp.length
  refine⟨_,rfl,a,ws,rfl,aA.seq (aA.upd hd0) hs,AS (K:=K) (a:=a) (xs:=ws) (fun i σ H'=>∃(x1 x2 x3 x4:Option V) (gs:List Formula) (zs:List V),σ=[some (.ref a),some (.ref d),x1,x2,x3,x4]/\aA H H'/\H' d=some (.lst zs.reverse)/\Paired (iP K H H' d) zs gs/\gs.length<=i/\gs.all good=true/\(aM [F]).drop (ws.length-i)=aM gs)
   ?_ ?_ ?_ ?_⟩
  ·refine⟨none,none,none,none,[],[],rfl,aA.upd hd0,aF,.nil,aY _,rfl,?_⟩
   rw[mD]
   ·rfl
   ·rw[MF.cD];simp[MF.lC];omega
  ·rintro i σ H' _ ⟨_,_,_,_,_,_,_,s1,_⟩
   exact aA.seq s1 hs
  ·rintro i x σ H' hi hx ⟨x1,x2,x3,x4,gs,zs,rfl,s1,hd1,hhp,hgl,hgg,hdr⟩
   obtain⟨n,hn,hxn⟩:=bw hp hx
   have hxn':=ai.same hxn s1
   have hn':(aM [F])[ws.length-1-i]? =some n:=by
    rw[MF.cD,MF.lC,d8];exact hn
   have hn100:n.length<=100:=hnb n (cv hn)
   have ek:ws.length-1-i+1=ws.length-i:=by omega
   obtain⟨hs',h1,h2,hH⟩:=MF.step (fs:=[F]) (by simp[hg]) hn' hgg (by rw[ek];exact hdr)
   have ek2:ws.length-(i+1)=ws.length-1-i:=by omega
   refine⟨x,rfl,x,n,rfl,hxn',_,rfl,?_⟩
   have hzl:=hhp.length
   have hsz:zs.length<sizeLine:=by rw[sizeLine_eq];omega
   rcases hH.cases' with⟨t,nm,hnm,e,eh⟩|⟨c,A1,B1,r,hc,e,eg,eh⟩
   ·refine aU (fun _=>?_) (fun q=>absurd (by rw[e];exact MF.gR hnm) q)
    obtain⟨p,rfl,hpt⟩:=id hxn'
    refine⟨_,rfl,.inl ⟨rfl,_,aE.of hd1⟩,_,rfl,_,rfl,p,_,rfl,.inr hpt,fun l nl1=>⟨(by show 2<=sizeLine;decide),fun q nq=>?_⟩⟩
    have sA:aA H' (upd H' l (.lst (n.map vb))):=aA.upd nl1
    have sB:aA H' (upd (upd H' l (.lst (n.map vb))) q (.tup [.ref p,.ref l])):=sA.trans (aA.upd nq)
    have hdB:=sB _ _ hd1
    refine⟨d,_,_,rfl,rfl,hdB,by rw[fm];exact hsz,?_⟩
    refine⟨_,_,_,_,_,.ref q::zs,rfl,aA.upd2 (s1.trans sB) hd0,aF.trans ?_,?_,?_,h1,by rw[ek2];exact h2⟩
    ·rw[eU]
    ·rw[eh]
     refine .cons ⟨l,ae hd1 nl1|>.symm,s1.free nl1,Hf.upd ⟨⟨q,.ref p,rfl,aW.of aF,?_⟩,?_⟩ hdB (ae hd1 nl1).symm⟩ (Paired.mono (fun _ _ z=>(z.same sB).upd hdB) hhp)
     ·rw[show hd (Formula.atom t nm)=n from e.symm];exact hxn'.same sB
     ·rw[show form (Formula.atom t nm)=n from e.symm];exact(aA.upd nq) _ _ aF
    ·rw[eh,aV];omega
   ·subst eg eh
    refine aU (fun q=>absurd q (by rw[e];rcases hc with rfl|rfl<;>decide)) (fun _=>?_)
    obtain⟨z1,z2,zr,rfl,hz1,hz2,hzr⟩:∃z1 z2 zr,zs=z1::z2::zr/\iP K H H' d z1 A1/\iP K H H' d z2 B1/\Paired (iP K H H' d) zr r:=by
     cases hhp with
     |cons a1 a2=>cases a2 with|cons a2 a3=>exact⟨_,_,_,rfl,a1,a2,a3⟩
    rw[eU,eU] at hd1
    refine⟨_,rfl,.inl ⟨rfl,_,aE.of hd1⟩,fZ hd1 ⟨_,rfl,.inl ⟨rfl,_,aE.of aF⟩,fZ aF ?_⟩⟩
    rw[eX]
    have gA:=MF.yI hdr (A:=A1) (by simp)
    have gB:=MF.yI hdr (A:=B1) (by simp)
    have eN:aM [F]=nl F:=by rw[MF.cD,MF.lC,d8]
    rw[eN] at gA gB
    have goA:good A1=true:=(MF.dX.mp hgg).1
    have goB:good B1=true:=(MF.dX.mp (MF.dX.mp hgg).2).1
    have fA:=MF.jZ goA fun m hm=>hnb m (gA.2 m hm)
    have fB:=MF.jZ goB fun m hm=>hnb m (gB.2 m hm)
    have t1:=MF.mR (hd A1) (form A1)
    have t2:=MF.mS (hd B1) n (form B1)
    have sP:aA H (upd H' d (.lst zr.reverse)):=aA.upd2 s1 hd0
    obtain⟨b1,nb1,_,hf1⟩:=hz1.upd (zs:=zr.reverse) hd1
    obtain⟨b2,nb2,_,hf2⟩:=hz2.upd (zs:=zr.reverse) hd1
    have hzr':Paired (iP K H (upd H' d (.lst zr.reverse)) d) zr r:=Paired.mono (fun _ _ z=>z.upd hd1) hzr
    have hdP:(upd H' d (.lst zr.reverse)) d=some (.lst zr.reverse):=aF
    have hxP:=hxn'.upd (zs:=zr.reverse) hd1
    generalize upd H' d (.lst zr.reverse)=H1 at sP hf1 hf2 hzr' hdP hxP⊢
    refine⟨_,rfl,z1,_,_,b1,rfl,hf1,by omega,fun c1 H2 s2 hc1=>?_⟩
    obtain⟨p,rfl,hpt⟩:=id hxP
    refine⟨_,rfl,p,_,rfl,.inr (aA.tup s2 hpt),fun l nl1=>⟨c1,l,_,_,rfl,rfl,(aA.upd nl1) _ _ hc1,aF,?_,fun l2 nl2=>?_⟩⟩
    ·rw[aL,aL,sizeLine_eq];omega
    have s4:aA H1 (upd (upd H2 l (.lst (n.map vb))) l2 (.lst ((eM (hd A1) (form A1)).map vb++n.map vb))):=(s2.trans (aA.upd nl1)).trans (aA.upd nl2)
    have hl2:(upd (upd H2 l (.lst (n.map vb))) l2 (.lst ((eM (hd A1) (form A1)).map vb++n.map vb))) l2=some (.lst ((eM (hd A1) (form A1)).map vb++n.map vb)):=aF
    generalize upd (upd H2 l (.lst (n.map vb))) l2 (.lst ((eM (hd A1) (form A1)).map vb++n.map vb))=H4 at s4 hl2⊢
    refine⟨_,rfl,_,rfl,z2,.ref p,_,n,_,b2,rfl,hf2.same s4,hxP.same s4,by omega,fun c2 H5 s5 hc2=>?_⟩
    refine⟨l2,c2,_,_,rfl,rfl,s5 _ _ hl2,hc2,?_,fun l6 nl6=>?_⟩
    ·rw[aS,aL,aL,aL,sizeLine_eq];omega
    have s6:=(s4.trans s5).trans (aA.upd (o:=.lst ((eM (hd A1) (form A1)).map vb++n.map vb++(fu (hd B1) n (form B1)).map vb)) nl6)
    have hl6:(upd H5 l6 (.lst ((eM (hd A1) (form A1)).map vb++n.map vb++(fu (hd B1) n (form B1)).map vb))) l6=some (.lst ((form (two c A1 B1)).map vb)):=by
     rw[aF,MF.mQ hc goA goB,bO,bO,dh,e]
    have nl6f:H l6=none:=((sP.trans s4).trans s5).free nl6
    have nl6d:l6≠d:=(ae ((s4.trans s5) _ _ hdP) nl6).symm
    generalize upd H5 l6 (.lst ((eM (hd A1) (form A1)).map vb++n.map vb++(fu (hd B1) n (form B1)).map vb))=H6 at s6 hl6⊢
    refine⟨_,rfl,.inl ⟨rfl,_,aE.of (s6 _ _ hdP)⟩,_,rfl,_,rfl,(by show 2<=sizeLine;decide),fun q nq=>?_⟩
    have s7:=s6.trans (aA.upd (o:=.tup [.ref p,.ref l6]) nq)
    have hd7:=s7 _ _ hdP
    refine⟨d,_,_,rfl,rfl,hd7,?_,?_⟩
    ·rw[fm,sizeLine_eq];simp only[aV] at hzl hgl;omega
    ·refine⟨_,_,_,_,_,.ref q::zr,rfl,aA.upd2 (sP.trans s7) hd0,aF.trans ?_,?_,?_,h1,by rw[ek2];exact h2⟩
     ·rw[eU]
     ·refine .cons ⟨l6,nl6d,nl6f,Hf.upd ⟨⟨q,.ref p,rfl,aW.of aF,?_⟩,(aA.upd nq) _ _ hl6⟩ hd7 nl6d⟩ (Paired.mono (fun _ _ z=>(z.same s7).upd hd7) hzr')
      rw[MF.Ez hc,<-e]
      exact hxP.same s7
     ·simp only[aV] at hgl⊢;omega
  ·rintro σ H' ⟨x1,x2,x3,x4,gs,zs,rfl,s1,hd1,hhp,_,hgg,hdr⟩
   rw[kj,l9] at hdr
   have eg:=MF.mP _ [F] gs rfl hdr.symm (by simp[hg]) hgg
   subst eg
   cases hhp with
   |cons a1 a2=>
    cases a2
    obtain⟨b,nb,fb,⟨p,x,rfl,q1,q2⟩,q3⟩:=a1
    refine⟨_,rfl,d,_,_,_,rfl,rfl,aE.of hd1,ah (j:=0) rfl,p,_,_,_,rfl,rfl,q1,ah (j:=1) rfl,k b H' s1 q3 fb⟩
end
open Vaneta (cutAt isSmall isWord isName)
open Vanetc (isDigit)
open MT (kF eW i9 fw rd du dE)
def IsT(K:aD)(H:Hp)(v:V)(t:List UInt8):Prop:=∃a,v=.ref a/\aE K H a (t.map vb)
theorem nR{a b:UInt8}:decide (vb a=vb b)=decide (a=b):=by
 rw[ck,decide_eq_true_iff,decide_eq_true_iff]
 exact⟨Hg,fun e=>by rw[e]⟩
theorem qV{t:List UInt8}{i:Nat}{x:V}(h:(t.map vb)[i]? =some x):∃c,t[i]? =some c/\x=vb c:=by
 rw[bo] at h
 cases e:t[i]? with
 |none=>rw[e] at h;cases h
 |some c=>rw[e] at h;exact⟨c,rfl,(bL h).symm⟩
structure vz (H H':Hp) (d:Addr) (as:List Addr) (ts:List (List UInt8)):Prop where
 same:aA H H'
 fresh:H d=none
 lst:H' d=some (.lst (as.map V.ref))
 nd:as.Nodup
 new:∀a∈as,H a=none/\a≠d
 at_:Paired (fun a t=>H' a=some (.lst (t.map vb))) as ts
theorem nS{α β:Type}{F:α->β->Prop}:∀{xs:List α} {ys:List β} {y:β},Paired F xs (ys++[y])->∃xs' x,xs=xs'++[x]/\Paired F xs' ys/\F x y
 |_,[],_,.cons r .nil=>⟨[],_,rfl,.nil,r⟩
 |_,y0::ys,y,.cons r t=>by
  obtain⟨xs',x,e,h1,h2⟩:=nS t
  exact⟨_::xs',x,by rw[e];rfl,.cons r h1,h2⟩
theorem wC{α β:Type}{F G:α->β->Prop}:∀{xs:List α} {ys:List β},Paired F xs ys->(∀x∈xs,∀y,F x y->G x y)->Paired G xs ys
 |_,_,.nil,_=>.nil
 |_,_,.cons r t,h=>.cons (h _ bY _ r) (wC t fun x hx y q=>h x (ba _ hx) y q)
theorem IE(b:UInt8)(t:List UInt8):∃ws w,cutAt b t=ws++[w]:=⟨_,_,(M7 (MT.sU b t)).symm⟩
section
variable{P:Program}{w:World}{K:aD}{mg:Str->Option Value}{base:Heap}
def nT(K:aD):Sp:=fun vs H Q _=>∃v t b,vs=[v,vb b]/\IsT K H v t/\t.length<=bz/\∀d as H',vz H H' d as (cutAt b t)->Q (.ref d) H'
theorem A7:aZ ["text","byte","pieces","other"] ["text","byte"] (aQ ux):=fS
theorem IF(D:aO K mg "split_at" ux):aK P w K mg base "split_at" 1 ["text","byte"] (nT K):=by
 refine D.cal A7 (fun vs H Q E h=>?_) (fun f cdv A outer s H vs Q E hr h=>?_)
 ·obtain⟨v,_,_,rfl,_⟩:=h
  rfl
 ·obtain⟨v,t,b,rfl,⟨a,rfl,ha⟩,hl,k⟩:=h
  have nd:=A7.nd
  refine⟨_,aG (aT (i:=2) nd rfl (aJ rfl) (au (aB (au aC) aC)))
   (aG (dy PassesOwn.never rfl (c6 (pv 0)) (bN (i:=3) nd rfl (aJ rfl))
    (aI (aj (ao iJ (pv 3) (pv 1) (ak _))
     (aI (bV (cG bR cw cy c7 (pv 2) (aB (au aC) aC))))
     (aI (bV (cG bR cw cy c7 (aa az (pv 2) (lM lN aR) (fun _ _=>rfl)) (aB (pv 3) aC)))))))
   (aI (aN (pv 2)))),?_⟩
  refine⟨bF _,fun z hz=>⟨(by show 1<=sizeLine;decide),fun d hd=>?_⟩⟩
  have hzd:z≠d:=by intro e;rw[e,aF] at hd;cases hd
  have hd0:H d=none:=(aA.upd hz).free hd
  have B0:vz H (upd (upd H z (.lst [])) d (.lst [.ref z])) d [z] (cutAt b (t.take 0)):=
   ⟨(aA.upd hz).trans (aA.upd hd),hd0,aF,by simp,fun x hx=>by rw[gO.mp hx];exact⟨hz,hzd⟩,.cons (by rw[aP hzd,aF];rfl) .nil⟩
  refine⟨_,rfl,a,rfl,⟨_,aA.seq B0.same ha⟩,gY (K:=K) (a:=a) (xs:=t.map vb) (fun i σ H'=>∃(x:Option V) (as:List Addr),σ=[some (.ref a),some (vb b),some (.ref d),x]/\vz H H' d as (cutAt b (t.take i)))
   ⟨none,[z],rfl,B0⟩ (fun i σ H' _ ⟨_,_,_,B⟩=>aA.seq B.same ha) ?_ ?_⟩
  ·rintro i y σ H' hi ⟨x,as,rfl,B⟩
   obtain⟨c,hc,rfl⟩:=qV hi
   have hil:i<t.length:=(bC.mp hc).1
   have hcl:=MT.lD b (t.take i)
   have htl:(t.take i).length<=t.length:=by rw[cM];omega
   have hal:=B.at_.length
   have hsl:=sizeLine_eq
   have hlim:bz=1000000:=rfl
   have es:=MT.yK b c (t.take i)
   rw[<-take_snoc hc] at es
   refine⟨_,rfl,_,rfl,rfl,_,rfl,?_⟩
   rw[nR]
   refine aU (fun e=>?_) (fun e=>?_)
   ·rw[if_pos (of_decide_eq_true e)] at es
    refine⟨_,rfl,.inl ⟨rfl,_,aE.of B.lst⟩,bF _,fun l hl'=>?_⟩
    have hdl:(upd H' l (.lst [])) d=some (.lst (as.map V.ref)):=(aA.upd hl') _ _ B.lst
    refine⟨d,_,_,rfl,rfl,hdl,by rw[aL];omega,?_⟩
    have hld:l≠d:=(ae B.lst hl').symm
    have hla:∀x∈as,x≠l:=fun x hx q=>by
     obtain⟨y,_,hy⟩:=bw B.at_ (bU (Lr.mpr hx))
     rw[Ls,q,hl'] at hy
     cases hy
    refine⟨_,as++[l],rfl,⟨aA.upd2 (B.same.trans (aA.upd hl')) hd0,hd0,aF.trans (by rw[bO];rfl),?_,?_,?_⟩⟩
    ·refine rT.mpr ⟨B.nd,by simp,fun x hx y hy=>?_⟩
     rw[gO.mp hy]
     exact hla x hx
    ·intro x hx
     rcases dD.mp hx with hx|hx
     ·exact B.new x hx
     ·rw[gO.mp hx];exact⟨B.same.free hl',hld⟩
    ·rw[es]
     refine Paired.snoc (wC B.at_ fun x hx y q=>?_) ?_
     ·rw[aP (B.new x hx).2,aP (hla x hx)];exact q
     ·rw[aP hld,aF];rfl
   ·have e':¬c=b:=fun q=>e (decide_eq_true q)
    rw[if_neg e'] at es
    obtain⟨ws,wl,ew⟩:=IE b (t.take i)
    have hat:=B.at_
    rw[ew] at hat
    obtain⟨as',al,ea,hp1,hp2⟩:=nS hat
    have hmem:al∈as:=by rw[ea];simp
    have hwl:wl.length<=t.length:=bW (hcl.2 wl (by rw[ew];simp)) htl
    refine⟨_,rfl,_,rfl,d,_,_,V.ref al,rfl,rfl,aE.of B.lst,?_,.inl ⟨rfl,_,aE.of hp2⟩,_,rfl,al,_,_,rfl,rfl,hp2,by rw[aL];omega,?_⟩
    ·rw[ea,bO];exact t9 _ _
    ·have hnd:=B.nd
     rw[ea] at hnd
     obtain⟨n1,n2,n3⟩:=rT.mp hnd
     refine⟨_,as,rfl,⟨aA.upd2 B.same (B.new al hmem).1,hd0,by rw[aP (B.new al hmem).2.symm];exact B.lst,B.nd,B.new,?_⟩⟩
     rw[es,ew,MT.yL,ea]
     refine Paired.snoc (wC hp1 fun x hx y q=>?_) ?_
     ·rw[aP (n3 x hx al (by simp))];exact q
     ·rw[aF,bO];rfl
  ·rintro σ H' ⟨x,as,rfl,B⟩
   rw[aL,cQ] at B
   exact⟨_,rfl,k d as H' B⟩
end
theorem qW(a:UInt8)(b:UInt8):decide ((a.toNat:Int)<=(b.toNat:Int))=decide (a<=b):=by
 rw[ck,decide_eq_true_iff,decide_eq_true_iff,M8]
 omega
theorem wD(b:UInt8):isWord b=(isSmall b||isDigit b):=rfl
structure fC (K:aD) (mg:Str->Option Value):Prop where
 len:mg "len"=none
 tuple:mg "tuple"=none
 list:mg "list"=none
 all:mg "all"=none
 blank:dC mg "BLANK" 32
 comma:dC mg "COMMA" 44
 dash:dC mg "DASH" 45
 semi:dC mg "SEMICOLON" 59
 arrow:fY K mg "ARROW" [45,111]
 signs:fY K mg "SIGN_BYTES" [126,42,124,40,41]
 mname:dC mg "MOST_NAME_BYTES" 12
 mform:dC mg "MOST_FORMULA_BYTES" 2000
 mun:dC mg "MOST_UNCLOSED" 100
 mforms:dC mg "MOST_FORMULAS" 20
theorem boot_tuple:bootBuiltins "tuple"=some (.type "tuple"):=by decide+kernel
theorem IG{p:UInt8->Bool}{t:List UInt8}:∀{a e:Nat},a<=e->e<=t.length->(∀j c,a<=j->j<e->t[j]? =some c->p c=true)->(e=t.length\/∃c,t[e]? =some c/\p c=false)->(t.drop a).takeWhile p=(t.drop a).take (e-a):=by
 intro a e
 induction h:e-a generalizing a with
 |zero=>
  intro hae het hall hend
  have ea:a=e:=by omega
  subst ea
  rw[oG]
  rcases hend with q|⟨c,hc,hp⟩
  ·rw[q,xk];rfl
  ·have hlt:a<t.length:=(bC.mp hc).1
   rw[fg hlt,(bC.mp hc).2,ll,if_neg (by rw[hp];decide)]
 |succ n ih=>
  intro hae het hall hend
  have hlt:a<t.length:=by omega
  have hpa:p t[a]=true:=hall a t[a] (aY _) (by omega) (bU hlt)
  rw[fg hlt,ll,if_pos hpa,oJ,ih (a:=a+1) (by omega) (by omega) het (fun j c h1 h2 h3=>hall j c (by omega) h2 h3) hend]
section
variable{P:Program}{w:World}{K:aD}{mg:Str->Option Value}{base:Heap}
def wF:Sp:=fun vs H Q _=>∃b,vs=[vb b]/\Q (.bl (isDigit b)) H
def wG:Sp:=fun vs H Q _=>∃b,vs=[vb b]/\Q (.bl (isSmall b)) H
theorem IH:aZ ["byte"] ["byte"] (aQ uz):=fS
theorem II:aZ ["byte"] ["byte"] (aQ vC):=fS
theorem IJ(D:aO K mg "is_digit" uz):aK P w K mg base "is_digit" 1 ["byte"] wF:=by
 refine D.cal IH (fun vs H Q E h=>?_) (fun f cdv A outer s H vs Q E hr h=>?_)
 ·obtain⟨b,rfl,_⟩:=h
  rfl
 ·obtain⟨b,rfl,k⟩:=h
  refine⟨_,aI (aN (pR ij ij aR (pv 0) aR)),?_⟩
  refine⟨_,rfl,_,_,rfl,rfl,_,rfl,?_⟩
  have e0:isDigit b=(decide ((48:Int)<=(b.toNat:Int))&&decide ((b.toNat:Int)<=57)):=by
   unfold isDigit
   rw[<-qW 48 b,<-qW b 57];rfl
  rw[e0] at k
  refine aU (fun e=>⟨_,_,rfl,rfl,?_⟩) (fun e=>?_)
  ·rw[e,gz] at k;exact k
  ·rw[dI.mpr e,lu] at k;exact k
theorem IK(D:aO K mg "is_small_letter" vC):aK P w K mg base "is_small_letter" 1 ["byte"] wG:=by
 refine D.cal II (fun vs H Q E h=>?_) (fun f cdv A outer s H vs Q E hr h=>?_)
 ·obtain⟨b,rfl,_⟩:=h
  rfl
 ·obtain⟨b,rfl,k⟩:=h
  refine⟨_,aI (aN (pR ij ij aR (pv 0) aR)),?_⟩
  refine⟨_,rfl,_,_,rfl,rfl,_,rfl,?_⟩
  have e0:isSmall b=(decide ((97:Int)<=(b.toNat:Int))&&decide ((b.toNat:Int)<=122)):=by
   unfold isSmall
   rw[<-qW 97 b,<-qW b 122];rfl
  rw[e0] at k
  refine aU (fun e=>⟨_,_,rfl,rfl,?_⟩) (fun e=>?_)
  ·rw[e,gz] at k;exact k
  ·rw[dI.mpr e,lu] at k;exact k
def A8(K:aD):Sp:=fun vs H Q _=>∃v t p,vs=[v,.int (p:Nat)]/\IsT K H v t/\t.length<=bz/\p<=t.length/\∀v' H',aA H H'->ai K H' v' ((t.drop p).takeWhile isWord)->Q v' H'
theorem A9:aZ ["text","place","end"] ["text","place"] (aQ vD):=fS
theorem IL(D:aO K mg "stretch_at" vD)(T:fC K mg)(C1:aK P w K mg base "is_digit" 1 ["byte"] wF)(C2:aK P w K mg base "is_small_letter" 1 ["byte"] wG):
  aK P w K mg base "stretch_at" 2 ["text","place"] (A8 K):=by
 refine D.cal A9 (fun vs H Q E h=>?_) (fun f cdv A outer s H vs Q E hr h=>?_)
 ·obtain⟨v,_,_,rfl,_⟩:=h
  rfl
 ·obtain⟨v,t,p,rfl,⟨a,rfl,ha⟩,hl,hpl,k⟩:=h
  have nd:=A9.nd
  refine⟨_,aG (aT (i:=2) nd rfl (aJ rfl) (pv 1))
   (aG (iI PassesOwn.never (lH (ao jb (pv 2) (bD bI (by rfl) T.len bM (aB (pv 0) aC)) (ak _))
     (lG (iF (cA (pc C2 hr (aB (aa az (pv 0) (pv 2) (fun _ _=>rfl)) aC))) (ie (cA (pc C1 hr (aB (aa az (pv 0) (pv 2) (fun _ _=>rfl)) aC))))).pt)).pt
    (aI (j9 (i:=2) nd rfl (aJ rfl) aR kM)))
   (aI (aN (gZ zb (by rfl) T.tuple boot_tuple (aB (gD iL (pv 0) (dz (pv 1)) (dz (pv 2))) aC))))),?_⟩
  refine⟨_,rfl,?_⟩
  refine⟨fun m σ H'=>∃e:Nat,m=t.length-e/\σ=[some (.ref a),some (.int (p:Nat)),some (.int (e:Nat))]/\H'=H/\p<=e/\e<=t.length/\∀j c,p<=j->j<e->t[j]? =some c->isWord c=true,
   ⟨_,p,rfl,rfl,rfl,aY _,hpl,fun j c h1 h2=>by omega⟩,?_⟩
  rintro m σ H' ⟨e,rfl,rfl,rfl,hpe,het,hall⟩
  have fin:(e=t.length\/∃c,t[e]? =some c/\isWord c=false)->eZ (mr (fun xs H Q=>∃p ys,xs=[.ref p]/\((aE K H p ys/\∀l,H l=none->Q (.ref l) (upd H l (.tup ys)))\/(aW K H p ys/\Q (.ref p) H))) (cO (pU (pV K) (ax 0) (kT (ax 1)) (kT (ax 2))) cK)) {nx:=fun _ H'=>Q .non H',rt:=Q} [some (.ref a),some (.int (p:Nat)),some (.int (e:Nat))] H':=fun hend=>by
   refine⟨_,rfl,_,rfl,_,rfl,_,rfl,_,rfl,a,_,rfl,ha,fun q hq=>⟨q,_,rfl,.inl ⟨aE.of aF,fun l hl'=>?_⟩⟩⟩
   refine k _ _ ((aA.upd hq).trans (aA.upd hl')) ⟨l,rfl,?_⟩
   rw[IG hpe het hall hend]
   have ec:cW (t.map vb) (some (p:Nat)) (some (e:Nat))=((t.drop p).take (e-p)).map vb:=by
    rw[nO,HT.gC,HT.gC,jC hpl,jC het]
   rw[ec]
   exact aW.of aF
  refine⟨_,rfl,_,rfl,a,_,rfl,.inl ha,_,_,rfl,rfl,_,rfl,?_⟩
  rw[aL]
  refine aU (fun q=>?_) (fun q=>?_)
  ·have het':e<t.length:=by have:=of_decide_eq_true q;omega
   have hc:t[e]? =some t[e]:=bU het'
   have hcv:(t.map vb)[e]? =some (vb t[e]):=by rw[bo,hc];rfl
   have go:isWord t[e]=true->∃N:L2.St->Hp->Prop,(∀σ' H'',N σ' H''->∃m',m'<t.length-e/\∃e:Nat,m'=t.length-e/\σ'=[some (.ref a),some (.int (p:Nat)),some (.int (e:Nat))]/\H''=H'/\p<=e/\e<=t.length/\∀j c,p<=j->j<e->t[j]? =some c->isWord c=true)/\
     N [some (.ref a),some (.int (p:Nat)),some (.int ((e:Nat)+1))] H':=fun hw=>by
    refine⟨fun σ' H''=>σ'=[some (.ref a),some (.int (p:Nat)),some (.int ((e+1:Nat)))]/\H''=H',?_,rfl,rfl⟩
    rintro σ' H'' ⟨rfl,rfl⟩
    refine⟨t.length-(e+1),by omega,e+1,rfl,rfl,rfl,by omega,by omega,fun j c h1 h2 h3=>?_⟩
    by_cases hj:j=e
    ·subst hj;rw[hc] at h3;cases h3;exact hw
    ·exact hall j c h1 (by omega) h3
   refine⟨_,rfl,_,rfl,a,_,_,_,rfl,rfl,ha,ah hcv,_,rfl,_,rfl,?_⟩
   refine aU (fun h1=>?_) (fun h1=>?_)
   ·obtain⟨N,n1,n2⟩:=go (by rw[wD,h1];rfl)
    exact⟨N,n1,_,rfl,_,_,rfl,rfl,n2⟩
   ·refine⟨_,rfl,_,rfl,a,_,_,_,rfl,rfl,ha,ah hcv,_,rfl,_,rfl,?_⟩
    refine aU (fun h2=>?_) (fun h2=>?_)
    ·obtain⟨N,n1,n2⟩:=go (by rw[wD,h2,oU])
     exact⟨N,n1,_,rfl,_,_,rfl,rfl,n2⟩
    ·exact fin (.inr ⟨_,hc,by rw[wD,dI.mpr h1,dI.mpr h2];rfl⟩)
  ·have hq:¬((e:Int)<(t.length:Int)):=fun z=>q (decide_eq_true z)
   exact fin (.inl (by omega))
def qX(K:aD):Sp:=fun vs H Q _=>∃v n,vs=[v]/\ai K H v n/\Q (.bl (eW n)) H
theorem IM:aZ ["stretch"] ["stretch"] (aQ vE):=fS
theorem IP(D:aO K mg "is_name" vE)(T:fC K mg)(C2:aK P w K mg base "is_small_letter" 1 ["byte"] wG):aK P w K mg base "is_name" 2 ["stretch"] (qX K):=by
 refine D.cal IM (fun vs H Q E h=>?_) (fun f cdv A outer s H vs Q E hr h=>?_)
 ·obtain⟨b,_,rfl,_⟩:=h
  rfl
 ·obtain⟨v,n,rfl,⟨a,rfl,ha⟩,k⟩:=h
  refine⟨_,aI (aN (lJ (pR ij ij aR (bD bI (by rfl) T.len bM (aB (pv 0) aC)) (bX T.mname)) (lI (pc C2 hr (aB (aa cX (pv 0) aR (fun _ _=>rfl)) aC))))),?_⟩
  refine⟨_,rfl,a,_,rfl,.inr ha,_,_,rfl,rfl,_,rfl,?_⟩
  rw[aL]
  have e1:decide ((1:Int)<=(n.length:Int))=decide (1<=n.length):=by rw[ck,decide_eq_true_iff,decide_eq_true_iff];omega
  have e2:decide ((n.length:Int)<=12)=decide (n.length<=12):=by rw[ck,decide_eq_true_iff,decide_eq_true_iff];omega
  rw[e1]
  refine aU (fun q=>?_) (fun q=>?_)
  ·refine⟨_,_,rfl,rfl,_,rfl,?_⟩
   rw[e2]
   refine aU (fun q2=>?_) (fun q2=>?_)
   ·have hn:1<=n.length:=of_decide_eq_true q
    cases n with
    |nil=>exact absurd hn (by decide)
    |cons c r=>
     refine⟨_,rfl,a,_,_,_,rfl,rfl,ha,ah (j:=0) rfl,c,rfl,?_⟩
     have e3:eW (c::r)=isSmall c:=by
      unfold eW
      rw[q,q2];rfl
     rw[e3] at k
     exact k
   ·have e3:eW n=false:=by
     unfold eW
     rw[q,dI.mpr q2];rfl
    rw[e3] at k
    exact k
  ·have e3:eW n=false:=by
    unfold eW
    rw[dI.mpr q];rfl
   rw[e3] at k
   exact⟨_,rfl,ir k⟩
end
open Vaneta (cutAt isSmall isWord isName Token)
open MP (dS)
theorem IQ(a b:UInt8):iM (vb a) (vb b)=(a==b):=by
 show((a.toNat:Int)==(b.toNat:Int))=_
 rw[ck,beq_iff_eq,beq_iff_eq]
 constructor
 ·intro h;exact Dy.mp (by omega)
 ·intro h;rw[h]
theorem IR(t:List UInt8):(t.map vb).all iq=true:=by
 rw[cJ]
 intro x hx
 obtain⟨b,_,rfl⟩:=cT.mp hx
 rfl
theorem IS(c:UInt8):fL (vb c) (([126,42,124,40,41]:List UInt8).map vb)=i9 c:=by
 unfold fL i9
 simp only[bg,Du,iY,List.any_nil,IQ,kD]
 rw[ck]
 simp only[xf,beq_iff_eq]
 constructor
 ·rintro(h|h|h|h|h)<;>simp[<-h]
 ·rintro(h|h|h|h|h)<;>simp[h]
theorem IT{t:List UInt8}{p:Nat}(hp:p<=t.length):cW (t.map vb) (some (p:Nat)) (some ((p:Int)+2))=((t.drop p).take 2).map vb:=by
 have e:((p:Int)+2)=((p+2:Nat):Int):=by omega
 rw[nO,e,HT.gC,HT.gC,jC hp]
 congr 1
 by_cases h:p+2<=t.length
 ·rw[jC h];congr 1;omega
 ·rw[Nat.min_eq_right (by omega),ra (by rw[di];omega),ra (by rw[di];omega)]
section
variable{P:Program}{w:World}{K:aD}{mg:Str->Option Value}{base:Heap}
def Aa(K:aD):Sp:=fun vs H Q _=>∃v t p,vs=[v,.int (p:Nat)]/\IsT K H v t/\t.length<=bz/\p<t.length/\(∀w v' H',fw (t.drop p)=some w->aA H H'->ai K H' v' w->Q v' H')/\(fw (t.drop p)=none->∀H',aA H H'->Q .non H')
theorem Ab:aZ ["text","place","stretch"] ["text","place"] (aQ vF):=fS
theorem IU(D:aO K mg "token_at" vF)(T:fC K mg)(C1:aK P w K mg base "stretch_at" 2 ["text","place"] (A8 K))(C2:aK P w K mg base "is_name" 2 ["stretch"] (qX K)):
  aK P w K mg base "token_at" 3 ["text","place"] (Aa K):=by
 refine D.cal Ab (fun vs H Q E h=>?_) (fun f cdv A outer s H vs Q E hr h=>?_)
 ·obtain⟨v,_,_,rfl,_⟩:=h
  rfl
 ·obtain⟨v,t,p,rfl,⟨a,rfl,ha⟩,hl,hpl,k1,k2⟩:=h
  have nd:=Ab.nd
  refine⟨_,aG (aj (ao mw (aa az (pv 0) (pv 1) (fun _ _=>rfl)) (bT T.signs) rfl) (aI (aN (eQ (aB (aa az (pv 0) (pv 1) (fun _ _=>rfl)) aC)))) ay)
   (aG (aj (ao (fM hr.units) (gZ zb (by rfl) T.tuple boot_tuple (aB (gD iL (pv 0) (dz (pv 1)) (dz (bH e9 (pv 1) aR))) aC)) (bT T.arrow) (ak _)) (aI (aN (bT T.arrow))) ay)
   (aG (aT (i:=2) nd rfl (aJ rfl) (pc C1 hr (aB (pv 0) (aB (pv 1) aC))))
   (aI (aN (iG (cA (pc C2 hr (aB (pv 2) aC))) (pv 2) bu))))),?_⟩
  have hc:t[p]? =some t[p]:=bU hpl
  have hcv:(t.map vb)[p]? =some (vb t[p]):=by rw[bo,hc];rfl
  have ed:t.drop p=t[p]::t.drop (p+1):=fg hpl
  refine⟨_,rfl,_,rfl,a,_,_,_,rfl,rfl,ha,ah hcv,fun u hu=>?_⟩
  obtain⟨q,rfl,hq⟩:=hu H
  refine⟨q,_,rfl,.inr hq,rfl,IR _,_,rfl,?_⟩
  rw[show(if false=true then !fL (vb t[p]) (([126,42,124,40,41]:List UInt8).map vb) else fL (vb t[p]) (([126,42,124,40,41]:List UInt8).map vb))=i9 t[p] from IS _]
  refine aU (fun e=>?_) (fun e=>?_)
  ·refine⟨_,rfl,_,rfl,a,_,_,_,rfl,rfl,ha,ah hcv,(by show 1<=sizeLine;decide),fun l hl'=>?_⟩
   refine k1 [t[p]] _ _ ?_ (aA.upd hl') ⟨l,rfl,aW.of aF⟩
   rw[ed]
   exact if_pos e
  ·refine⟨_,rfl,_,rfl,_,rfl,_,rfl,_,_,rfl,rfl,_,rfl,a,_,rfl,ha,fun q1 hq1=>⟨q1,_,rfl,.inl ⟨aE.of aF,fun l hl'=>?_⟩⟩⟩
   rw[IT (kg hpl)] at hl'⊢
   have s1:aA H (upd (upd H q1 (.lst (((t.drop p).take 2).map vb))) l (.tup (((t.drop p).take 2).map vb))):=(aA.upd hq1).trans (aA.upd hl')
   have hnl:ai K (upd (upd H q1 (.lst (((t.drop p).take 2).map vb))) l (.tup (((t.drop p).take 2).map vb))) (.ref l) ((t.drop p).take 2):=⟨l,rfl,aW.of aF⟩
   generalize upd (upd H q1 (.lst (((t.drop p).take 2).map vb))) l (.tup (((t.drop p).take 2).map vb))=H1 at s1 hnl⊢
   refine fun u2 hu2=>fX hnl (hu2 H1) ⟨_,rfl,?_⟩
   have et:fw (t.drop p)=if(t.drop p).take 2=[45,111] then some [45,111] else if eW ((t.drop p).takeWhile isWord)=true then some ((t.drop p).takeWhile isWord) else none:=by
    unfold fw
    rw[if_neg]
    rw[ed]
    exact e
   refine aU (fun e2=>?_) (fun e2=>?_)
   ·have e2:=of_decide_eq_true e2
    rw[if_pos e2] at et
    exact fun u3 hu3=>k1 _ _ _ et s1 (hu3 H1)
   ·have e2:¬(t.drop p).take 2=[45,111]:=fun z=>e2 (decide_eq_true z)
    rw[if_neg e2] at et
    refine⟨_,rfl,_,rfl,.ref a,t,p,rfl,⟨a,rfl,aA.seq s1 ha⟩,hl,kg hpl,fun v' H2 s2 hv'=>?_⟩
    refine⟨_,rfl,v',_,rfl,hv',_,rfl,?_⟩
    refine aU (fun e3=>?_) (fun e3=>?_)
    ·rw[if_pos e3] at et
     exact⟨_,rfl,k1 _ _ _ et (s1.trans s2) hv'⟩
    ·rw[if_neg e3] at et
     exact k2 et H2 (s1.trans s2)
def Ac(K:aD):Sp:=fun vs H Q _=>∃v t,vs=[v]/\IsT K H v t/\t.length<=bz/\(∀ts d ws H',rd t=some ts->aA H H'->H' d=some (.lst ws)->H d=none->Paired (ai K H') ws (ts.map du)->Q (.ref d) H')/\(rd t=none->∀H',aA H H'->Q .non H')
theorem Ad:aZ ["text","tokens","place","token"] ["text"] (aQ vG):=fS
theorem ai.not_non{K:aD}{H:Hp}{v:V}{n:List UInt8}(h:ai K H v n):decide (v=V.non)=false:=by
 obtain⟨a,rfl,_⟩:=h
 exact decide_eq_false (by intro e;cases e)
theorem IV(D:aO K mg "read_tokens" vG)(T:fC K mg)(C1:aK P w K mg base "token_at" 3 ["text","place"] (Aa K)):aK P w K mg base "read_tokens" 4 ["text"] (Ac K):=by
 refine D.cal Ad (fun vs H Q E h=>?_) (fun f cdv A outer s H vs Q E hr h=>?_)
 ·obtain⟨v,_,rfl,_⟩:=h
  rfl
 ·obtain⟨v,t,rfl,⟨a,rfl,ha⟩,hl,k1,k2⟩:=h
  have nd:=Ad.nd
  refine⟨_,aG (aT (i:=1) nd rfl (aJ rfl) (au aC))
   (aG (aT (i:=2) nd rfl (aJ rfl) aR)
   (aG (iI PassesOwn.never (ao jb (pv 2) (bD bI (by rfl) T.len bM (aB (pv 0) aC)) (ak _))
    (aI (aj (ao iJ (aa az (pv 0) (pv 2) (fun _ _=>rfl)) (bX T.blank) (ak _))
     (aI (j9 (i:=2) nd rfl (aJ rfl) aR kM))
     (aG (aT (i:=3) nd rfl (aJ rfl) (pc C1 hr (aB (pv 0) (aB (pv 2) aC))))
     (aG (aj (ao kN (pv 3) bu (ak _)) (aI (aN bu)) ay)
     (aG (bV (cG bR cw cy c7 (pv 1) (aB (pv 3) aC)))
     (aI (j9 (i:=2) nd rfl (aJ rfl) (bD bI (by rfl) T.len bM (aB (pv 3) aC)) kM))))))))
   (aI (aN (pv 1))))),?_⟩
  refine⟨bF _,fun d hd=>?_⟩
  have hlim:bz=1000000:=rfl
  have hsl:=sizeLine_eq
  refine⟨fun m σ H'=>∃(p:Nat) (x:Option V) (l:List Token) (ws:List V),m=t.length-p/\σ=[some (.ref a),some (.ref d),some (.int (p:Nat)),x]/\aA H H'/\H' d=some (.lst ws)/\Paired (ai K H') ws (l.map du)/\l.length<=p/\p<=t.length+12/\rd t=(rd (t.drop p)).map (fun r=>l++r),
   ⟨_,0,none,[],[],rfl,rfl,aA.upd hd,aF,.nil,aY _,by omega,?_⟩,?_⟩
  ·show rd t=(rd t).map _
   cases rd t<;>rfl
  rintro m σ H' ⟨p,x,l,ws,rfl,rfl,s1,hd1,hwp,hlp,hpt,hrd⟩
  have ha':=aA.seq s1 ha
  refine⟨_,rfl,_,rfl,a,_,rfl,.inl ha',_,_,rfl,rfl,_,rfl,?_⟩
  rw[aL]
  refine aU (fun q=>?_) (fun q=>?_)
  ·have hp:p<t.length:=by have:=of_decide_eq_true q;omega
   have hc:t[p]? =some t[p]:=bU hp
   have hcv:(t.map vb)[p]? =some (vb t[p]):=by rw[bo,hc];rfl
   have ed:t.drop p=t[p]::t.drop (p+1):=fg hp
   refine⟨fun σ' H''=>∃m',m'<t.length-p/\∃(p:Nat) (x:Option V) (l:List Token) (ws:List V),m'=t.length-p/\σ'=[some (.ref a),some (.ref d),some (.int (p:Nat)),x]/\aA H H''/\H'' d=some (.lst ws)/\Paired (ai K H'') ws (l.map du)/\l.length<=p/\p<=t.length+12/\rd t=(rd (t.drop p)).map (fun r=>l++r),fun _ _ h=>h,?_⟩
   refine⟨_,rfl,_,rfl,a,_,_,_,rfl,rfl,ha',ah hcv,rfl,_,rfl,?_⟩
   rw[show decide (vb t[p]=V.int 32)=decide (t[p]=32) from nR (b:=32)]
   refine aU (fun e=>?_) (fun e=>?_)
   ·have e:=of_decide_eq_true e
    refine⟨_,rfl,_,_,rfl,rfl,t.length-(p+1),by omega,p+1,x,l,ws,rfl,rfl,s1,hd1,hwp,by omega,by omega,?_⟩
    rw[hrd,ed,e,MT.sZ]
   ·have e:¬t[p]=32:=fun z=>e (decide_eq_true z)
    have h0:∀c r,t.drop p=c::r->c≠32:=fun c r z=>by rw[ed] at z;injection z with z _;rw[<-z];exact e
    refine⟨_,rfl,_,rfl,.ref a,t,p,rfl,⟨a,rfl,ha'⟩,hl,hp,fun w v' H2 hw s2 hv'=>?_,fun hw H2 s2=>?_⟩
    ·obtain⟨tk,g1,g2,g3,g4,g5⟩:=MT.si h0 hw
     refine⟨_,rfl,rfl,_,rfl,?_⟩
     rw[hv'.not_non]
     refine ir ?_
     have hd2:=s2 _ _ hd1
     have hwl:=hwp.length
     rw[aL] at hwl
     refine⟨_,rfl,.inl ⟨rfl,_,aE.of hd2⟩,_,rfl,d,_,_,rfl,rfl,hd2,by omega,?_⟩
     obtain⟨q',rfl,hq'⟩:=id hv'
     refine⟨_,rfl,_,rfl,q',_,rfl,.inr (aW.upd hq' hd2),_,_,rfl,rfl,t.length-(p+w.length),by omega,p+w.length,some (.ref q'),l++[tk],ws++[.ref q'],rfl,?_,aA.upd2 (s1.trans s2) hd,aF,?_,?_,by omega,?_⟩
     ·show[some (V.ref a),some (V.ref d),some (V.int ((p:Int)+((w.map vb).length:Int))),some (V.ref q')]=_
      rw[aL]
      have:(p:Int)+(w.length:Int)=((p+w.length:Nat):Int):=by omega
      rw[this]
     ·rw[bO]
      refine Paired.snoc (Paired.mono (fun _ _ z=>z.upd hd2) (eC hwp s2)) ?_
      rw[g1];exact hv'.upd hd2
     ·rw[aS];show l.length+1<=_;omega
     ·rw[hrd,g3,rS,Option.map_map]
      congr 1
      funext r
      show l++tk::r=l++[tk]++r
      rw[dh];rfl
    ·refine⟨_,rfl,rfl,_,rfl,?_⟩
     refine k2 ?_ H2 (s1.trans s2)
     rw[hrd,MT.sj h0 (fun z=>by rw[ed] at z;cases z) hw];rfl
  ·have hq:¬((p:Int)<(t.length:Int)):=fun z=>q (decide_eq_true z)
   rw[mD (by omega),MT.FD] at hrd
   have hrd:rd t=some l:=by rw[hrd];show some (l++[])=some l;rw[d8]
   exact⟨_,rfl,k1 l d ws H' hrd s1 hd1 hd hwp⟩
end
open Vaneta (cutAt isSmall isWord isName Token Formula two)
open MP (dS good U)
structure bZ (K:aD) (C:Addr) (m qual:Str) (st:Stmt):Prop where
 ex:∃(f:Addr) (fd:FuncData),mm K C m f/\fV K m qual st f fd
section
variable(P:Program)(w:World)(K:aD)(mg:Str->Option Value)(base:Heap)
structure bE (C:Addr) (m:Str) (k:Nat) (ps:List Str) (sp:Sp):Prop where
 ex:∃(f:Addr) (fd:FuncData),mm K C m f/\Binds K fd ps []/\dB P w K mg base eT k f fd ps sp
end
theorem bZ.cal{P:Program}{w:World}{K:aD}{mg:Str->Option Value}{base:Heap}{C:Addr}{x qual:Str}{st:Stmt}{N ps:List Str}{k:Nat}{sp:Sp}(D:bZ K C x qual st)(S:aZ N ps (aQ st))
  (len:∀vs H Q E,sp vs H Q E->vs.length=ps.length)
  (hbody:∀(f:Addr) (cdv:Value) (A:Around) (outer:List Env) (s:Shared) (H:Hp) (vs:List V) (Q:VK) (E:XK),bh k (A.deeper (envOfC qual (aQ st) s.heap.objs.size f cdv))->sp vs H Q E->
   ∃t,eY (jd eT P w K mg base N qual (aQ st) f cdv A outer s H E).nox (fU st) t/\t {nx:=fun _ H'=>Q .non H',rt:=Q} (start N vs) H)
  (hb:∀(kV doc pm:Value) (an:Option Addr) (cdv ct:Value) (us:List Value),us.length=ps.length->bindArgs (hU x qual (iN st) (fU st) (aQ st) .none kV doc pm an cdv ct) ⟨us,[]⟩=pure (ps.zip us):=by first|(exact fun _ _ _ _ _ _ us hl=>match us,hl with|[_],_=>rfl)|(exact fun _ _ _ _ _ _ us hl=>match us,hl with|[_,_],_=>rfl)|(exact fun _ _ _ _ _ _ us hl=>match us,hl with|[_,_,_],_=>rfl)|(exact fun _ _ _ _ _ _ us hl=>match us,hl with|[_,_,_,_],_=>rfl)|(exact fun _ _ _ _ _ _ us hl=>match us,hl with|[],_=>rfl)):bE P w K mg base C x (k+1) ps sp:=by
 obtain⟨f,fd,h1,F⟩:=D.ex
 exact⟨f,fd,h1,F.binds hb,F.ok S len (hbody f)⟩
section
variable{X:Cx}{C:Addr}{m:Str}{k:Nat}{ps:List Str}{sp:Sp}{p pos apos:Pos}{e o:Expr}{es:List Expr}{t:TA}{ta:TE}
theorem pm{pl:Sem Bool}(c:eP X.K C)(M:bE X.prog X.w X.K X.mg X.base C m k ps sp)(hr:bh k X.A)(he:PE X o ta)(ha:PA X (e::es) t)
  (hst:starEach (e::es) X.env=(false,eval e X.env)::starEach es X.env:=by rfl)(hpl:(backTo pos (starEach es X.env)).any (·.1)=false:=by rfl)
  (ht:eval (.Call (.Attribute o m apos) (e::es) [] pos) X.env=(do
   let ov<-eval o X.env
   standAt apos.atName
   let(f,first)<-holding [ov] (getMethod ov m pl)
   callWith pos f first (backTo pos (starEach (e::es) X.env)) (backToKw pos (keywordEach [] X.env))):=by rfl):
  PE X (.Call (.Attribute o m apos) (e::es) [] pos) (lO C m sp [] E0 ta t):=by
 obtain⟨f,fd,h1,h2,h3⟩:=M.ex
 exact GO (pl:=pl) he c h1 h3 hr h2 .nil kU ha hst hpl ht
theorem d4{pl:Sem Bool}(c:eP X.K C)(M:bE X.prog X.w X.K X.mg X.base C m k ps sp)(hr:bh k X.A)(he:PE X o ta)
  (ht:eval (.Call (.Attribute o m apos) [] [] pos) X.env=(do
   let ov<-eval o X.env
   standAt apos.atName
   let(f,first)<-holding [ov] (getMethod ov m pl)
   callWith pos f first (backTo pos (starEach [] X.env)) (backToKw pos (keywordEach [] X.env))):=by rfl):
  PE X (.Call (.Attribute o m apos) [] [] pos) (lO C m sp [] E0 ta cK):=by
 obtain⟨f,fd,h1,h2,h3⟩:=M.ex
 exact GP (pl:=pl) he c h1 h3 hr h2 .nil kU ht
end
theorem Ae{t:Bool}{a:List UInt8}(h:isName a=true):(bG (t,a)).length<=13:=by
 have h2:a.length<=12:=by
  unfold isName at h
  rw[ag,ag] at h
  exact of_decide_eq_true h.2.1
 unfold bG
 cases t
 ·show a.length<=13;omega
 ·show(126::a).length<=13;rw[aV];omega
theorem gh:∀{A:Formula},good A=true->∀n∈nl A,n.length<=13
 |.atom t a,h,n,hn=>by
  have:n=bG (t,a):=by simpa [nl] using hn
  rw[this];exact Ae h
 |.tensor A B,h,n,hn=>by
  have h':=MF.bS.mp h
  have hn:n∈[42]::(nl A++nl B):=hn
  rcases bc.mp hn with rfl|hn
  ·decide
  ·rcases dD.mp hn with hn|hn
   ·exact gh h'.1 n hn
   ·exact gh h'.2 n hn
 |.par A B,h,n,hn=>by
  have h':=MF.bS.mp h
  have hn:n∈[124]::(nl A++nl B):=hn
  rcases bc.mp hn with rfl|hn
  ·decide
  ·rcases dD.mp hn with hn|hn
   ·exact gh h'.1 n hn
   ·exact gh h'.2 n hn
 |.wth A B,h,_,_=>nomatch h
 |.plus A B,h,_,_=>nomatch h
 |.ofc A,h,_,_=>nomatch h
 |.whn A,h,_,_=>nomatch h
structure de (K:aD) (H:Hp) (g:Addr) (A:Formula):Prop where
 good:good A=true
 at_:∃vs,H g=some (.lst vs)/\Paired (ai K H) vs (nl A)
theorem de.same{K:aD}{H H':Hp}{g:Addr}{A:Formula}(h:de K H g A)(e:aA H H'):de K H' g A:=by
 obtain⟨h1,vs,h2,h3⟩:=h
 exact⟨h1,vs,e _ _ h2,eC h3 e⟩
theorem de.upd{K:aD}{H:Hp}{g D:Addr}{A:Formula}{ys zs:List V}(h:de K H g A)(hD:H D=some (.lst ys))(hne:g≠D):de K (upd H D (.lst zs)) g A:=by
 obtain⟨h1,vs,h2,h3⟩:=h
 exact⟨h1,vs,by rw[aP hne];exact h2,Paired.mono (fun _ _ q=>q.upd hD) h3⟩
theorem de.isNs{K:aD}{H:Hp}{g:Addr}{A:Formula}(h:de K H g A):kY K H (.ref g) (nl A):=by
 obtain⟨h1,vs,h2,h3⟩:=h
 exact⟨g,vs,rfl,aE.of h2,h3⟩
theorem de.isF{K:aD}{H:Hp}{g:Addr}{A:Formula}(h:de K H g A)(hl:(nl A).length<=10000):jn K H (.ref g) A:=⟨h.good,hl,fun n hn=>bW (gh h.good n hn) (by decide),h.isNs⟩
variable{Nw:Addr->Prop}
def iQ:U->List UInt8
 |.tilde=>[126]
 |.left=>[40]
 |.tensor=>[42]
 |.par=>[124]
 |.arrow=>[45,111]
structure RC (K:aD) (C:Addr):Prop where
 cl:eP K C
 n1:dk K C "unclosed"
 n2:dk K C "finished"
 n3:dk K C "wants_part"
def rf(u f:Addr)(b:Bool):List (Str×V):=[("unclosed",.ref u),("finished",.ref f),("wants_part",.bl b)]
theorem iu(u f:Addr)(b:Bool):(rf u f b).lookup ("unclosed":Str)=some (.ref u):=rfl
theorem jq(u f:Addr)(b:Bool):(rf u f b).lookup ("finished":Str)=some (.ref f):=rfl
theorem Af(u f:Addr)(b:Bool):(rf u f b).lookup ("wants_part":Str)=some (.bl b):=rfl
theorem eD(u f:Addr)(b:Bool){m:Str}(h1:(m==("unclosed":Str))=false)(h2:(m==("finished":Str))=false)(h3:(m==("wants_part":Str))=false):(rf u f b).lookup m=none:=by
 unfold rf
 rw[dt,h1,dt,h2,dt,h3];rfl
theorem wH(u f:Addr)(b b':Bool):cn "wants_part" (.bl b') (rf u f b)=rf u f b':=rfl
def Fr(p u f:Addr)(H H':Hp):Prop:=∀b o,b≠p->b≠u->b≠f->H b=some o->H' b=some o
theorem Fr.refl(p u f:Addr)(H:Hp):Fr p u f H H:=fun _ _ _ _ _ h=>h
theorem Fr.trans{p u f:Addr}{H H1 H2:Hp}(a:Fr p u f H H1)(b:Fr p u f H1 H2):Fr p u f H H2:=fun c o h1 h2 h3 h=>b c o h1 h2 h3 (a c o h1 h2 h3 h)
theorem Fr.of_same{p u f:Addr}{H H':Hp}(a:aA H H'):Fr p u f H H':=fun c o _ _ _ h=>a c o h
theorem Fr.p{p u f:Addr}{H:Hp}{o:HO}:Fr p u f H (L2.upd H p o):=fun c q h1 _ _ h=>by rw[aP h1];exact h
theorem Fr.u{p u f:Addr}{H:Hp}{o:HO}:Fr p u f H (L2.upd H u o):=fun c q _ h1 _ h=>by rw[aP h1];exact h
theorem Fr.f{p u f:Addr}{H:Hp}{o:HO}:Fr p u f H (L2.upd H f o):=fun c q _ _ h1 h=>by rw[aP h1];exact h
theorem Fr.same{p u f:Addr}{H0 H H':Hp}(s:aA H0 H)(r:Fr p u f H H')(hp:H0 p=none)(hu:H0 u=none)(hf:H0 f=none):aA H0 H':=fun b o e=>r b o (ae e hp) (ae e hu) (ae e hf) (s b o e)
theorem gH{H:Hp}{a b:Addr}{o:HO}(q:L2.upd H a o b=none):H b=none:=by
 by_cases e:b=a
 ·rw[e,aF] at q;cases q
 ·rw[aP e] at q;exact q
structure Kd (Nw:Addr->Prop) (C:Addr) (p dx u f:Addr) (H:Hp) (b:Bool) (us fs:List V):Prop where
 ins:H p=some (.ins C dx (rf u f b))
 un:H u=some (.lst us)
 fi:H f=some (.lst fs)
 uf:u≠f
 nw:∀a,H a=none->Nw a
theorem Kd.pu{C p dx u f:Addr}{H:Hp}{b:Bool}{us fs:List V}(h:Kd Nw C p dx u f H b us fs):p≠u:=dG h.ins h.un (by intro e;cases e)
theorem Kd.pf{C p dx u f:Addr}{H:Hp}{b:Bool}{us fs:List V}(h:Kd Nw C p dx u f H b us fs):p≠f:=dG h.ins h.fi (by intro e;cases e)
theorem Kd.same{C p dx u f:Addr}{H H':Hp}{b:Bool}{us fs:List V}(h:Kd Nw C p dx u f H b us fs)(e:aA H H'):Kd Nw C p dx u f H' b us fs:=⟨e _ _ h.ins,e _ _ h.un,e _ _ h.fi,h.uf,fun a q=>h.nw a (aA.free e q)⟩
theorem Kd.setU{C p dx u f:Addr}{H:Hp}{b:Bool}{us fs us':List V}(h:Kd Nw C p dx u f H b us fs):Kd Nw C p dx u f (L2.upd H u (.lst us')) b us' fs:=⟨by rw[aP h.pu];exact h.ins,aF,by rw[aP h.uf.symm];exact h.fi,h.uf,fun a q=>h.nw a (gH q)⟩
theorem Kd.setF{C p dx u f:Addr}{H:Hp}{b:Bool}{us fs fs':List V}(h:Kd Nw C p dx u f H b us fs):Kd Nw C p dx u f (L2.upd H f (.lst fs')) b us fs':=⟨by rw[aP h.pf];exact h.ins,by rw[aP h.uf];exact h.un,aF,h.uf,fun a q=>h.nw a (gH q)⟩
theorem Kd.setP{C p dx u f:Addr}{H:Hp}{b b':Bool}{us fs:List V}(h:Kd Nw C p dx u f H b us fs):Kd Nw C p dx u f (L2.upd H p (.ins C dx (rf u f b'))) b' us fs:=⟨aF,by rw[aP h.pu.symm];exact h.un,by rw[aP h.pf.symm];exact h.fi,h.uf,fun a q=>h.nw a (gH q)⟩
theorem Fr.tup{K:aD}{C p dx u f:Addr}{H H':Hp}{b:Bool}{us fs:List V}{a:Addr}{xs:List V}(r:Fr p u f H H')(k:Kd Nw C p dx u f H b us fs)(h:aW K H a xs):aW K H' a xs:=by
 rcases h with(h|⟨ob,h⟩)|h
 ·exact .inl (.inl (r _ _ (dG h k.ins (by intro e;cases e)) (dG h k.un (by intro e;cases e)) (dG h k.fi (by intro e;cases e)) h))
 ·exact .inl (.inr ⟨ob,r _ _ (dG h k.ins (by intro e;cases e)) (dG h k.un (by intro e;cases e)) (dG h k.fi (by intro e;cases e)) h⟩)
 ·exact .inr h
theorem Fr.isN{K:aD}{C p dx u f:Addr}{H H':Hp}{b:Bool}{us fs:List V}{v:V}{n:List UInt8}(r:Fr p u f H H')(k:Kd Nw C p dx u f H b us fs)(h:ai K H v n):ai K H' v n:=by
 obtain⟨a,rfl,q⟩:=h
 exact⟨a,rfl,r.tup k q⟩
def Gx(K:aD)(Nw:Addr->Prop)(p u f:Addr)(H:Hp)(v:V)(A:Formula):Prop:=∃g,v=.ref g/\Nw g/\g≠p/\g≠u/\g≠f/\de K H g A
theorem Fr.gx{K:aD}{C p dx u f:Addr}{H H':Hp}{b:Bool}{us fs:List V}{v:V}{A:Formula}(r:Fr p u f H H')(k:Kd Nw C p dx u f H b us fs)(h:Gx K Nw p u f H v A):Gx K Nw p u f H' v A:=by
 obtain⟨g,rfl,h0,h1,h2,h3,h4,vs,h5,h6⟩:=h
 exact⟨g,rfl,h0,h1,h2,h3,h4,vs,r _ _ h1 h2 h3 h5,Paired.mono (fun _ _ q=>r.isN k q) h6⟩
structure RS (K:aD) (Nw:Addr->Prop) (C p dx u f:Addr) (H:Hp) (st:MP.St):Prop where
 ex:∃us fs,Kd Nw C p dx u f H st.want us fs/\Paired (ai K H) us (st.un.reverse.map iQ)/\Paired (Gx K Nw p u f H) fs st.fi.reverse
theorem RS.same{K:aD}{C p dx u f:Addr}{H H':Hp}{st:MP.St}(h:RS K Nw C p dx u f H st)(e:aA H H'):RS K Nw C p dx u f H' st:=by
 obtain⟨us,fs,k,h1,h2⟩:=h.ex
 have r:Fr p u f H H':=.of_same e
 exact⟨us,fs,k.same e,Paired.mono (fun _ _ q=>r.isN k q) h1,Paired.mono (fun _ _ q=>r.gx k q) h2⟩
def LU(K:aD)(H:Hp)(v:V):Option U->Prop
 |none=>v=.non
 |some x=>ai K H v (iQ x)
def dU:Option U->PyData
 |none=>.none
 |some x=>dN (iQ x)
theorem LU.dp{K:aD}{H:Hp}{v:V}{o:Option U}(h:LU K H v o):Dp K H v (dU o):=by
 cases o with
 |none=>cases h;exact .non
 |some x=>exact ai.dp h
theorem LU.same{K:aD}{H H':Hp}{v:V}{o:Option U}(h:LU K H v o)(e:aA H H'):LU K H' v o:=by
 cases o with
 |none=>exact h
 |some x=>exact ai.same h e
theorem lR(o:Option U):SeqAt.shaped (dU o)=true:=by
 cases o with
 |none=>rfl
 |some x=>exact eA _
theorem qY{α β:Type}{F:α->β->Prop}{xs:List α}{ys:List β}{y:β}(h:Paired F xs (y::ys).reverse):∃xs' x,xs=xs'++[x]/\Paired F xs' ys.reverse/\F x y:=by
 rw[eU] at h
 exact nS h
theorem nU{α γ β:Type}{F:α->β->Prop}{e:γ->β}{xs:List α}{ys:List γ}{y:γ}(h:Paired F xs ((y::ys).reverse.map e)):∃xs' x,xs=xs'++[x]/\Paired F xs' (ys.reverse.map e)/\F x (e y):=by
 rw[eU,bO] at h
 exact nS h
section
variable{P:Program}{w:World}{K:aD}{mg:Str->Option Value}{base:Heap}{C:Addr}
def lS(K:aD)(Nw:Addr->Prop)(C:Addr):Sp:=fun vs H Q _=>∃p dx u f st,vs=[.ref p]/\RS K Nw C p dx u f H st/\∀v,LU K H v st.un.head?->Q v H
theorem IW:aZ ["self"] ["self"] (aQ vI):=fS
theorem IX(D:bZ K C "last_unclosed" "FormulaReader.last_unclosed" vI)(R:RC K C):bE P w K mg base C "last_unclosed" 1 ["self"] (lS K Nw C):=by
 refine D.cal IW (fun vs H Q E h=>?_) (fun fa cdv A outer s H vs Q E hr h=>?_)
 ·obtain⟨p,_,_,_,_,rfl,_⟩:=h
  rfl
 ·obtain⟨p,dx,u,f,st,rfl,hR,k⟩:=h
  obtain⟨us,fs,kd,h1,h2⟩:=hR.ex
  refine⟨_,aI (aN (iG (kP (aX (pv 0) rfl) (fun _=>rfl)) (aa az (aX (pv 0) rfl) (lM lN aR) (fun _ _=>rfl)) bu)),?_⟩
  refine⟨_,rfl,p,C,dx,_,_,rfl,kd.ins,R.cl,R.n1,iu _ _ _,_,.inl ⟨us,aE.of kd.un,rfl⟩,?_⟩
  cases e:st.un with
  |nil=>
   rw[e] at h1 k
   have eu:us=[]:=by cases h1;rfl
   subst eu
   exact k .non rfl
  |cons x r=>
   rw[e] at h1 k
   obtain⟨us',y,rfl,_,hy⟩:=nU h1
   refine aU (fun _=>?_) (fun q=>absurd (by cases us'<;>rfl) q)
   exact⟨_,rfl,p,C,dx,_,_,rfl,kd.ins,R.cl,R.n1,iu _ _ _,_,rfl,u,_,_,y,rfl,rfl,aE.of kd.un,t9 _ _,k y hy⟩
end
open MP (dS good U joined)
variable{Nw:Addr->Prop}
theorem iR{α β:Type}{F:α->β->Prop}:∀{xs xs':List α} {ys ys':List β},Paired F xs ys->Paired F xs' ys'->Paired F (xs++xs') (ys++ys')
 |_,_,_,_,.nil,h=>h
 |_,_,_,_,.cons r t,h=>.cons r (iR t h)
theorem wI{α β:Type}{F:α->β->Prop}{xs:List α}{x:α}{ys:List β}{y:β}(h:Paired F xs ys.reverse)(q:F x y):Paired F (xs++[x]) (y::ys).reverse:=by
 rw[eU];exact Paired.snoc h q
section
variable{P:Program}{w:World}{K:aD}{mg:Str->Option Value}{base:Heap}{C:Addr}
def wJ(K:aD)(Nw:Addr->Prop)(C:Addr):Sp:=fun vs H Q _=>∃p dx u f st s un' A B fi',vs=[.ref p]/\RS K Nw C p dx u f H st/\st.un=s::un'/\st.fi=B::A::fi'/\(s=.tensor\/s=.par\/s=.arrow)/\(nl A).length+(nl B).length<=10000/\st.fi.length<=10000/\
 ∀H',Fr p u f H H'->RS K Nw C p dx u f H' ⟨un',joined s A B::fi',st.want⟩->Q .non H'
theorem Ag:aZ ["self","sign","second","first"] ["self"] (aQ vR):=fS
theorem IY(D:bZ K C "join_last_two" "FormulaReader.join_last_two" vR)(R:RC K C)(T:cY K mg)(T2:fC K mg)(C1:aK P w K mg base "dual" 2 ["formula"] (nP K)):
  bE P w K mg base C "join_last_two" 3 ["self"] (wJ K Nw C):=by
 refine D.cal Ag (fun vs H Q E h=>?_) (fun fa cdv A outer s H vs Q E hr h=>?_)
 ·obtain⟨p,_,_,_,_,_,_,_,_,_,rfl,_⟩:=h
  rfl
 ·obtain⟨p,dx,u,f,st,sg,un',A1,B1,fi',rfl,hR,eu,ef,hsg,hlen,hfl,k⟩:=h
  have nd:=Ag.nd
  refine⟨_,aG (aT (i:=1) nd rfl (aJ rfl) (gE bR iZ i0 g6 (aX (pv 0) rfl)))
   (aG (aT (i:=2) nd rfl (aJ rfl) (gE bR iZ i0 g6 (aX (pv 0) rfl)))
   (aG (aT (i:=3) nd rfl (aJ rfl) (gE bR iZ i0 g6 (aX (pv 0) rfl)))
   (aI (aj (ao (fM hr.units) (pv 1) (bT T2.arrow) (ak _))
    (aI (bV (cG bR cw cy c7 (aX (pv 0) rfl)
     (aB (bH c8 (bH c8 (au (aB (bT T.par) aC)) (pc C1 hr (aB (pv 3) aC))) (pv 2)) aC))))
    (aI (bV (cG bR cw cy c7 (aX (pv 0) rfl)
     (aB (bH c8 (bH c8 (au (aB (pv 1) aC)) (pv 3)) (pv 2)) aC)))))))),?_⟩
  obtain⟨us,fs,kd,h1,h2⟩:=hR.ex
  rw[eu] at h1
  rw[ef] at h2
  obtain⟨us',x1,rfl,h1',hx1⟩:=nU h1
  obtain⟨fs',y2,rfl,h2',hy2⟩:=qY h2
  obtain⟨fs'',y1,rfl,h2'',hy1⟩:=qY h2'
  have hfl':=h2.length
  have hsl:=sizeLine_eq
  have hlim:bz=1000000:=rfl
  have kd1:=kd.setU (us':=us')
  have kd2:=kd1.setF (fs':=fs''++[y1])
  have kd3:=kd2.setF (fs':=fs'')
  rw[eX] at kd3
  have r3:Fr p u f H (upd (upd H u (.lst us')) f (.lst fs'')):=Fr.u.trans Fr.f
  refine⟨_,rfl,p,C,dx,_,_,rfl,kd.ins,R.cl,R.n1,iu _ _ _,.inl ⟨rfl,_,aE.of kd.un⟩,fZ kd.un ?_⟩
  refine⟨_,rfl,p,C,dx,_,_,rfl,kd1.ins,R.cl,R.n2,jq _ _ _,.inl ⟨rfl,_,aE.of kd1.fi⟩,fZ kd1.fi ?_⟩
  refine⟨_,rfl,p,C,dx,_,_,rfl,kd2.ins,R.cl,R.n2,jq _ _ _,.inl ⟨rfl,_,aE.of kd2.fi⟩,fZ kd2.fi ?_⟩
  rw[eX]
  have g1:=r3.isN kd hx1
  have g2:=r3.gx kd hy2
  have g3:=r3.gx kd hy1
  have g4:Paired (ai K (upd (upd H u (.lst us')) f (.lst fs''))) us' (un'.reverse.map iQ):=Paired.mono (fun _ _ q=>r3.isN kd q) h1'
  have g5:Paired (Gx K Nw p u f (upd (upd H u (.lst us')) f (.lst fs''))) fs'' fi'.reverse:=Paired.mono (fun _ _ q=>r3.gx kd q) h2''
  generalize upd (upd H u (.lst us')) f (.lst fs'')=H3 at kd3 r3 g1 g2 g3 g4 g5⊢
  obtain⟨gB,rfl,b0,b1,b2,b3,gB4⟩:=g2
  obtain⟨gA,rfl,a0,a1,a2,a3,gA4⟩:=g3
  obtain⟨goA,va,hva,pva⟩:=gA4
  obtain⟨goB,vbb,hvb,pvb⟩:=gB4
  have la:=pva.length
  have lb:=pvb.length
  have fin:∀(H4:Hp) (l:Addr) (zs:List V) (J:Formula),aA H3 H4->H3 l=none->H4 l=some (.lst zs)->good J=true->Paired (ai K H4) zs (nl J)->J=joined sg A1 B1->
    jh (.ref f) [.ref l] H4 fun v H'=>Q .non H':=fun H4 l zs J s4 hl hz gJ pJ eJ=>by
   have kd4:=kd3.same s4
   refine⟨f,_,_,rfl,rfl,kd4.fi,?_,?_⟩
   ·rw[aS,aS,fm] at hfl'
    rw[ef] at hfl
    simp only[aV,jU] at hfl' hfl
    omega
   ·have r4:Fr p u f H3 H4:=.of_same s4
    have kd5:=kd4.setF (fs':=fs''++[.ref l])
    have r5:Fr p u f H4 (upd H4 f (.lst (fs''++[.ref l]))):=Fr.f
    refine k _ ((r3.trans r4).trans r5) ⟨_,_,kd5,Paired.mono (fun _ _ q=>r5.isN kd4 (r4.isN kd3 q)) g4,?_⟩
    refine wI (Paired.mono (fun _ _ q=>r5.gx kd4 (r4.gx kd3 q)) g5) (r5.gx kd4 ⟨l,rfl,kd3.nw l hl,(ae kd3.ins hl).symm,(ae kd3.un hl).symm,(ae kd3.fi hl).symm,?_⟩)
    rw[<-eJ]
    exact⟨gJ,zs,hz,pJ⟩
  refine⟨_,rfl,fun v1 hv1=>fX g1 (hv1 H3) ⟨_,rfl,?_⟩⟩
  refine aU (fun e=>?_) (fun e=>?_)
  ·have es:sg=.arrow:=by
    have e:=of_decide_eq_true e
    rcases hsg with rfl|rfl|rfl
    ·exact absurd e (by decide)
    ·exact absurd e (by decide)
    ·rfl
   refine⟨_,rfl,p,C,dx,_,_,rfl,kd3.ins,R.cl,R.n2,jq _ _ _,.inl ⟨rfl,_,aE.of kd3.fi⟩,fun v2 hv2=>⟨(by show 1<=sizeLine;decide),fun l1 hl1=>?_⟩⟩
   have s1:aA H3 (upd H3 l1 (.lst [v2])):=aA.upd hl1
   have hL1:(upd H3 l1 (.lst [v2])) l1=some (.lst [v2]):=aF
   generalize upd H3 l1 (.lst [v2])=H4 at s1 hL1⊢
   refine⟨_,rfl,.ref gA,nl A1,rfl,⟨gA,va,rfl,aE.of (s1 _ _ hva),eC pva s1⟩,by omega,fun n hn=>bW (gh goA n hn) (by decide),fun b2' ws2 H5 s5 hb2 hb2n pw2=>?_⟩
   have lw2:=pw2.length
   rw[aL] at lw2
   refine⟨l1,b2',_,_,rfl,rfl,s5 _ _ hL1,hb2,?_,fun l2 hl2=>?_⟩
   ·rw[hsl,rZ];omega
   have s6:aA H5 (upd H5 l2 (.lst ([v2]++ws2))):=aA.upd hl2
   have hL2:(upd H5 l2 (.lst ([v2]++ws2))) l2=some (.lst ([v2]++ws2)):=aF
   generalize upd H5 l2 (.lst ([v2]++ws2))=H6 at s6 hL2⊢
   have s36:=(s1.trans s5).trans s6
   refine⟨_,rfl,l2,gB,_,_,rfl,rfl,hL2,s36 _ _ hvb,?_,fun l3 hl3=>?_⟩
   ·rw[hsl,aS,rZ];omega
   have s7:=s36.trans (aA.upd (o:=.lst ([v2]++ws2++vbb)) hl3)
   refine fin _ l3 _ (.par (lp A1) B1) s7 (s36.free hl3) aF ?_ ?_ (by rw[es];rfl)
   ·show(good (lp A1)&&good B1)=true
    rw[MP.eV,goA,goB];rfl
   ·show Paired _ _ ([124]::(nl (lp A1)++nl B1))
    rw[MF.i8 goA]
    refine .cons (hv2 _) (iR (eC (eC pw2 s6) (aA.upd hl3)) (eC pvb s7))
  ·have es:sg=.tensor\/sg=.par:=by
    rcases hsg with rfl|rfl|rfl
    ·exact .inl rfl
    ·exact .inr rfl
    ·exact absurd (decide_eq_true rfl) e
   refine⟨_,rfl,p,C,dx,_,_,rfl,kd3.ins,R.cl,R.n2,jq _ _ _,.inl ⟨rfl,_,aE.of kd3.fi⟩,_,rfl,(by show 1<=sizeLine;decide),fun l1 hl1=>?_⟩
   have s1:aA H3 (upd H3 l1 (.lst [x1])):=aA.upd hl1
   have hL1:(upd H3 l1 (.lst [x1])) l1=some (.lst [x1]):=aF
   generalize upd H3 l1 (.lst [x1])=H4 at s1 hL1⊢
   refine⟨_,rfl,l1,gA,_,_,rfl,rfl,hL1,s1 _ _ hva,?_,fun l2 hl2=>?_⟩
   ·rw[hsl,rZ];omega
   have s6:aA H4 (upd H4 l2 (.lst ([x1]++va))):=aA.upd hl2
   have hL2:(upd H4 l2 (.lst ([x1]++va))) l2=some (.lst ([x1]++va)):=aF
   generalize upd H4 l2 (.lst ([x1]++va))=H6 at s6 hL2⊢
   have s36:=s1.trans s6
   refine⟨_,rfl,l2,gB,_,_,rfl,rfl,hL2,s36 _ _ hvb,?_,fun l3 hl3=>?_⟩
   ·rw[hsl,aS,rZ];omega
   have s7:=s36.trans (aA.upd (o:=.lst ([x1]++va++vbb)) hl3)
   refine fin _ l3 _ (joined sg A1 B1) s7 (s36.free hl3) aF ?_ ?_ rfl
   ·rcases es with rfl|rfl
    ·show(good A1&&good B1)=true;rw[goA,goB];rfl
    ·show(good A1&&good B1)=true;rw[goA,goB];rfl
   ·have en:nl (joined sg A1 B1)=iQ sg::(nl A1++nl B1):=by rcases es with rfl|rfl<;>rfl
    rw[en]
    exact .cons (g1.same s7) (iR (eC pva s7) (eC pvb s7))
end
open Vaneta (cutAt isSmall isWord isName Token Formula two dual)
open MP (dS good U joined endPart endChain endForm)
variable{Nw:Addr->Prop}
open MS (aw sz ib j6 gT)
theorem nV{k:Nat}{A:Around}(r:bh k A):A.units+65<cLine:=by have:=r.un;omega
theorem Ah{k:Nat}{A:Around}(r:bh k A):A.units+80<cLine:=by have:=r.un;omega
theorem IZ(o:Option U):PyData.eqv (dU o) (dN [126])=decide (o=some .tilde):=by
 cases o with
 |none=>rfl
 |some x=>cases x<;>rfl
theorem I0(o:Option U):PyData.eqv (dU o) (dN [40])=decide (o=some .left):=by
 cases o with
 |none=>rfl
 |some x=>cases x<;>rfl
theorem Ai(o:Option U):([dN [42],dN [124]].any fun e=>PyData.eqv e (dU o))=ib o:=by
 cases o with
 |none=>rfl
 |some x=>cases x<;>rfl
theorem Ia(o:Option U):([dN [42],dN [124],dN [45,111]].any fun e=>PyData.eqv e (dU o))=j6 o:=by
 cases o with
 |none=>rfl
 |some x=>cases x<;>rfl
section
variable{P:Program}{w:World}{K:aD}{mg:Str->Option Value}{base:Heap}{C:Addr}
def qZ(K:aD)(Nw:Addr->Prop)(C:Addr):Sp:=fun vs H Q _=>∃p dx u f st,vs=[.ref p]/\RS K Nw C p dx u f H st/\aw st.un st.fi/\sz st.fi+st.un.length<=10000/\
 ∀H',Fr p u f H H'->RS K Nw C p dx u f H' ⟨(endPart st.un st.fi).1,(endPart st.un st.fi).2,false⟩->Q .non H'
theorem Ib:aZ ["self"] ["self"] (aQ vO):=fS
theorem Ic(D:bZ K C "end_part" "FormulaReader.end_part" vO)(R:RC K C)(T:cY K mg)(C1:aK P w K mg base "dual" 2 ["formula"] (nP K))(M1:bE P w K mg base C "last_unclosed" 1 ["self"] (lS K Nw C)):
  bE P w K mg base C "end_part" 3 ["self"] (qZ K Nw C):=by
 refine D.cal Ib (fun vs H Q E h=>?_) (fun fa cdv A outer s H vs Q E hr h=>?_)
 ·obtain⟨p,_,_,_,_,rfl,_⟩:=h
  rfl
 ·obtain⟨p,dx,u,f,st,rfl,hR,hF,hsz,k⟩:=h
  have hr1:=hr.mono (show 1<=2 by decide)
  have hsl:=sizeLine_eq
  have hlim:bz=1000000:=rfl
  refine⟨_,aG (iI PassesOwn.never (ao (fM hr.units) (d4 R.cl M1 hr1 (pv 0)) (bT T.tilde) (ak _))
    (aG (bV (gE bR iZ i0 g6 (aX (pv 0) rfl)))
    (aI (bV (cG bR cw cy c7 (aX (pv 0) rfl)
     (aB (pc C1 hr (aB (gE bR iZ i0 g6 (aX (pv 0) rfl)) aC)) aC))))))
   (aI (dY (pv 0) dj rfl)),?_⟩
  refine⟨fun m σ H'=>∃un fi,m=un.length/\σ=[some (.ref p)]/\Fr p u f H H'/\RS K Nw C p dx u f H' ⟨un,fi,st.want⟩/\endPart un fi=endPart st.un st.fi/\aw un fi/\sz fi+un.length<=10000,
   ⟨_,st.un,st.fi,rfl,rfl,Fr.refl _ _ _ _,hR,rfl,hF,hsz⟩,?_⟩
  rintro m σ H' ⟨un,fi,rfl,rfl,r1,hR1,ee,hF1,hs1⟩
  obtain⟨us,fs,kd,h1,h2⟩:=hR1.ex
  refine⟨_,rfl,p,dx,_,rfl,kd.ins,eD _ _ _ rfl rfl rfl,p,dx,u,f,_,rfl,hR1,fun v hv c hc=>⟨_,_,hv.dp,(hc H').dp,lR _,eA _,_,rfl,?_⟩⟩
  rw[IZ]
  refine aU (fun e=>?_) (fun e=>?_)
  ·have e:un.head?=some .tilde:=of_decide_eq_true e
   obtain⟨un',rfl⟩:∃un',un=.tilde::un':=by
    cases un with
    |nil=>cases e
    |cons x r=>exact⟨r,by rw[bL e]⟩
   obtain⟨A1,fi',rfl⟩:=hF1.one
   obtain⟨us',x1,rfl,h1',hx1⟩:=nU h1
   obtain⟨fs',y1,rfl,h2',hy1⟩:=qY h2
   have kd1:=kd.setU (us':=us')
   have kd2:=kd1.setF (fs':=fs')
   have r2:Fr p u f H' (upd (upd H' u (.lst us')) f (.lst fs')):=Fr.u.trans Fr.f
   obtain⟨q1,q2⟩:=hF1.dual
   have hfl:=h2.length
   rw[fm] at hfl
   have szl:=MS.mV (A1::fi')
   have szm:=MS.so (fi:=A1::fi') (A:=A1) (by simp)
   refine⟨fun σ' H''=>∃m',m'<(U.tilde::un').length/\∃un fi,m'=un.length/\σ'=[some (.ref p)]/\Fr p u f H H''/\RS K Nw C p dx u f H'' ⟨un,fi,st.want⟩/\endPart un fi=endPart st.un st.fi/\aw un fi/\sz fi+un.length<=10000,fun _ _ h=>h,?_⟩
   refine⟨_,rfl,p,C,dx,_,_,rfl,kd.ins,R.cl,R.n1,iu _ _ _,.inl ⟨rfl,_,aE.of kd.un⟩,fZ kd.un ?_⟩
   refine⟨_,rfl,p,C,dx,_,_,rfl,kd1.ins,R.cl,R.n2,jq _ _ _,.inl ⟨rfl,_,aE.of kd1.fi⟩,_,rfl,p,C,dx,_,_,rfl,kd1.ins,R.cl,R.n2,jq _ _ _,.inl ⟨rfl,_,aE.of kd1.fi⟩,fZ kd1.fi ?_⟩
   have g3:=r2.gx kd hy1
   have g4:Paired (ai K (upd (upd H' u (.lst us')) f (.lst fs'))) us' (un'.reverse.map iQ):=Paired.mono (fun _ _ q=>r2.isN kd q) h1'
   have g5:Paired (Gx K Nw p u f (upd (upd H' u (.lst us')) f (.lst fs'))) fs' fi'.reverse:=Paired.mono (fun _ _ q=>r2.gx kd q) h2'
   generalize upd (upd H' u (.lst us')) f (.lst fs')=H3 at kd2 r2 g3 g4 g5⊢
   obtain⟨g,rfl,a0,a1,a2,a3,goA,va,hva,pva⟩:=g3
   refine⟨.ref g,nl A1,rfl,⟨g,va,rfl,aE.of hva,pva⟩,by omega,fun n hn=>bW (gh goA n hn) (by decide),fun b ws H4 s4 hb hbn pw=>?_⟩
   have kd4:=kd2.same s4
   have r4:Fr p u f H3 H4:=.of_same s4
   refine⟨f,_,_,rfl,rfl,kd4.fi,?_,?_⟩
   ·rw[aS] at hfl
    simp only[aV,jU] at hfl szl
    omega
   ·have r5:Fr p u f H4 (upd H4 f (.lst (fs'++[.ref b]))):=Fr.f
    refine⟨un'.length,by simp,un',dual A1::fi',rfl,rfl,((r1.trans r2).trans r4).trans r5,⟨_,_,kd4.setF,Paired.mono (fun _ _ q=>r5.isN kd4 (r4.isN kd2 q)) g4,?_⟩,ee,q1,by omega⟩
    refine wI (Paired.mono (fun _ _ q=>r5.gx kd4 (r4.gx kd2 q)) g5) (r5.gx kd4 ⟨b,rfl,kd2.nw b hbn,(ae kd2.ins hbn).symm,(ae kd2.un hbn).symm,(ae kd2.fi hbn).symm,by rw[MP.eV];exact goA,ws,hb,by rw[MF.i8 goA];exact pw⟩)
  ·have e:¬un.head?=some .tilde:=fun z=>e (decide_eq_true z)
   have ep:=MP.kE (f:=fi) e
   rw[ep] at ee
   refine⟨_,rfl,p,C,dx,_,rfl,kd.ins,R.cl,R.n3,(by show 3<1000;decide),?_⟩
   rw[wH,]
   have r5:Fr p u f H' (upd H' p (.ins C dx (rf u f false))):=Fr.p
   refine k _ (r1.trans r5) ⟨us,fs,kd.setP,?_,?_⟩
   ·rw[<-ee];exact Paired.mono (fun _ _ q=>r5.isN kd q) h1
   ·rw[<-ee];exact Paired.mono (fun _ _ q=>r5.gx kd q) h2
def Aj(K:aD)(Nw:Addr->Prop)(C:Addr):Sp:=fun vs H Q _=>∃p dx u f st,vs=[.ref p]/\RS K Nw C p dx u f H st/\aw st.un st.fi/\sz st.fi+st.un.length<=10000/\
 ∀H',Fr p u f H H'->RS K Nw C p dx u f H' ⟨(endChain st.un st.fi).1,(endChain st.un st.fi).2,st.want⟩->Q .non H'
def wK(K:aD)(Nw:Addr->Prop)(C:Addr):Sp:=fun vs H Q _=>∃p dx u f st,vs=[.ref p]/\RS K Nw C p dx u f H st/\aw st.un st.fi/\sz st.fi+st.un.length<=10000/\
 ∀H',Fr p u f H H'->RS K Nw C p dx u f H' ⟨(endForm st.un st.fi).1,(endForm st.un st.fi).2,st.want⟩->Q .non H'
theorem Ie:aZ ["self"] ["self"] (aQ vP):=fS
theorem Ig:aZ ["self"] ["self"] (aQ vQ):=fS
theorem Ih(D:bZ K C "end_chain" "FormulaReader.end_chain" vP)(R:RC K C)(T:cY K mg)(M1:bE P w K mg base C "last_unclosed" 1 ["self"] (lS K Nw C))(M2:bE P w K mg base C "join_last_two" 3 ["self"] (wJ K Nw C)):
  bE P w K mg base C "end_chain" 4 ["self"] (Aj K Nw C):=by
 refine D.cal Ie (fun vs H Q E h=>?_) (fun fa cdv A outer s H vs Q E hr h=>?_)
 ·obtain⟨p,_,_,_,_,rfl,_⟩:=h
  rfl
 ·obtain⟨p,dx,u,f,st,rfl,hR,hF,hsz,k⟩:=h
  have hr1:=hr.mono (show 1<=3 by decide)
  have hu65:=nV hr
  refine⟨_,aI (iI PassesOwn.never (ao (nN hu65) (d4 R.cl M1 hr1 (pv 0)) (eQ (aB (bT T.tensor) (aB (bT T.par) aC))) rfl)
    (aI (bV (d4 R.cl M2 hr (pv 0))))),?_⟩
  refine⟨fun m σ H'=>∃un fi,m=un.length/\σ=[some (.ref p)]/\Fr p u f H H'/\RS K Nw C p dx u f H' ⟨un,fi,st.want⟩/\endChain un fi=endChain st.un st.fi/\aw un fi/\sz fi+un.length<=10000,
   ⟨_,st.un,st.fi,rfl,rfl,Fr.refl _ _ _ _,hR,rfl,hF,hsz⟩,?_⟩
  rintro m σ H' ⟨un,fi,rfl,rfl,r1,hR1,ee,hF1,hs1⟩
  obtain⟨us,fs,kd,h1,h2⟩:=hR1.ex
  refine⟨_,rfl,p,dx,_,rfl,kd.ins,eD _ _ _ rfl rfl rfl,p,dx,u,f,_,rfl,hR1,fun v hv c1 hc1 c2 hc2=>⟨(by show 2<=sizeLine;decide),fun t ht=>?_⟩⟩
  have s1:aA H' (upd H' t (.tup [c1,c2])):=aA.upd ht
  refine⟨t,_,_,[dN [42],dN [124]],rfl,.inr (aW.of aF),(hv.same s1).dp,.cons (hc1 _).dp (.cons (hc2 _).dp .nil),lR _,by rw[bx,bx,eA,eA];rfl,_,rfl,?_⟩
  rw[Ai]
  have hR2:=hR1.same s1
  have r2:Fr p u f H' (upd H' t (.tup [c1,c2])):=.of_same s1
  have kd2:=kd.same s1
  generalize upd H' t (.tup [c1,c2])=H2 at hR2 r2 kd2⊢
  refine aU (fun e=>?_) (fun e=>?_)
  ·obtain⟨x,un',rfl⟩:∃x un',un=x::un':=by
    cases un with
    |nil=>cases e
    |cons x r=>exact⟨x,r,rfl⟩
   have hb:gT x=true:=by rw[<-MS.ox];exact MS.yQ e
   obtain⟨B1,A1,fi',rfl⟩:=hF1.two hb
   obtain⟨q1,q2⟩:=hF1.joined hb
   have szl:=MS.mV (B1::A1::fi')
   have hs2:=hs1
   rw[MS.fz,MS.fz] at hs2
   refine⟨fun σ' H''=>∃m',m'<(x::un').length/\∃un fi,m'=un.length/\σ'=[some (.ref p)]/\Fr p u f H H''/\RS K Nw C p dx u f H'' ⟨un,fi,st.want⟩/\endChain un fi=endChain st.un st.fi/\aw un fi/\sz fi+un.length<=10000,fun _ _ h=>h,?_⟩
   refine⟨_,rfl,p,dx,_,rfl,kd2.ins,eD _ _ _ rfl rfl rfl,p,dx,u,f,_,x,un',A1,B1,fi',rfl,hR2,rfl,rfl,?_,by omega,?_,fun H3 r3 hR3=>?_⟩
   ·cases x<;>first|exact .inl rfl|exact .inr (.inl rfl)|exact .inr (.inr rfl)|cases hb
   ·show(B1::A1::fi').length<=10000;omega
   ·exact⟨un'.length,by simp,un',_,rfl,rfl,(r1.trans r2).trans r3,hR3,by rw[<-ee,MS.yO e],q1,by omega⟩
  ·have es:=MS.sq (fi:=fi) (dI.mpr e)
   rw[es] at ee
   refine k H2 (r1.trans r2) ?_
   rw[<-ee];exact hR2
theorem Ii(D:bZ K C "end_formula" "FormulaReader.end_formula" vQ)(R:RC K C)(T:cY K mg)(T2:fC K mg)(M1:bE P w K mg base C "last_unclosed" 1 ["self"] (lS K Nw C))(M2:bE P w K mg base C "join_last_two" 3 ["self"] (wJ K Nw C)):
  bE P w K mg base C "end_formula" 4 ["self"] (wK K Nw C):=by
 refine D.cal Ig (fun vs H Q E h=>?_) (fun fa cdv A outer s H vs Q E hr h=>?_)
 ·obtain⟨p,_,_,_,_,rfl,_⟩:=h
  rfl
 ·obtain⟨p,dx,u,f,st,rfl,hR,hF,hsz,k⟩:=h
  have hr1:=hr.mono (show 1<=3 by decide)
  have hu65:=nV hr
  refine⟨_,aI (iI PassesOwn.never (ao (nN hu65) (d4 R.cl M1 hr1 (pv 0)) (eQ (aB (bT T.tensor) (aB (bT T.par) (aB (bT T2.arrow) aC)))) rfl)
    (aI (bV (d4 R.cl M2 hr (pv 0))))),?_⟩
  refine⟨fun m σ H'=>∃un fi,m=un.length/\σ=[some (.ref p)]/\Fr p u f H H'/\RS K Nw C p dx u f H' ⟨un,fi,st.want⟩/\endForm un fi=endForm st.un st.fi/\aw un fi/\sz fi+un.length<=10000,
   ⟨_,st.un,st.fi,rfl,rfl,Fr.refl _ _ _ _,hR,rfl,hF,hsz⟩,?_⟩
  rintro m σ H' ⟨un,fi,rfl,rfl,r1,hR1,ee,hF1,hs1⟩
  obtain⟨us,fs,kd,h1,h2⟩:=hR1.ex
  refine⟨_,rfl,p,dx,_,rfl,kd.ins,eD _ _ _ rfl rfl rfl,p,dx,u,f,_,rfl,hR1,fun v hv c1 hc1 c2 hc2 c3 hc3=>⟨(by show 3<=sizeLine;decide),fun t ht=>?_⟩⟩
  have s1:aA H' (upd H' t (.tup [c1,c2,c3])):=aA.upd ht
  refine⟨t,_,_,[dN [42],dN [124],dN [45,111]],rfl,.inr (aW.of aF),(hv.same s1).dp,.cons (hc1 _).dp (.cons (hc2 _).dp (.cons (hc3 _).dp .nil)),lR _,by rw[bx,bx,bx,eA,eA,eA];rfl,_,rfl,?_⟩
  rw[Ia]
  have hR2:=hR1.same s1
  have r2:Fr p u f H' (upd H' t (.tup [c1,c2,c3])):=.of_same s1
  have kd2:=kd.same s1
  generalize upd H' t (.tup [c1,c2,c3])=H2 at hR2 r2 kd2⊢
  refine aU (fun e=>?_) (fun e=>?_)
  ·obtain⟨x,un',rfl⟩:∃x un',un=x::un':=by
    cases un with
    |nil=>cases e
    |cons x r=>exact⟨x,r,rfl⟩
   have hb:gT x=true:=by rw[<-MS.ox];exact e
   obtain⟨B1,A1,fi',rfl⟩:=hF1.two hb
   obtain⟨q1,q2⟩:=hF1.joined hb
   have szl:=MS.mV (B1::A1::fi')
   have hs2:=hs1
   rw[MS.fz,MS.fz] at hs2
   refine⟨fun σ' H''=>∃m',m'<(x::un').length/\∃un fi,m'=un.length/\σ'=[some (.ref p)]/\Fr p u f H H''/\RS K Nw C p dx u f H'' ⟨un,fi,st.want⟩/\endForm un fi=endForm st.un st.fi/\aw un fi/\sz fi+un.length<=10000,fun _ _ h=>h,?_⟩
   refine⟨_,rfl,p,dx,_,rfl,kd2.ins,eD _ _ _ rfl rfl rfl,p,dx,u,f,_,x,un',A1,B1,fi',rfl,hR2,rfl,rfl,?_,by omega,?_,fun H3 r3 hR3=>?_⟩
   ·cases x<;>first|exact .inl rfl|exact .inr (.inl rfl)|exact .inr (.inr rfl)|cases hb
   ·show(B1::A1::fi').length<=10000;omega
   ·exact⟨un'.length,by simp,un',_,rfl,rfl,(r1.trans r2).trans r3,hR3,by rw[<-ee,MS.yP e],q1,by omega⟩
  ·have es:=MS.sr (fi:=fi) (dI.mpr e)
   rw[es] at ee
   refine k H2 (r1.trans r2) ?_
   rw[<-ee];exact hR2
end
open MP (dS good U joined endPart endChain endForm takeIn fo fP jW dJ fO)
variable{Nw:Addr->Prop}
open MS (aw sz ib j6 gT Ok gU)
def Tk(K:aD)(Nw:Addr->Prop)(C p dx u f:Addr)(H:Hp)(o:Option MP.St)(Q:VK):Prop:=
 (∀st' H',o=some st'->Fr p u f H H'->RS K Nw C p dx u f H' st'->Q (.bl true) H')/\(o=none->∀H',Fr p u f H H'->Q (.bl false) H')
theorem Ij{c:UInt8}(hc:c=42\/c=124):iQ (dJ c)=[c]:=by rcases hc with rfl|rfl<;>rfl
theorem Ik{o:Option U}{c:UInt8}(hc:c=42\/c=124)(h:ib o=true):PyData.eqv (dU o) (dN [c])=decide (o=some (dJ c)):=by
 rcases hc with rfl|rfl<;>(match o,h with
  |some .tensor,_=>rfl
  |some .par,_=>rfl)
theorem Il{st:MP.St}{c:UInt8}(hc:c=42\/c=124)(h:ib st.un.head?=true)(h2:¬st.un.head?=some (dJ c)):fP st c=none:=by
 unfold fP
 rw[if_neg]
 obtain⟨un,fi,wa⟩:=st
 match un,h,h2 with
 |.tensor::r,_,h2=>
  rcases hc with rfl|rfl
  ·exact absurd rfl h2
  ·show¬(some (42:UInt8)=none\/some (42:UInt8)=some 124);decide
 |.par::r,_,h2=>
  rcases hc with rfl|rfl
  ·show¬(some (124:UInt8)=none\/some (124:UInt8)=some 42);decide
  ·exact absurd rfl h2
theorem Ak{st:MP.St}{c:UInt8}(hc:c=42\/c=124)(h:ib st.un.head?=false\/st.un.head?=some (dJ c)):fP st c=some ⟨dJ c::st.un,st.fi,true⟩:=by
 unfold fP
 rw[if_pos]
 obtain⟨un,fi,wa⟩:=st
 match un,h with
 |[],_=>exact .inl rfl
 |.tilde::r,_=>exact .inl rfl
 |.left::r,_=>exact .inl rfl
 |.arrow::r,_=>exact .inl rfl
 |.tensor::r,h=>
  rcases h with h|h
  ·cases h
  ·rcases hc with rfl|rfl
   ·exact .inr rfl
   ·cases h
 |.par::r,h=>
  rcases h with h|h
  ·cases h
  ·rcases hc with rfl|rfl
   ·cases h
   ·exact .inr rfl
theorem RS.push{K:aD}{C p dx u f:Addr}{H:Hp}{st:MP.St}{us fs:List V}{x:U}{v:V}(kd:Kd Nw C p dx u f H st.want us fs)(h1:Paired (ai K H) us (st.un.reverse.map iQ))(h2:Paired (Gx K Nw p u f H) fs st.fi.reverse)(hv:ai K H v (iQ x)):
  RS K Nw C p dx u f (upd H u (.lst (us++[v]))) ⟨x::st.un,st.fi,st.want⟩:=by
 have r5:Fr p u f H (upd H u (.lst (us++[v]))):=Fr.u
 refine⟨us++[v],fs,kd.setU,?_,Paired.mono (fun _ _ q=>r5.gx kd q) h2⟩
 show Paired _ _ ((x::st.un).reverse.map iQ)
 rw[eU,bO]
 exact Paired.snoc (Paired.mono (fun _ _ q=>r5.isN kd q) h1) (r5.isN kd hv)
theorem RS.setWant{K:aD}{C p dx u f:Addr}{H:Hp}{st:MP.St}(h:RS K Nw C p dx u f H st)(b:Bool):RS K Nw C p dx u f (upd H p (.ins C dx (rf u f b))) ⟨st.un,st.fi,b⟩:=by
 obtain⟨us,fs,kd,h1,h2⟩:=h.ex
 have r5:Fr p u f H (upd H p (.ins C dx (rf u f b))):=Fr.p
 exact⟨us,fs,kd.setP,Paired.mono (fun _ _ q=>r5.isN kd q) h1,Paired.mono (fun _ _ q=>r5.gx kd q) h2⟩
section
variable{P:Program}{w:World}{K:aD}{mg:Str->Option Value}{base:Heap}{C:Addr}
def wL(K:aD)(Nw:Addr->Prop)(C:Addr):Sp:=fun vs H Q _=>∃p dx u f st v c,vs=[.ref p,v]/\RS K Nw C p dx u f H st/\(c=42\/c=124)/\ai K H v [c]/\st.un.length<=10000/\Tk K Nw C p dx u f H (fP st c) Q
theorem Al:aZ ["self","sign","before"] ["self","sign"] (aQ vM):=fS
theorem Im(D:bZ K C "take_chain_sign" "FormulaReader.take_chain_sign" vM)(R:RC K C)(T:cY K mg)(M1:bE P w K mg base C "last_unclosed" 1 ["self"] (lS K Nw C)):
  bE P w K mg base C "take_chain_sign" 2 ["self","sign"] (wL K Nw C):=by
 refine D.cal Al (fun vs H Q E h=>?_) (fun fa cdv A outer s H vs Q E hr h=>?_)
 ·obtain⟨p,_,_,_,_,_,_,rfl,_⟩:=h
  rfl
 ·obtain⟨p,dx,u,f,st,v,c,rfl,hR,hc,hv,hul,k1,k2⟩:=h
  have nd:=Al.nd
  have hu65:=nV hr
  refine⟨_,aG (aT (i:=2) nd rfl (aJ rfl) (d4 R.cl M1 hr (pv 0)))
   (aG (aj (lH (ao (nN hu65) (pv 2) (eQ (aB (bT T.tensor) (aB (bT T.par) aC))) rfl) (lG (ao (ji hr.units) (pv 2) (pv 1) (ak _)))).pt (aI (aN dj)) ay)
   (aG (bV (cG bR cw cy c7 (aX (pv 0) rfl) (aB (pv 1) aC)))
   (aG (dY (pv 0) dj rfl)
   (aI (aN dj))))),?_⟩
  obtain⟨us,fs,kd,h1,h2⟩:=hR.ex
  refine⟨_,rfl,p,dx,_,rfl,kd.ins,eD _ _ _ rfl rfl rfl,p,dx,u,f,_,rfl,hR,fun b hb=>?_⟩
  refine⟨_,rfl,fun c1 hc1 c2 hc2=>⟨(by show 2<=sizeLine;decide),fun t ht=>?_⟩⟩
  have s1:aA H (upd H t (.tup [c1,c2])):=aA.upd ht
  refine⟨t,_,_,[dN [42],dN [124]],rfl,.inr (aW.of aF),(hb.same s1).dp,.cons (hc1 _).dp (.cons (hc2 _).dp .nil),lR _,by rw[bx,bx,eA,eA];rfl,_,rfl,?_⟩
  rw[Ai]
  have hR2:=hR.same s1
  have r2:Fr p u f H (upd H t (.tup [c1,c2])):=.of_same s1
  have hb2:=hb.same s1
  have hv2:=hv.same s1
  generalize upd H t (.tup [c1,c2])=H2 at hR2 r2 hb2 hv2⊢
  have go:fP st c=some ⟨dJ c::st.un,st.fi,true⟩->ig (jH (jg K "list" jh (kR K (ax 0) "unclosed") (cO (ax 1) cK))) (ig (zQ K (ax 0) (tC (.bl true)) "wants_part") (eZ (tC (.bl true)))) {nx:=fun _ H'=>Q .non H',rt:=Q} [some (.ref p),some v,some b] H2:=fun et=>by
   obtain⟨us,fs,kd,h1,h2⟩:=hR2.ex
   have hl:=h1.length
   rw[aL,fm] at hl
   refine⟨_,rfl,p,C,dx,_,_,rfl,kd.ins,R.cl,R.n1,iu _ _ _,.inl ⟨rfl,_,aE.of kd.un⟩,_,rfl,u,_,_,rfl,rfl,kd.un,by rw[sizeLine_eq];omega,?_⟩
   have hR3:=RS.push kd h1 h2 (x:=dJ c) (by rw[Ij hc];exact hv2)
   have r3:Fr p u f H2 (upd H2 u (.lst (us++[v]))):=Fr.u
   have kd3:=kd.setU (us':=us++[v])
   generalize upd H2 u (.lst (us++[v]))=H3 at hR3 r3 kd3⊢
   refine⟨_,rfl,p,C,dx,_,rfl,kd3.ins,R.cl,R.n3,(by show 3<1000;decide),?_⟩
   rw[wH]
   exact k1 _ _ et ((r2.trans r3).trans Fr.p) (hR3.setWant true)
  refine aU (fun e=>?_) (fun e=>?_)
  ·refine⟨_,rfl,_,rfl,_,_,hb2.dp,hv2.dp,lR _,eA _,_,rfl,?_⟩
   rw[Ik hc e]
   refine aU (fun e2=>?_) (fun e2=>?_)
   ·have e2:¬st.un.head?=some (dJ c):=by simpa using e2
    exact k2 (Il hc e e2) H2 r2
   ·have e2:st.un.head?=some (dJ c):=by simpa using e2
    exact go (Ak hc (.inr e2))
  ·exact go (Ak hc (.inl (dI.mpr e)))
def Am(K:aD)(Nw:Addr->Prop)(C:Addr):Sp:=fun vs H Q _=>∃p dx u f st,vs=[.ref p]/\RS K Nw C p dx u f H st/\aw st.un st.fi/\sz st.fi+st.un.length<=10000/\Tk K Nw C p dx u f H (jW st) Q
theorem Io:aZ ["self"] ["self"] (aQ vN):=fS
theorem Ip(D:bZ K C "take_right" "FormulaReader.take_right" vN)(R:RC K C)(T:cY K mg)(M1:bE P w K mg base C "last_unclosed" 1 ["self"] (lS K Nw C))(M2:bE P w K mg base C "end_formula" 4 ["self"] (wK K Nw C))
  (M3:bE P w K mg base C "end_part" 3 ["self"] (qZ K Nw C)):bE P w K mg base C "take_right" 5 ["self"] (Am K Nw C):=by
 refine D.cal Io (fun vs H Q E h=>?_) (fun fa cdv A outer s H vs Q E hr h=>?_)
 ·obtain⟨p,_,_,_,_,rfl,_⟩:=h
  rfl
 ·obtain⟨p,dx,u,f,st,rfl,hR,hF,hsz,k1,k2⟩:=h
  have hr1:=hr.mono (show 1<=4 by decide)
  have hr3:=hr.mono (show 3<=4 by decide)
  refine⟨_,aG (bV (d4 R.cl M2 hr (pv 0)))
   (aG (aj (ao (ji hr.units) (d4 R.cl M1 hr1 (pv 0)) (bT T.left) (ak _)) (aI (aN dj)) ay)
   (aG (bV (gE bR iZ i0 g6 (aX (pv 0) rfl)))
   (aG (bV (d4 R.cl M3 hr3 (pv 0)))
   (aI (aN dj))))),?_⟩
  obtain⟨us0,fs0,kd0,_,_⟩:=hR.ex
  refine⟨_,rfl,p,dx,_,rfl,kd0.ins,eD _ _ _ rfl rfl rfl,p,dx,u,f,st,rfl,hR,hF,hsz,fun H1 r1 hR1=>?_⟩
  obtain⟨q1,q2⟩:=hF.endForm
  unfold jW at k1 k2
  cases ee:endForm st.un st.fi with
  |mk un fi=>
   rw[ee] at k1 k2 hR1 q1 q2
   obtain⟨us,fs,kd,h1,h2⟩:=hR1.ex
   refine⟨_,rfl,p,dx,_,rfl,kd.ins,eD _ _ _ rfl rfl rfl,p,dx,u,f,_,rfl,hR1,fun v hv c hc=>⟨_,_,hv.dp,(hc H1).dp,lR _,eA _,_,rfl,?_⟩⟩
   rw[I0]
   refine aU (fun e=>?_) (fun e=>?_)
   ·have e:¬un.head?=some .left:=by simpa using e
    refine k2 ?_ H1 r1
    match un,e with
    |[],_=>rfl
    |.tilde::_,_=>rfl
    |.left::_,e=>exact absurd rfl e
    |.tensor::_,_=>rfl
    |.par::_,_=>rfl
    |.arrow::_,_=>rfl
   ·have e:un.head?=some .left:=by simpa using e
    obtain⟨un',rfl⟩:∃un',un=.left::un':=by
     cases un with
     |nil=>cases e
     |cons x r=>exact⟨r,by rw[bL e]⟩
    obtain⟨us',x1,rfl,h1',hx1⟩:=nU h1
    refine⟨_,rfl,p,C,dx,_,_,rfl,kd.ins,R.cl,R.n1,iu _ _ _,.inl ⟨rfl,_,aE.of kd.un⟩,fZ kd.un ?_⟩
    have r2:Fr p u f H1 (upd H1 u (.lst us')):=Fr.u
    have kd2:=kd.setU (us':=us')
    have hR2:RS K Nw C p dx u f (upd H1 u (.lst us')) ⟨un',fi,st.want⟩:=⟨us',fs,kd2,Paired.mono (fun _ _ q=>r2.isN kd q) h1',Paired.mono (fun _ _ q=>r2.gx kd q) h2⟩
    generalize upd H1 u (.lst us')=H2 at r2 kd2 hR2⊢
    have hF2:=MS.yR q1
    have q2:sz fi+(un'.length+1)<=sz st.fi+st.un.length:=q2
    refine⟨_,rfl,p,dx,_,rfl,kd2.ins,eD _ _ _ rfl rfl rfl,p,dx,u,f,_,rfl,hR2,hF2,by show sz fi+un'.length<=10000;omega,fun H3 r3 hR3=>?_⟩
    exact k1 _ H3 rfl ((r1.trans r2).trans r3) hR3
end
variable{Nw:Addr->Prop}
theorem Iq{a:List UInt8}(h:isName a=true):eW a=true:=by
 have h2:=h
 unfold isName at h2
 rw[ag,ag] at h2
 rw[<-MT.sX h2.2.2];exact h
theorem An{a:List UInt8}(h:isName a=true){c:UInt8}(hc:isSmall c=false)(r:List UInt8):a≠c::r:=by
 obtain⟨b,r',rfl,hb⟩:=MF.mM h
 intro e
 injection e with e _
 rw[e,hc] at hb
 cases hb
theorem Ir{st:MP.St}{c:UInt8}(h1:c≠126)(h2:c≠40):takeIn st (.sign c)=none:=by
 show(if c=126 then some _ else if c=40 then some _ else none)=none
 rw[if_neg h1,if_neg h2]
theorem jr{tk:Token}(hk:dS tk=true){c:UInt8}(hc:isSmall c=false):du tk=[c]↔tk=.sign c:=by
 match tk,hk with
 |.name a,hk=>exact⟨fun e=>absurd e (An hk hc []),fun e=>(by cases e)⟩
 |.arrow,_=>exact⟨fun e=>(by cases e),fun e=>(by cases e)⟩
 |.sign d,_=>exact⟨fun e=>by injection e with e;rw[e],fun e=>by injection e with e;rw[e];rfl⟩
theorem Ao{tk:Token}(hk:dS tk=true):du tk=[45,111]↔tk=.arrow:=by
 match tk,hk with
 |.name a,hk=>exact⟨fun e=>absurd e (An hk (by decide) _),fun e=>(by cases e)⟩
 |.arrow,_=>exact⟨fun _=>rfl,fun _=>rfl⟩
 |.sign d,_=>exact⟨fun e=>(by cases e),fun e=>(by cases e)⟩
section
variable{P:Program}{w:World}{K:aD}{mg:Str->Option Value}{base:Heap}{C:Addr}
def Ap(K:aD)(Nw:Addr->Prop)(C:Addr):Sp:=fun vs H Q _=>∃p dx u f st v tk,vs=[.ref p,v]/\RS K Nw C p dx u f H st/\Ok st/\st.want=true/\ai K H v (du tk)/\dS tk=true/\gU st+2<=10000/\Tk K Nw C p dx u f H (takeIn st tk) Q
theorem Iu:aZ ["self","token"] ["self","token"] (aQ vK):=fS
theorem Iv(D:bZ K C "take_in_part" "FormulaReader.take_in_part" vK)(R:RC K C)(T:cY K mg)(C1:aK P w K mg base "is_name" 2 ["stretch"] (qX K))(M3:bE P w K mg base C "end_part" 3 ["self"] (qZ K Nw C)):
  bE P w K mg base C "take_in_part" 4 ["self","token"] (Ap K Nw C):=by
 refine D.cal Iu (fun vs H Q E h=>?_) (fun fa cdv A outer s H vs Q E hr h=>?_)
 ·obtain⟨p,_,_,_,_,_,_,rfl,_⟩:=h
  rfl
 ·obtain⟨p,dx,u,f,st,v,tk,rfl,hR,hOk,hw,hv,hk,hsz,k1,k2⟩:=h
  have hr2:=hr.mono (show 2<=3 by decide)
  refine⟨_,aG (aj (iF (ao (fM hr.units) (pv 1) (bT T.tilde) (ak _)) (ie (ao (fM hr.units) (pv 1) (bT T.left) (ak _)))).pt
    (aG (bV (cG bR cw cy c7 (aX (pv 0) rfl) (aB (pv 1) aC))) (aI (aN dj))) ay)
   (aG (aj (dH (cA (pc C1 hr2 (aB (pv 1) aC)))) (aI (aN dj)) ay)
   (aG (bV (cG bR cw cy c7 (aX (pv 0) rfl) (aB (au (aB (pv 1) aC)) aC)))
   (aG (bV (d4 R.cl M3 hr (pv 0)))
   (aI (aN dj))))),?_⟩
  obtain⟨us,fs,kd,h1,h2⟩:=hR.ex
  have hul:=h1.length
  rw[aL,fm] at hul
  have hfl:=h2.length
  rw[fm] at hfl
  have hsl:=sizeLine_eq
  have szl:=MS.mV st.fi
  have htot:gU st=sz st.fi+st.un.length:=rfl
  have push:∀x:U,iQ x=du tk->takeIn st tk=some ⟨x::st.un,st.fi,true⟩->ig (jH (jg K "list" jh (kR K (ax 0) "unclosed") (cO (ax 1) cK))) (eZ (tC (.bl true)))
    {nx:=(ig (tT (ym (tB (jc (qX K) [] E0 (cO (ax 1) cK)))) (eZ (tC (.bl false))) tS) (ig (jH (jg K "list" jh (kR K (ax 0) "finished") (cO (zS (cO (ax 1) cK)) cK))) (ig (jH (lO C "end_part" (qZ K Nw C) [] E0 (ax 0) cK)) (eZ (tC (.bl true)))))) {nx:=fun _ H'=>Q .non H',rt:=Q},rt:=Q} [some (.ref p),some v] H:=fun x ex et=>by
   refine⟨_,rfl,p,C,dx,_,_,rfl,kd.ins,R.cl,R.n1,iu _ _ _,.inl ⟨rfl,_,aE.of kd.un⟩,_,rfl,u,_,_,rfl,rfl,kd.un,by omega,?_⟩
   have hR3:=RS.push kd h1 h2 (x:=x) (by rw[ex];exact hv)
   rw[hw] at hR3
   exact k1 _ _ et Fr.u hR3
  refine⟨_,rfl,fun c1 hc1=>fX hv (hc1 H) ⟨_,rfl,?_⟩⟩
  refine aU (fun e=>?_) (fun e=>?_)
  ·have e:=(jr hk (by decide)).mp (of_decide_eq_true e)
   subst e
   exact push .tilde rfl rfl
  have e1:¬du tk=[126]:=fun z=>e (decide_eq_true z)
  refine⟨_,rfl,fun c2 hc2=>fX hv (hc2 H) ⟨_,rfl,?_⟩⟩
  refine aU (fun e=>?_) (fun e=>?_)
  ·have e:=(jr hk (by decide)).mp (of_decide_eq_true e)
   subst e
   exact push .left rfl rfl
  have e2:¬du tk=[40]:=fun z=>e (decide_eq_true z)
  refine⟨_,rfl,v,_,rfl,hv,_,rfl,?_⟩
  match tk,hk,e1,e2,hv,k1,k2 with
  |.arrow,_,_,_,_,_,k2=>exact k2 rfl H (Fr.refl _ _ _ _)
  |.sign c,hk,e1,e2,_,_,k2=>
   have hs:eW (du (.sign c))=false:=by
    rcases MP.xq hk with rfl|rfl|rfl|rfl|rfl<;>rfl
   rw[hs]
   exact k2 (Ir (fun z=>e1 (by rw[z];rfl)) (fun z=>e2 (by rw[z];rfl))) H (Fr.refl _ _ _ _)
  |.name a,hk,_,_,hv,k1,_=>
   rw[show eW (du (.name a))=true from Iq hk]
   refine⟨_,rfl,p,C,dx,_,_,rfl,kd.ins,R.cl,R.n2,jq _ _ _,.inl ⟨rfl,_,aE.of kd.fi⟩,_,rfl,(by show 1<=sizeLine;decide),fun l hl=>?_⟩
   have s1:aA H (upd H l (.lst [v])):=aA.upd hl
   have kd1:=kd.same s1
   have r1:Fr p u f H (upd H l (.lst [v])):=.of_same s1
   refine⟨f,_,_,rfl,rfl,kd1.fi,by omega,?_⟩
   have r2:Fr p u f (upd H l (.lst [v])) (upd (upd H l (.lst [v])) f (.lst (fs++[.ref l]))):=Fr.f
   have kd2:=kd1.setF (fs':=fs++[.ref l])
   have hR2:RS K Nw C p dx u f (upd (upd H l (.lst [v])) f (.lst (fs++[.ref l]))) ⟨st.un,.atom false a::st.fi,st.want⟩:=by
    refine⟨us,_,kd2,Paired.mono (fun _ _ q=>r2.isN kd1 (r1.isN kd q)) h1,wI (Paired.mono (fun _ _ q=>r2.gx kd1 (r1.gx kd q)) h2) (r2.gx kd1 ⟨l,rfl,kd.nw l hl,(ae kd.ins hl).symm,(ae kd.un hl).symm,(ae kd.fi hl).symm,hk,_,aF,.cons (hv.same s1) .nil⟩)⟩
   generalize upd (upd H l (.lst [v])) f (.lst (fs++[.ref l]))=H2 at r2 kd2 hR2⊢
   refine⟨_,rfl,p,dx,_,rfl,kd2.ins,eD _ _ _ rfl rfl rfl,p,dx,u,f,_,rfl,hR2,MS.yS hOk hw hk,?_,fun H3 r3 hR3=>?_⟩
   ·show sz (.atom false a::st.fi)+st.un.length<=10000
    rw[MS.fz]
    show 1+1+sz st.fi+st.un.length<=10000
    omega
   ·exact k1 _ H3 rfl ((r1.trans r2).trans r3) hR3
def Aq(K:aD)(Nw:Addr->Prop)(C:Addr):Sp:=fun vs H Q _=>∃p dx u f st v tk,vs=[.ref p,v]/\RS K Nw C p dx u f H st/\aw st.un st.fi/\ai K H v (du tk)/\dS tk=true/\gU st+2<=10000/\Tk K Nw C p dx u f H (fo st tk) Q
theorem Iw:aZ ["self","token"] ["self","token"] (aQ vL):=fS
theorem Iy(D:bZ K C "take_behind_part" "FormulaReader.take_behind_part" vL)(R:RC K C)(T:cY K mg)(T2:fC K mg)(M1:bE P w K mg base C "take_chain_sign" 2 ["self","sign"] (wL K Nw C))(M2:bE P w K mg base C "end_chain" 4 ["self"] (Aj K Nw C))
  (M3:bE P w K mg base C "take_right" 5 ["self"] (Am K Nw C)):bE P w K mg base C "take_behind_part" 6 ["self","token"] (Aq K Nw C):=by
 refine D.cal Iw (fun vs H Q E h=>?_) (fun fa cdv A outer s H vs Q E hr h=>?_)
 ·obtain⟨p,_,_,_,_,_,_,rfl,_⟩:=h
  rfl
 ·obtain⟨p,dx,u,f,st,v,tk,rfl,hR,hF,hv,hk,hsz,k1,k2⟩:=h
  have hr2:=hr.mono (show 2<=5 by decide)
  have hr4:=hr.mono (show 4<=5 by decide)
  refine⟨_,aG (aj (iF (ao (fM hr.units) (pv 1) (bT T.tensor) (ak _)) (ie (ao (fM hr.units) (pv 1) (bT T.par) (ak _)))).pt
    (aI (aN (pm R.cl M1 hr2 (pv 0) (aB (pv 1) aC)))) ay)
   (aG (aj (ao (fM hr.units) (pv 1) (bT T2.arrow) (ak _))
    (aG (bV (d4 R.cl M2 hr4 (pv 0)))
    (aG (bV (cG bR cw cy c7 (aX (pv 0) rfl) (aB (bT T2.arrow) aC)))
    (aG (dY (pv 0) dj rfl)
    (aI (aN dj))))) ay)
   (aI (aN (lJ (il (fM hr.units) (pv 1) (bT T.right) (ak _)) (lI (d4 R.cl M3 hr (pv 0))))))),?_⟩
  obtain⟨us,fs,kd,h1,h2⟩:=hR.ex
  have htot:gU st=sz st.fi+st.un.length:=rfl
  have hsl:=sizeLine_eq
  have chain:∀c:UInt8,(c=42\/c=124)->tk=.sign c->eZ (lO C "take_chain_sign" (wL K Nw C) [] E0 (ax 0) (cO (ax 1) cK)) {nx:=fun _ H'=>Q .non H',rt:=Q} [some (.ref p),some v] H:=fun c hc e=>by
   subst e
   have et:fo st (.sign c)=fP st c:=if_pos hc
   rw[et] at k1 k2
   exact⟨_,rfl,p,dx,_,rfl,kd.ins,eD _ _ _ rfl rfl rfl,_,rfl,p,dx,u,f,st,v,c,rfl,hR,hc,hv,by omega,k1,k2⟩
  refine⟨_,rfl,fun c1 hc1=>fX hv (hc1 H) ⟨_,rfl,?_⟩⟩
  refine aU (fun e=>chain 42 (.inl rfl) ((jr hk (by decide)).mp (of_decide_eq_true e))) (fun e=>?_)
  have e1:¬tk=.sign 42:=fun z=>e (decide_eq_true ((jr hk (by decide)).mpr z))
  refine⟨_,rfl,fun c2 hc2=>fX hv (hc2 H) ⟨_,rfl,?_⟩⟩
  refine aU (fun e=>chain 124 (.inr rfl) ((jr hk (by decide)).mp (of_decide_eq_true e))) (fun e=>?_)
  have e2:¬tk=.sign 124:=fun z=>e (decide_eq_true ((jr hk (by decide)).mpr z))
  refine⟨_,rfl,fun c3 hc3=>fX hv (hc3 H) ⟨_,rfl,?_⟩⟩
  refine aU (fun e=>?_) (fun e=>?_)
  ·have e:=(Ao hk).mp (of_decide_eq_true e)
   subst e
   refine⟨_,rfl,p,dx,_,rfl,kd.ins,eD _ _ _ rfl rfl rfl,p,dx,u,f,st,rfl,hR,hF,by omega,fun H1 r1 hR1=>?_⟩
   obtain⟨us,fs,kd,h1,h2⟩:=hR1.ex
   obtain⟨q1,q2⟩:=hF.endChain
   have hul:=h1.length
   rw[aL,fm] at hul
   have hul:us.length=(endChain st.un st.fi).1.length:=hul
   refine⟨_,rfl,p,C,dx,_,_,rfl,kd.ins,R.cl,R.n1,iu _ _ _,.inl ⟨rfl,_,aE.of kd.un⟩,fun c4 hc4=>⟨u,_,_,rfl,rfl,kd.un,by omega,?_⟩⟩
   have hR3:=RS.push kd h1 h2 (x:=.arrow) (v:=c4) (hc4 H1)
   have r3:Fr p u f H1 (upd H1 u (.lst (us++[c4]))):=Fr.u
   have kd3:=kd.setU (us':=us++[c4])
   generalize upd H1 u (.lst (us++[c4]))=H3 at hR3 r3 kd3⊢
   refine⟨_,rfl,p,C,dx,_,rfl,kd3.ins,R.cl,R.n3,(by show 3<1000;decide),?_⟩
   rw[wH]
   exact k1 _ _ rfl ((r1.trans r3).trans Fr.p) (hR3.setWant true)
  ·have e3:¬tk=.arrow:=fun z=>e (decide_eq_true ((Ao hk).mpr z))
   refine⟨_,rfl,fun c4 hc4=>fX hv (hc4 H) ⟨_,rfl,?_⟩⟩
   refine aU (fun e=>?_) (fun e=>?_)
   ·have e:=(jr hk (by decide)).mp (of_decide_eq_true e)
    subst e
    exact⟨_,rfl,p,dx,_,rfl,kd.ins,eD _ _ _ rfl rfl rfl,p,dx,u,f,st,rfl,hR,hF,by omega,k1,k2⟩
   ·have e4:¬tk=.sign 41:=fun z=>e (decide_eq_true ((jr hk (by decide)).mpr z))
    refine k2 ?_ H (Fr.refl _ _ _ _)
    match tk,e1,e2,e3,e4 with
    |.name a,_,_,_,_=>rfl
    |.arrow,_,_,e3,_=>exact absurd rfl e3
    |.sign c,e1,e2,_,e4=>
     show(if c=42\/c=124 then fP st c else if c=41 then jW st else none)=none
     rw[if_neg,if_neg]
     ·intro z;exact e4 (by rw[z])
     ·rintro(z|z)
      ·exact e1 (by rw[z])
      ·exact e2 (by rw[z])
end
open MP (dS good U joined endPart endChain endForm takeIn fo fP jW dJ fO lid)
variable{Nw:Addr->Prop}
section
variable{P:Program}{w:World}{K:aD}{mg:Str->Option Value}{base:Heap}{C:Addr}
def Ar(K:aD)(Nw:Addr->Prop)(C:Addr):Sp:=fun vs H Q _=>∃p dx u f st v tk,vs=[.ref p,v]/\RS K Nw C p dx u f H st/\Ok st/\ai K H v (du tk)/\dS tk=true/\gU st+2<=10000/\Tk K Nw C p dx u f H (MP.take st tk) Q
theorem As:aZ ["self","token","fits"] ["self","token"] (aQ vJ):=fS
theorem Iz(D:bZ K C "take" "FormulaReader.take" vJ)(R:RC K C)(T2:fC K mg)(M1:bE P w K mg base C "take_in_part" 4 ["self","token"] (Ap K Nw C))(M2:bE P w K mg base C "take_behind_part" 6 ["self","token"] (Aq K Nw C)):
  bE P w K mg base C "take" 7 ["self","token"] (Ar K Nw C):=by
 refine D.cal As (fun vs H Q E h=>?_) (fun fa cdv A outer s H vs Q E hr h=>?_)
 ·obtain⟨p,_,_,_,_,_,_,rfl,_⟩:=h
  rfl
 ·obtain⟨p,dx,u,f,st,v,tk,rfl,hR,hOk,hv,hk,hsz,k1,k2⟩:=h
  have nd:=As.nd
  have hr4:=hr.mono (show 4<=6 by decide)
  refine⟨_,aG (aj (cA (aX (pv 0) rfl)) (aI (aT (i:=2) nd rfl (aJ rfl) (pm R.cl M1 hr4 (pv 0) (aB (pv 1) aC)))) (aI (aT (i:=2) nd rfl (aJ rfl) (pm R.cl M2 hr (pv 0) (aB (pv 1) aC)))))
   (aI (aN (lJ (pv 2) (lI (il ij (bD bI (by rfl) T2.len bM (aB (aX (pv 0) rfl) aC)) (bX T2.mun) (ak _)))))),?_⟩
  obtain⟨us,fs,kd,h1,h2⟩:=hR.ex
  refine⟨_,rfl,p,C,dx,_,_,rfl,kd.ins,R.cl,R.n3,Af _ _ _,_,rfl,?_⟩
  have yes:∀(o:Option MP.St),MP.take st tk=o.bind lid->∀st' H',o=some st'->Fr p u f H H'->RS K Nw C p dx u f H' st'->eZ (tR (ax 2) (cE (e8 fun i j=>.bl (decide (i<=j))) (mr (fun xs H Q=>∃p ys,xs=[.ref p]/\(aE K H p ys\/aW K H p ys)/\Q (.int ys.length) H) (cO (kR K (ax 0) "unclosed") cK)) (tC (.int 100)))) {nx:=fun _ H'=>Q .non H',rt:=Q} [some (.ref p),some v,some (.bl true)] H':=fun o eo st' H' e r hR'=>by
   obtain⟨us,fs,kd,h1,h2⟩:=hR'.ex
   have hul:=h1.length
   rw[aL,fm] at hul
   refine⟨_,rfl,_,rfl,_,rfl,p,C,dx,_,_,rfl,kd.ins,R.cl,R.n1,iu _ _ _,u,us,rfl,.inl (aE.of kd.un),_,_,rfl,rfl,?_⟩
   by_cases hl:st'.un.length<=100
   ·have e1:decide ((us.length:Int)<=100)=true:=decide_eq_true (by omega)
    show Q (.bl (decide ((us.length:Int)<=100))) H'
    rw[e1]
    exact k1 st' H' (by rw[eo,e];exact if_pos hl) r hR'
   ·have e1:decide ((us.length:Int)<=100)=false:=decide_eq_false (by omega)
    show Q (.bl (decide ((us.length:Int)<=100))) H'
    rw[e1]
    exact k2 (by rw[eo,e];exact if_neg hl) H' r
  have no:∀(o:Option MP.St),MP.take st tk=o.bind lid->o=none->∀H',Fr p u f H H'->eZ (tR (ax 2) (cE (e8 fun i j=>.bl (decide (i<=j))) (mr (fun xs H Q=>∃p ys,xs=[.ref p]/\(aE K H p ys\/aW K H p ys)/\Q (.int ys.length) H) (cO (kR K (ax 0) "unclosed") cK)) (tC (.int 100)))) {nx:=fun _ H'=>Q .non H',rt:=Q} [some (.ref p),some v,some (.bl false)] H':=fun o eo e H' r=>
   ⟨_,rfl,_,rfl,k2 (by rw[eo,e];rfl) H' r⟩
  refine aU (fun e=>?_) (fun e=>?_)
  ·have et:MP.take st tk=(takeIn st tk).bind lid:=by unfold MP.take;rw[if_pos e]
   exact⟨_,rfl,p,dx,_,rfl,kd.ins,eD _ _ _ rfl rfl rfl,_,rfl,p,dx,u,f,st,v,tk,rfl,hR,hOk,e,hv,hk,hsz,fun st' H' h3 h4 h5=>yes _ et st' H' h3 h4 h5,fun h3 H' h4=>no _ et h3 H' h4⟩
  ·have et:MP.take st tk=(fo st tk).bind lid:=by unfold MP.take;rw[if_neg e]
   exact⟨_,rfl,p,dx,_,rfl,kd.ins,eD _ _ _ rfl rfl rfl,_,rfl,p,dx,u,f,st,v,tk,rfl,hR,hOk.fit (dI.mpr e),hv,hk,hsz,fun st' H' h3 h4 h5=>yes _ et st' H' h3 h4 h5,fun h3 H' h4=>no _ et h3 H' h4⟩
def Au(K:aD)(Nw:Addr->Prop)(C:Addr):Sp:=fun vs H Q _=>∃p dx u f st,vs=[.ref p]/\RS K Nw C p dx u f H st/\Ok st/\gU st<=10000/\
 (∀A g H',MP.outcome st=some A->Fr p u f H H'->Nw g->de K H' g A->(nl A).length<=10000->Q (.ref g) H')/\(MP.outcome st=none->∀H',Fr p u f H H'->Q .non H')
theorem JA:aZ ["self"] ["self"] (aQ vS):=fS
theorem JB(D:bZ K C "outcome" "FormulaReader.outcome" vS)(R:RC K C)(M2:bE P w K mg base C "end_formula" 4 ["self"] (wK K Nw C)):
  bE P w K mg base C "outcome" 5 ["self"] (Au K Nw C):=by
 refine D.cal JA (fun vs H Q E h=>?_) (fun fa cdv A outer s H vs Q E hr h=>?_)
 ·obtain⟨p,_,_,_,_,rfl,_⟩:=h
  rfl
 ·obtain⟨p,dx,u,f,st,rfl,hR,hOk,hsz,k1,k2⟩:=h
  refine⟨_,aG (aj (cA (aX (pv 0) rfl)) (aI (aN bu)) ay)
   (aG (bV (d4 R.cl M2 hr (pv 0)))
   (aG (aj (kP (aX (pv 0) rfl) (fun _=>rfl)) (aI (aN bu)) ay)
   (aI (aN (aa az (aX (pv 0) rfl) aR (fun _ _=>rfl)))))),?_⟩
  obtain⟨us,fs,kd,h1,h2⟩:=hR.ex
  refine⟨_,rfl,p,C,dx,_,_,rfl,kd.ins,R.cl,R.n3,Af _ _ _,_,rfl,?_⟩
  refine aU (fun e=>?_) (fun e=>?_)
  ·exact k2 (if_pos e) H (Fr.refl _ _ _ _)
  have hF:=hOk.fit (dI.mpr e)
  have eo:MP.outcome st=match endForm st.un st.fi with
   |([],A::_)=>some A
   |_=>none:=if_neg e
  rw[eo] at k1 k2
  have htot:gU st=sz st.fi+st.un.length:=rfl
  refine⟨_,rfl,p,dx,_,rfl,kd.ins,eD _ _ _ rfl rfl rfl,p,dx,u,f,st,rfl,hR,hF,by omega,fun H1 r1 hR1=>?_⟩
  obtain⟨q1,q2⟩:=hF.endForm
  cases ee:endForm st.un st.fi with
  |mk un fi=>
   rw[ee] at k1 k2 hR1 q1 q2
   obtain⟨us,fs,kd,h1,h2⟩:=hR1.ex
   refine⟨_,rfl,p,C,dx,_,_,rfl,kd.ins,R.cl,R.n1,iu _ _ _,_,.inl ⟨us,aE.of kd.un,rfl⟩,?_⟩
   cases un with
   |cons x r=>
    obtain⟨us',y,rfl,_,_⟩:=nU h1
    refine aU (fun _=>?_) (fun q=>absurd (by cases us'<;>rfl) q)
    exact k2 rfl H1 r1
   |nil=>
    have eu:us=[]:=by cases h1;rfl
    subst eu
    have hb:=q1.bal
    match fi,hb with
    |[A1],_=>
     obtain⟨fs',y,rfl,h3,hy⟩:=qY h2
     cases h3
     obtain⟨g,rfl,n0,n1,n2,n3,hA⟩:=hy
     have hl:=MS.so (fi:=[A1]) (A:=A1) (by simp)
     have q2:sz [A1]+0<=sz st.fi+st.un.length:=q2
     refine⟨_,rfl,p,C,dx,_,_,rfl,kd.ins,R.cl,R.n2,jq _ _ _,f,_,_,.ref g,rfl,rfl,aE.of kd.fi,ah (j:=0) rfl,k1 A1 g H1 rfl r1 n0 hA (by omega)⟩
    |[],hb=>cases hb
    |_::_::_,hb=>simp[MS.ia] at hb
def wM(C:Addr):Sp:=fun vs H Q _=>∃p dx,vs=[.ref p]/\H p=some (.ins C dx [])/\∀H' u f,H' p=some (.ins C dx (rf u f true))->H' u=some (.lst [])->H' f=some (.lst [])->H u=none->H f=none->u≠f->(∀b o,H b=some o->b≠p->H' b=some o)->Q .non H'
theorem JC:aZ ["self"] ["self"] (aQ vH):=fS
theorem JD{fI:Addr}{fd:FuncData}(F:fV K "__init__" "FormulaReader.__init__" vH fI fd)(R:RC K C):dB P w K mg base eT 1 fI fd ["self"] (wM C):=by
 refine F.ok JC (fun vs H Q E h=>?_) (fun cdv A outer s H vs Q E hr h=>?_)
 ·obtain⟨p,_,rfl,_⟩:=h
  rfl
 ·obtain⟨p,dx,rfl,hp,k⟩:=h
  refine⟨_,aG (dY (pv 0) (au aC) rfl) (aG (dY (pv 0) (au aC) rfl) (aI (dY (pv 0) dj rfl))),?_⟩
  refine⟨bF _,fun u hu=>⟨_,rfl,p,C,dx,_,rfl,(aA.upd hu) _ _ hp,R.cl,R.n1,(by show 0<1000;decide),?_⟩⟩
  have pu:p≠u:=ae hp hu
  refine⟨bF _,fun f hf=>?_⟩
  have hf2:=gH hf
  have hf0:=gH hf2
  have pf:p≠f:=ae hp hf0
  have uf:u≠f:=ae aF hf2
  refine⟨_,rfl,p,C,dx,_,rfl,(by rw[aP pf,aF]),R.cl,R.n2,(by show 1<1000;decide),?_⟩
  refine⟨_,rfl,p,C,dx,_,rfl,aF,R.cl,R.n3,(by show 2<1000;decide),?_⟩
  refine k _ u f (aF.trans rfl) ?_ ?_ hu hf0 uf fun b o e hb=>?_
  ·rw[aP pu.symm,aP pu.symm,aP uf,aP pu.symm,aF]
  ·rw[aP pf.symm,aP pf.symm,aF]
  ·rw[aP hb,aP hb,aP (ae e hf0),aP hb,aP (ae e hu)];exact e
end
open MP (dS good U run)
open MS (aw sz Ok gU)
section
variable(P:Program)(w:World)(K:aD)(mg:Str->Option Value)(base:Heap)
structure eE (x:Str) (C:Addr) (k:Nat) (ps:List Str) (sp:Sp):Prop where
 nm:mg x=some (.ref C)
 ex:∃(f:Addr) (fd:FuncData),Mk K C f/\Binds K fd ps []/\dB P w K mg base eT k f fd ps sp
end
section
variable{X:Cx}{x:Str}{C:Addr}{k:Nat}{ps:List Str}{sp:Sp}{p pos:Pos}{e:Expr}{es:List Expr}{t:TA}
theorem Av(M:eE X.prog X.w X.K X.mg X.base x C k ps sp)(hr:bh (k+1) X.A)(hg:Gl X x:=by rfl)(hdb:(x==("__debug__":Str))=false:=by decide):PE X (.Call (.Name x p) [] [] pos) (pS C sp [] E0 cK):=by
 obtain⟨f,fd,h1,h2,h3⟩:=M.ex
 exact GR h1 h3 hr hg M.nm h2 .nil kU hdb
theorem pk(M:eE X.prog X.w X.K X.mg X.base x C k ps sp)(hr:bh (k+1) X.A)(ha:PA X (e::es) t)(hg:Gl X x:=by rfl)(hdb:(x==("__debug__":Str))=false:=by decide)
  (he:starEach (e::es) X.env=(false,eval e X.env)::starEach es X.env:=by rfl)(hpl:(backTo pos (starEach es X.env)).any (·.1)=false:=by rfl):PE X (.Call (.Name x p) (e::es) [] pos) (pS C sp [] E0 t):=by
 obtain⟨f,fd,h1,h2,h3⟩:=M.ex
 exact GQ h1 h3 hr hg M.nm h2 .nil kU ha hdb he hpl
end
section
variable{P:Program}{w:World}{K:aD}{mg:Str->Option Value}{base:Heap}{C:Addr}
def Aw(K:aD):Sp:=fun vs H Q _=>∃v t,vs=[v]/\IsT K H v t/\t.length<=bz/\
 (∀A g H',dE t=some A->aA H H'->H g=none->de K H' g A->(nl A).length<=10000->Q (.ref g) H')/\(dE t=none->∀H',aA H H'->Q .non H')
theorem Ax:aZ ["text","tokens","reader","token"] ["text"] (aQ vT):=fS
theorem JE(D:aO K mg "read_formula" vT)(R:RC K C)(T2:fC K mg)(C1:aK P w K mg base "read_tokens" 4 ["text"] (Ac K))(M0:eE P w K mg base "FormulaReader" C 1 ["self"] (wM C))
  (M1:∀Nw,bE P w K mg base C "take" 7 ["self","token"] (Ar K Nw C))(M2:∀Nw,bE P w K mg base C "outcome" 5 ["self"] (Au K Nw C)):aK P w K mg base "read_formula" 8 ["text"] (Aw K):=by
 refine D.cal Ax (fun vs H Q E h=>?_) (fun fa cdv A outer s H vs Q E hr h=>?_)
 ·obtain⟨v,_,rfl,_⟩:=h
  rfl
 ·obtain⟨v,t,rfl,⟨a,rfl,ha⟩,hl,k1,k2⟩:=h
  have nd:=Ax.nd
  have hr4:=hr.mono (show 4<=7 by decide)
  have hr2:=hr.mono (show 2<=7 by decide)
  have hr5:=hr.mono (show 5<=7 by decide)
  refine⟨_,aG (aj (ao ik (bD bI (by rfl) T2.len bM (aB (pv 0) aC)) (bX T2.mform) (ak _)) (aI (aN bu)) ay)
   (aG (aT (i:=1) nd rfl (aJ rfl) (pc C1 hr4 (aB (pv 0) aC)))
   (aG (aj (ao kN (pv 1) bu (ak _)) (aI (aN bu)) ay)
   (aG (aT (i:=2) nd rfl (aJ rfl) (Av M0 hr2))
   (aG (dy PassesOwn.never rfl (c6 (pv 1)) (bN (i:=3) nd rfl (aJ rfl))
    (aI (aj (dH (cA (pm R.cl (M1 fun b=>H b=none) hr (pv 2) (aB (pv 3) aC)))) (aI (aN bu)) ay)))
   (aI (aN (d4 R.cl (M2 fun b=>H b=none) hr5 (pv 2)))))))),?_⟩
  refine⟨_,rfl,a,_,rfl,.inl ha,_,_,rfl,rfl,_,rfl,?_⟩
  rw[aL]
  refine aU (fun e=>?_) (fun e=>?_)
  ·refine k2 ?_ H (aA.refl H)
   have e:=of_decide_eq_true e
   exact if_pos (by omega)
  have e:¬((2000:Int)<(t.length:Int)):=fun z=>e (decide_eq_true z)
  have et:dE t=(rd t).bind fun ts=>run ⟨[],[],true⟩ ts:=if_neg (by omega)
  rw[et] at k1 k2
  refine⟨_,rfl,.ref a,t,rfl,⟨a,rfl,ha⟩,hl,fun ts d ws H1 hrd s1 hd1 hd hwp=>?_,fun hrd H1 s1=>?_⟩
  ·rw[hrd] at k1 k2
   have htl:=MT.FG t.length t (aY _) hrd
   have htg:=MT.sk t.length t (aY _) hrd
   refine⟨_,rfl,rfl,_,rfl,?_⟩
   refine ir ?_
   intro p dx hp hdx hne
   refine⟨p,dx,rfl,aF,fun H2 u f hp2 hu2 hf2 hu hf huf kp=>⟨rfl,?_⟩⟩
   have hu1:=gH (gH hu)
   have hf1:=gH (gH hf)
   have s2:aA H1 H2:=fun b o q=>kp b o (by rw[aP (ae q hp),aP (ae q hdx)];exact q) (ae q hp)
   have hp0:=s1.free hp
   have hu0:=s1.free hu1
   have hf0:=s1.free hf1
   have s02:=s1.trans s2
   have hR0:RS K (fun b=>H b=none) C p dx u f H2 ⟨[],[],true⟩:=⟨[],[],⟨hp2,hu2,hf2,huf,fun b q=>s02.free q⟩,.nil,.nil⟩
   have hwl:=hwp.length
   rw[aL] at hwl
   have pd:∀{H'},Fr p u f H2 H'->H' d=some (.lst ws):=fun r=>r d _ (ae hd1 hp) (ae hd1 hu1) (ae hd1 hf1) (s2 _ _ hd1)
   refine⟨_,rfl,d,rfl,⟨_,aE.of (s2 _ _ hd1)⟩,gY (K:=K) (a:=d) (xs:=ws) (fun i σ H'=>∃(x:Option V) (st:MP.St),σ=[some (.ref a),some (.ref d),some (.ref p),x]/\Fr p u f H2 H'/\RS K (fun b=>H b=none) C p dx u f H' st/\Ok st/\gU st<=2*i/\run ⟨[],[],true⟩ ts=run st (ts.drop i))
    ⟨none,_,rfl,Fr.refl _ _ _ _,hR0,⟨rfl,rfl⟩,bF _,rfl⟩ (fun i σ H' _ ⟨_,_,_,r,_⟩=>aE.of (pd r)) ?_ ?_⟩
   ·rintro i y σ H' hi ⟨x,st,rfl,r1,hR1,hOk,htot,hrun⟩
    obtain⟨n,hn,hyn⟩:=bw hwp hi
    have hil:i<ws.length:=(bC.mp hi).1
    rw[bo] at hn
    obtain⟨tk,htk,rfl⟩:∃tk,ts[i]? =some tk/\du tk=n:=by
     cases q:ts[i]? with
     |none=>rw[q] at hn;cases hn
     |some tk=>rw[q] at hn;exact⟨tk,rfl,bL hn⟩
    have hg:dS tk=true:=cJ.mp htg tk (cv htk)
    have ed:ts.drop i=tk::ts.drop (i+1):=by
     rw[fg (by omega)]
     rw[(bC.mp htk).2]
    rw[ed,MP.sC] at hrun
    obtain⟨us,fs,kd,h1,h2⟩:=hR1.ex
    have hy2:ai K H' y (du tk):=by
     obtain⟨c,rfl,hc⟩:=hyn
     refine⟨c,rfl,?_⟩
     have hc2:=aA.tup s2 hc
     exact r1.tup (C:=C) (b:=true) ⟨hp2,hu2,hf2,huf,fun b q=>s02.free q⟩ hc2
    refine⟨_,rfl,p,dx,_,rfl,kd.ins,eD _ _ _ rfl rfl rfl,_,rfl,p,dx,u,f,st,y,tk,rfl,hR1,hOk,hy2,hg,by omega,fun st' H3 e3 r3 hR3=>?_,fun e3 H3 r3=>?_⟩
    ·obtain⟨ok',tt'⟩:=MS.FH hOk hg e3
     rw[e3] at hrun
     exact⟨_,rfl,_,st',rfl,r1.trans r3,hR3,ok',by omega,hrun⟩
    ·rw[e3] at hrun
     exact⟨_,rfl,k2 hrun H3 (Fr.same s02 (r1.trans r3) hp0 hu0 hf0)⟩
   ·rintro σ H' ⟨x,st,rfl,r1,hR1,hOk,htot,hrun⟩
    rw[mD (by omega)] at hrun
    have hrun:run ⟨[],[],true⟩ ts=MP.outcome st:=hrun
    obtain⟨us,fs,kd,h1,h2⟩:=hR1.ex
    refine⟨_,rfl,p,dx,_,rfl,kd.ins,eD _ _ _ rfl rfl rfl,p,dx,u,f,st,rfl,hR1,hOk,by omega,fun B g H3 e3 r3 hn hB hnl=>?_,fun e3 H3 r3=>?_⟩
    ·exact k1 B g H3 (hrun.trans e3) (Fr.same s02 (r1.trans r3) hp0 hu0 hf0) hn hB hnl
    ·exact k2 (hrun.trans e3) H3 (Fr.same s02 (r1.trans r3) hp0 hu0 hf0)
  ·rw[hrd] at k2
   exact⟨_,rfl,rfl,_,rfl,k2 rfl H1 s1⟩
end
open Vaneta (cutAt isSmall isWord isName Token Formula two dual allOf)
open MR (c5 gV)
theorem boot_all:bootBuiltins "all"=some (.builtin "all"):=by decide+kernel
def dF(A:Formula):PyData:=.list ((nl A).map dN)
theorem qb{K:aD}{H:Hp}:∀{vs:List V} {ns:List (List UInt8)},Paired (ai K H) vs ns->fR K H vs (ns.map dN)
 |_,_,.nil=>.nil
 |_,_,.cons r t=>.cons r.dp (qb t)
theorem de.dp{K:aD}{H:Hp}{g:Addr}{A:Formula}(h:de K H g A):Dp K H (.ref g) (dF A):=by
 obtain⟨_,vs,h1,h2⟩:=h
 exact .lst (aE.of h1) (qb h2)
def d5(k:Nat)(d:PyData):Prop:=d.canLay0=true/\d.depth<=k
theorem d5.shaped{k:Nat}{d:PyData}(h:d5 k d)(hk:k<=64):SeqAt.shaped d=true:=by
 show(d.canLay0&&decide (d.depth<=64))=true
 rw[h.1,decide_eq_true (bW h.2 hk)];rfl
theorem wN{k:Nat}:∀{ds:List PyData},(∀d∈ds,d5 k d)->PyData.canLayAll0 ds=true/\PyData.depthAll ds<=k
 |[],_=>⟨rfl,bF _⟩
 |d::ds,h=>by
  obtain⟨h1,h2⟩:=wN (ds:=ds) fun x hx=>h x (ba _ hx)
  obtain⟨h3,h4⟩:=h d bY
  refine⟨?_,?_⟩
  ·show(d.canLay0&&PyData.canLayAll0 ds)=true;rw[h1,h3];rfl
  ·show max d.depth (PyData.depthAll ds)<=k;exact Nat.max_le.mpr ⟨h4,h2⟩
theorem wO{k:Nat}{ds:List PyData}(h:∀d∈ds,d5 k d):d5 (k+1) (.list ds):=by
 obtain⟨h1,h2⟩:=wN h
 exact⟨h1,Nat.succ_le_succ h2⟩
theorem Ay{k:Nat}{ds:List PyData}(h:∀d∈ds,d5 k d):d5 (k+1) (.tuple ds):=by
 obtain⟨h1,h2⟩:=wN h
 exact⟨h1,Nat.succ_le_succ h2⟩
theorem wQ(i:Int):d5 0 (.int i):=⟨rfl,aY _⟩
theorem JF(n:List UInt8):d5 1 (dN n):=Ay fun d hd=>by
 obtain⟨b,_,rfl⟩:=cT.mp hd
 exact wQ _
theorem Az(A:Formula):d5 2 (dF A):=wO fun d hd=>by
 obtain⟨b,_,rfl⟩:=cT.mp hd
 exact JF _
theorem d5.mono{j k:Nat}{d:PyData}(h:d5 j d)(hk:j<=k):d5 k d:=⟨h.1,bW h.2 hk⟩
theorem qc(k:Nat):d5 k .none:=⟨rfl,bF _⟩
def gi(K:aD)(H0 H:Hp)(d:Addr)(v:V)(A:Formula):Prop:=∃g,v=.ref g/\H0 g=none/\g≠d/\de K H g A/\(nl A).length<=10000
def OF(K:aD)(H0 H:Hp)(d:Addr)(v:V):Option Formula->Prop
 |none=>v=.non
 |some A=>gi K H0 H d v A
def nW:Option Formula->PyData
 |none=>.none
 |some A=>dF A
theorem gi.same{K:aD}{H0 H H':Hp}{d:Addr}{v:V}{A:Formula}(h:gi K H0 H d v A)(e:aA H H'):gi K H0 H' d v A:=by
 obtain⟨g,rfl,h1,h2,h3,h4⟩:=h
 exact⟨g,rfl,h1,h2,h3.same e,h4⟩
theorem gi.upd{K:aD}{H0 H:Hp}{d:Addr}{v:V}{A:Formula}{ys zs:List V}(h:gi K H0 H d v A)(hD:H d=some (.lst ys)):gi K H0 (upd H d (.lst zs)) d v A:=by
 obtain⟨g,rfl,h1,h2,h3,h4⟩:=h
 exact⟨g,rfl,h1,h2,h3.upd hD h2,h4⟩
theorem OF.same{K:aD}{H0 H H':Hp}{d:Addr}{v:V}{o:Option Formula}(h:OF K H0 H d v o)(e:aA H H'):OF K H0 H' d v o:=by
 cases o with
 |none=>exact h
 |some A=>exact gi.same h e
theorem OF.upd{K:aD}{H0 H:Hp}{d:Addr}{v:V}{o:Option Formula}{ys zs:List V}(h:OF K H0 H d v o)(hD:H d=some (.lst ys)):OF K H0 (upd H d (.lst zs)) d v o:=by
 cases o with
 |none=>exact h
 |some A=>exact gi.upd h hD
theorem BA{K:aD}{H0 H:Hp}{d:Addr}:∀{vs:List V} {os:List (Option Formula)},Paired (OF K H0 H d) vs os->fR K H vs (os.map nW)
 |_,_,.nil=>.nil
 |v::vs,o::os,.cons r t=>.cons (by
   cases o with
   |none=>cases r;exact .non
   |some A=>obtain⟨g,rfl,_,_,h,_⟩:=r;exact h.dp) (BA t)
theorem JG(o:Option Formula):d5 2 (nW o):=by
 cases o with
 |none=>exact qc _
 |some A=>exact Az A
theorem BB:∀os:List (Option Formula),((os.map nW).any fun e=>PyData.eqv e .none)=decide (none∈os)
 |[]=>rfl
 |none::os=>by
  rw[bg,iY,show PyData.eqv (nW none) .none=true from rfl,Bool.true_or]
  exact(decide_eq_true bY).symm
 |some A::os=>by
  rw[bg,iY,show PyData.eqv (nW (some A)) .none=false from rfl,Bool.false_or,BB os,ck,decide_eq_true_iff,decide_eq_true_iff]
  simp
theorem BC{os:List PyData}{k:Nat}(hk:k<=64)(h:∀d∈os,d5 k d):os.all SeqAt.shaped=true:=cJ.mpr fun d hd=>(h d hd).shaped hk
theorem BD{α β:Type}{F:α->Option β->Prop}:∀{xs:List α} {ys:List β},Paired F xs (ys.map some)->Paired (fun x y=>F x (some y)) xs ys
 |_,[],.nil=>.nil
 |_,y::ys,.cons r t=>.cons r (BD t)
section
variable{P:Program}{w:World}{K:aD}{mg:Str->Option Value}{base:Heap}
def wR(K:aD):Sp:=fun vs H Q _=>∃v t,vs=[v]/\IsT K H v t/\t.length<=bz/\
 (∀fs d ws H',c5 t=some fs->aA H H'->H d=none->H' d=some (.lst ws)->Paired (gi K H H' d) ws fs->Q (.ref d) H')/\(c5 t=none->∀H',aA H H'->Q .non H')
theorem BE:aZ ["text","pieces","formulas","byte","piece"] ["text"] (aQ nM):=fS
theorem JH(D:aO K mg "read_sequent" nM)(T2:fC K mg)(C1:aK P w K mg base "split_at" 1 ["text","byte"] (nT K))(C2:aK P w K mg base "read_formula" 8 ["text"] (Aw K)):
  aK P w K mg base "read_sequent" 9 ["text"] (wR K):=by
 refine D.cal BE (fun vs H Q E h=>?_) (fun fa cdv A outer s H vs Q E hr h=>?_)
 ·obtain⟨v,_,rfl,_⟩:=h
  rfl
 ·obtain⟨v,t,rfl,⟨a,rfl,ha⟩,hl,k1,k2⟩:=h
  have nd:=BE.nd
  have hr1:=hr.mono (show 1<=8 by decide)
  have hu65:=nV hr
  refine⟨_,aG (aj (cA (bD (pW rfl) (by rfl) T2.all boot_all (aB (eS (own:=[("byte",3)]) rfl nd (c6 (pv 0)) (dc (N:=["text","pieces","formulas","byte","piece"]) (sc:=aQ nM) (by decide+kernel)) (fun _ _ _ _ _=>bN (i:=3) nd rfl (aJ rfl)) (fun _ _ _ _ _=>eR) (fun _ _ _ _ _=>il iJ (pv 3) (bX T2.blank) (ak _))) aC)))
    (aI (aN (au aC))) ay)
   (aG (aT (i:=1) nd rfl (aJ rfl) (pc C1 hr1 (aB (pv 0) (aB (bX T2.comma) aC))))
   (aG (aj (ao ik (bD bI (by rfl) T2.len bM (aB (pv 1) aC)) (bX T2.mforms) (ak _)) (aI (aN bu)) ay)
   (aG (uL (i:=2) (own:=[("piece",4)]) rfl nd rfl rfl (uM rfl rfl rfl rfl) (c6 (pv 1)) (dc (N:=["text","pieces","formulas","byte","piece"]) (sc:=aQ nM) (by decide+kernel)) (fun _ _ _ _ _=>bN (i:=4) nd rfl (aJ rfl)) (fun _ _ _ _ _=>eR) (fun _ _ _ _ _=>pc C2 hr (aB (pv 4) aC)))
   (aI (aN (iG (ao (nN hu65) bu (pv 2) rfl) bu (pv 2))))))),?_⟩
  refine⟨_,rfl,a,rfl,⟨_,ha⟩,fun D1 hD1=>?_⟩
  refine fT (K:=K) (a:=a) (xs:=t.map vb) (fun i H'=>aA H H'/\H' D1=some (.lst (((t.take i).map fun c=>c==32).map V.bl))) ?_ ?_ ?_ ?_
  ·exact⟨aA.upd hD1,aF⟩
  ·rintro i H' _ ⟨s1,_⟩
   exact aA.seq s1 ha
  ·rintro i x H' hx ⟨s1,hz⟩
   obtain⟨c,hc,rfl⟩:=qV hx
   have hil:i<t.length:=(bC.mp hc).1
   have hlim:bz=1000000:=rfl
   refine⟨rfl,_,rfl,rfl,_,hz,?_,aA.upd2 s1 hD1,?_⟩
   ·rw[aL,aL,cM,sizeLine_eq];omega
   ·rw[aF,take_snoc hc,bO,bO]
    have e:decide (vb c=V.int 32)=(c==32):=by rw[show decide (vb c=V.int 32)=decide (c=32) from nR (b:=32)];rfl
    rw[e];rfl
  ·rintro H1 ⟨s1,hz⟩
   rw[aL,cQ] at hz
   refine⟨D1,_,rfl,aE.of hz,_,rfl,?_⟩
   have eall:(t.map fun c=>c==32).all id=t.all fun b=>b==32:=by
    rw[oS];rfl
   rw[eall]
   refine aU (fun e=>?_) (fun e=>?_)
   ·refine⟨bF _,fun d hd=>k1 [] d [] _ (if_pos e) (s1.trans (aA.upd hd)) (s1.free hd) aF .nil⟩
   have er:c5 t=if 20<(cutAt 44 t).length then none else allOf ((cutAt 44 t).map dE):=if_neg e
   rw[er] at k1 k2
   refine⟨_,rfl,.ref a,t,44,rfl,⟨a,rfl,aA.seq s1 ha⟩,hl,fun d as H2 B=>?_⟩
   have hal:=B.at_.length
   refine⟨_,rfl,d,_,rfl,.inl (aE.of B.lst),_,_,rfl,rfl,_,rfl,?_⟩
   rw[aL]
   refine aU (fun e2=>?_) (fun e2=>?_)
   ·have e2:=of_decide_eq_true e2
    exact k2 (if_pos (by omega)) H2 (s1.trans B.same)
   have e2:¬((20:Int)<(as.length:Int)):=fun z=>e2 (decide_eq_true z)
   rw[if_neg (show¬20<(cutAt 44 t).length by omega)] at k1 k2
   have s2:=s1.trans B.same
   refine⟨_,rfl,d,rfl,⟨_,aE.of B.lst⟩,fun D2 hD2=>?_⟩
   have hD20:=s2.free hD2
   have hcl:=MT.lD 44 t
   refine fT (K:=K) (a:=d) (xs:=as.map V.ref) (fun i H'=>aA H2 H'/\∃zs,H' D2=some (.lst zs)/\Paired (OF K H H' D2) zs (((cutAt 44 t).map dE).take i)) ?_ ?_ ?_ ?_
   ·exact⟨aA.upd hD2,[],aF,.nil⟩
   ·rintro i H' _ ⟨s3,_⟩
    exact aA.seq s3 (aE.of B.lst)
   ·rintro i x H' hx ⟨s3,zs,hz,hzp⟩
    rw[bo] at hx
    obtain⟨b,hb,rfl⟩:∃b,as[i]? =some b/\V.ref b=x:=by
     cases q:as[i]? with
     |none=>rw[q] at hx;cases hx
     |some b=>rw[q] at hx;exact⟨b,rfl,bL hx⟩
    obtain⟨pc,hpc,hbt⟩:=bw B.at_ hb
    have hpl:pc.length<=t.length:=hcl.2 pc (cv hpc)
    have hro:((cutAt 44 t).map dE)[i]? =some (dE pc):=by rw[bo,hpc];rfl
    have hzl:=hzp.length
    rw[cM] at hzl
    have fin:∀v H4,aA H' H4->OF K H H4 D2 v (dE pc)->∃acc,H4 D2=some (.lst acc)/\acc.length<sizeLine/\(aA H2 (upd H4 D2 (.lst (acc++[v])))/\∃zs,(upd H4 D2 (.lst (acc++[v]))) D2=some (.lst zs)/\Paired (OF K H (upd H4 D2 (.lst (acc++[v]))) D2) zs (((cutAt 44 t).map dE).take (i+1))):=fun v H4 s4 hv=>by
     have hz4:=s4 _ _ hz
     refine⟨zs,hz4,?_,aA.upd2 (s3.trans s4) hD2,_,aF,?_⟩
     ·rw[sizeLine_eq]
      rw[aL] at hzl
      omega
     ·rw[take_snoc hro]
      exact Paired.snoc (Paired.mono (fun _ _ q=>(q.same s4).upd hz4) hzp) (hv.upd hz4)
    refine⟨rfl,_,rfl,.ref b,pc,rfl,⟨b,rfl,aE.of (s3 _ _ hbt)⟩,by omega,fun B1 g H4 e4 s4 hg hB hnl=>?_,fun e4 H4 s4=>?_⟩
    ·refine fin _ H4 s4 ?_
     rw[e4]
     exact⟨g,rfl,(s2.trans s3).free hg,(ae hz hg).symm,hB,hnl⟩
    ·refine fin _ H4 s4 ?_
     rw[e4]
     rfl
   ·rintro H3 ⟨s3,zs,hz,hzp⟩
    have elen:(as.map V.ref).length=((cutAt 44 t).map dE).length:=by rw[aL,aL];exact hal
    rw[elen,cQ] at hzp
    refine⟨_,rfl,D2,zs,_,_,rfl,.inl (aE.of hz),.non,BA hzp,(qc 0).shaped (by decide),BC (k:=2) (by decide) (fun x hx=>?_),_,rfl,?_⟩
    ·obtain⟨o,_,rfl⟩:=cT.mp hx;exact JG o
    rw[BB]
    refine aU (fun e3=>?_) (fun e3=>?_)
    ·exact k2 (MR.kG (of_decide_eq_true e3)) H3 (s2.trans s3)
    ·have e3:none∉(cutAt 44 t).map dE:=fun z=>e3 (decide_eq_true z)
     obtain⟨fs,f1,f2⟩:=MR.lE e3
     rw[f2] at hzp
     exact⟨_,rfl,k1 fs D2 zs H3 f1 (s2.trans s3) hD20 hz (BD hzp)⟩
end
open Vaneta (cutAt isSmall isWord isName Token Formula allOf)
open Vanetc (numberOf pairOf pairsOf risingFirst trimmed isDigit)
def oi:Option Nat->V
 |none=>.non
 |some n=>.int (n:Nat)
theorem JI{t:List UInt8}{i:Nat}{c:UInt8}(hc:t[i]? =some c)(hd:isDigit c=true)(n:Nat):
  (n:Int)*10+(c.toNat:Int)-48=((10*n+(c.toNat-48):Nat):Int):=by
 unfold isDigit at hd
 rw[ag] at hd
 have h1:48<=c.toNat:=by
  have:=of_decide_eq_true hd.1
  rw[M8] at this
  exact this
 omega
section
variable{P:Program}{w:World}{K:aD}{mg:Str->Option Value}{base:Heap}
def BF(K:aD):Sp:=fun vs H Q _=>∃v t,vs=[v]/\IsT K H v t/\t.length<=bz/\∀H',aA H H'->Q (oi (numberOf t)) H'
theorem BG:aZ ["digits","number","byte"] ["digits"] (aQ qO):=fS
theorem JJ(D:aO K mg "read_number" qO)(T2:fC K mg)(C1:aK P w K mg base "is_digit" 1 ["byte"] wF):aK P w K mg base "read_number" 2 ["digits"] (BF K):=by
 refine D.cal BG (fun vs H Q E h=>?_) (fun fa cdv A outer s H vs Q E hr h=>?_)
 ·obtain⟨v,_,rfl,_⟩:=h
  rfl
 ·obtain⟨v,t,rfl,⟨a,rfl,ha⟩,hl,k⟩:=h
  have nd:=BG.nd
  refine⟨_,aG (aj (iF (dH (kP (pv 0) (fun _=>rfl))) (ie (dH (cA (bD (pW rfl) (by rfl) T2.all boot_all (aB (eS (own:=[("byte",2)]) rfl nd (c6 (pv 0)) (dc (N:=["digits","number","byte"]) (sc:=aQ qO) (by decide+kernel)) (fun _ _ _ _ _=>bN (i:=2) nd rfl (aJ rfl)) (fun _ _ _ _ _=>eR) (fun _ _ _ _ _=>pc C1 hr (aB (pv 2) aC))) aC)))))).pt
    (aI (aN bu)) ay)
   (aG (aj (lH (ao ik (bD bI (by rfl) T2.len bM (aB (pv 0) aC)) aR (ak _)) (lG (ao iJ (aa az (pv 0) aR (fun _ _=>rfl)) aR (ak _)))).pt (aI (aN bu)) ay)
   (aG (aT (i:=1) nd rfl (aJ rfl) aR)
   (aG (dy PassesOwn.never rfl (c6 (pv 0)) (bN (i:=2) nd rfl (aJ rfl))
    (aI (aT (i:=1) nd rfl (aJ rfl) (bH pP (bH e9 (bH Fo (pv 1) aR) (pv 2)) aR))))
   (aI (aN (pv 1)))))),?_⟩
  have hno:∀b:Bool,numberOf t=(if b=true then none else some (t.foldl (fun n c=>10*n+(c.toNat-48)) 0))->b=true->∀H',aA H H'->Q .non H':=fun b e hb H' s=>by
   have:=k H' s
   rw[e,if_pos hb] at this
   exact this
  have en:numberOf t=if(t.isEmpty||(!t.all isDigit||(decide (1<t.length)&&t.head?==some 48)))=true then none else some (t.foldl (fun n c=>10*n+(c.toNat-48)) 0):=rfl
  refine⟨_,rfl,!t.isEmpty,.inl ⟨_,ha,by cases t<;>rfl⟩,?_⟩
  refine aU (fun e=>?_) (fun e=>?_)
  ·have e:t.isEmpty=true:=by simpa using e
   exact hno _ en (by rw[e];rfl) H (aA.refl H)
  have e:¬t.isEmpty=true:=by simpa using e
  refine⟨_,rfl,a,rfl,⟨_,ha⟩,fun D1 hD1=>?_⟩
  refine fT (K:=K) (a:=a) (xs:=t.map vb) (fun i H'=>aA H H'/\H' D1=some (.lst (((t.take i).map isDigit).map V.bl))) ?_ ?_ ?_ ?_
  ·exact⟨aA.upd hD1,aF⟩
  ·rintro i H' _ ⟨s1,_⟩
   exact aA.seq s1 ha
  ·rintro i x H' hx ⟨s1,hz⟩
   obtain⟨c,hc,rfl⟩:=qV hx
   have hil:i<t.length:=(bC.mp hc).1
   have hlim:bz=1000000:=rfl
   refine⟨rfl,_,rfl,c,rfl,_,hz,?_,aA.upd2 s1 hD1,?_⟩
   ·rw[aL,aL,cM,sizeLine_eq];omega
   ·rw[aF,take_snoc hc,bO,bO];rfl
  ·rintro H1 ⟨s1,hz⟩
   rw[aL,cQ] at hz
   refine⟨D1,_,rfl,aE.of hz,_,rfl,?_⟩
   have eall:(t.map isDigit).all id=t.all isDigit:=by rw[oS];rfl
   rw[eall]
   refine aU (fun e2=>?_) (fun e2=>?_)
   ·exact hno _ en (by rw[e2];cases t.isEmpty<;>rfl) H1 s1
   have e2:t.all isDigit=true:=by simpa using e2
   have ha1:=aA.seq s1 ha
   have en2:numberOf t=if(decide (1<t.length)&&t.head?==some 48)=true then none else some (t.foldl (fun n c=>10*n+(c.toNat-48)) 0):=by
    rw[en,e2,dI.mpr e];rfl
   have fin:(decide (1<t.length)&&t.head?==some 48)=false->ig (mZ (tC (.int 0)) (eO 1)) (ig (yu (yt K (ax 0)) (eO 2) (mZ (cE (e8 fun i j=>.int (i-j)) (cE (e8 fun i j=>.int (i+j)) (cE (rI pO fun i j=>.int (i*j)) (ax 1) (tC (.int 10))) (ax 2)) (tC (.int 48))) (eO 1))) (eZ (ax 1))) {nx:=fun _ H'=>Q .non H',rt:=Q} [some (.ref a),none,none] H1:=fun e3=>by
    have k':=k H1 s1
    rw[en2,e3] at k'
    refine⟨_,rfl,a,rfl,⟨_,ha1⟩,gY (K:=K) (a:=a) (xs:=t.map vb) (fun i σ H'=>∃x:Option V,σ=[some (.ref a),some (.int (((t.take i).foldl (fun n c=>10*n+(c.toNat-48)) 0:Nat))),x]/\H'=H1) ⟨none,rfl,rfl⟩ (fun i σ H' _ ⟨_,_,e⟩=>by rw[e];exact ha1) ?_ ?_⟩
    ·rintro i y σ H' hi ⟨x,rfl,rfl⟩
     obtain⟨c,hc,rfl⟩:=qV hi
     have hcd:isDigit c=true:=cJ.mp e2 c (cv hc)
     refine⟨_,rfl,_,_,rfl,rfl,.inr ⟨by decide,by decide⟩,_,rfl,_,_,rfl,rfl,_,_,rfl,rfl,some (vb c),?_,rfl⟩
     rw[take_snoc hc,Lw]
     show[some (V.ref a),some (V.int (((t.take i).foldl (fun n c=>10*n+(c.toNat-48)) 0:Nat)*10+(c.toNat:Int)-48)),some (vb c)]=_
     rw[JI hc hcd];rfl
    ·rintro σ H' ⟨x,rfl,rfl⟩
     rw[aL,cQ]
     exact⟨_,rfl,k'⟩
   refine⟨_,rfl,a,_,rfl,.inl ha1,_,_,rfl,rfl,_,rfl,?_⟩
   rw[aL]
   have ed:decide ((1:Int)<(t.length:Int))=decide (1<t.length):=by rw[ck,decide_eq_true_iff,decide_eq_true_iff];omega
   rw[ed]
   refine aU (fun e3=>?_) (fun e3=>?_)
   ·have hlt:1<t.length:=of_decide_eq_true e3
    obtain⟨c,r,rfl⟩:∃c r,t=c::r:=by
     cases t with
     |nil=>cases hlt
     |cons c r=>exact⟨c,r,rfl⟩
    ·refine⟨_,rfl,a,_,_,_,rfl,rfl,ha1,ah (j:=0) rfl,rfl,_,rfl,?_⟩
     have ec:decide (vb c=V.int 48)=((c::r).head?==some 48):=by
      rw[show decide (vb c=V.int 48)=decide (c=48) from nR (b:=48),ck,decide_eq_true_iff,beq_iff_eq]
      exact⟨fun z=>by rw[z];rfl,fun z=>bL z⟩
     rw[ec]
     refine aU (fun e4=>?_) (fun e4=>?_)
     ·exact hno _ en2 (by rw[e3,e4];rfl) H1 s1
     ·exact fin (by rw[e3,dI.mpr e4];rfl)
   ·exact fin (by rw[dI.mpr e3];rfl)
theorem BH(os:List (Option Nat)):(os.map oi).all iq=true:=by
 rw[cJ]
 intro x hx
 obtain⟨o,_,rfl⟩:=cT.mp hx
 cases o<;>rfl
theorem wU:∀os:List (Option Nat),fL .non (os.map oi)=decide (none∈os)
 |[]=>rfl
 |none::os=>by
  unfold fL
  rw[bg,iY,show iM (oi none) .non=true from rfl,Bool.true_or]
  exact(decide_eq_true bY).symm
 |some n::os=>by
  have ih:=wU os
  unfold fL at ih⊢
  rw[bg,iY,show iM (oi (some n)) .non=false from rfl,Bool.false_or,ih,ck,decide_eq_true_iff,decide_eq_true_iff]
  simp
def bj(K:aD)(H:Hp)(v:V)(x:Nat×Nat):Prop:=∃a,v=.ref a/\aW K H a [.int (x.1:Nat),.int (x.2:Nat)]
theorem bj.same{K:aD}{H H':Hp}{v:V}{x:Nat×Nat}(h:bj K H v x)(e:aA H H'):bj K H' v x:=by
 obtain⟨a,rfl,q⟩:=h
 exact⟨a,rfl,aA.tup e q⟩
theorem bj.upd{K:aD}{H:Hp}{v:V}{x:Nat×Nat}{D:Addr}{ys zs:List V}(h:bj K H v x)(hD:H D=some (.lst ys)):bj K (upd H D (.lst zs)) v x:=by
 obtain⟨a,rfl,q⟩:=h
 exact⟨a,rfl,aW.upd q hD⟩
def BI(K:aD):Sp:=fun vs H Q _=>∃v t,vs=[v]/\IsT K H v t/\t.length<=bz/\(∀x v' H',pairOf t=some x->aA H H'->bj K H' v' x->Q v' H')/\(pairOf t=none->∀H',aA H H'->Q .non H')
theorem BJ:aZ ["text","ends","piece"] ["text"] (aQ qP):=fS
theorem JK(D:aO K mg "read_link" qP)(T2:fC K mg)(C1:aK P w K mg base "split_at" 1 ["text","byte"] (nT K))(C2:aK P w K mg base "read_number" 2 ["digits"] (BF K)):
  aK P w K mg base "read_link" 3 ["text"] (BI K):=by
 refine D.cal BJ (fun vs H Q E h=>?_) (fun fa cdv A outer s H vs Q E hr h=>?_)
 ·obtain⟨v,_,rfl,_⟩:=h
  rfl
 ·obtain⟨v,t,rfl,⟨a,rfl,ha⟩,hl,k1,k2⟩:=h
  have nd:=BJ.nd
  have hr1:=hr.mono (show 1<=2 by decide)
  refine⟨_,aG (uL (i:=1) (own:=[("piece",2)]) rfl nd rfl rfl (uM rfl rfl rfl rfl) (c6 (pc C1 hr1 (aB (pv 0) (aB (bX T2.dash) aC)))) (dc (N:=["text","ends","piece"]) (sc:=aQ qP) (by decide+kernel)) (fun _ _ _ _ _=>bN (i:=2) nd rfl (aJ rfl)) (fun _ _ _ _ _=>eR) (fun _ _ _ _ _=>pc C2 hr (aB (pv 2) aC)))
   (aG (aj (iF (ao mh (bD bI (by rfl) T2.len bM (aB (pv 1) aC)) aR (ak _)) (iF (ao mw bu (pv 1) rfl) (ie (ao pQ (aa az (pv 1) aR (fun _ _=>rfl)) (aa az (pv 1) aR (fun _ _=>rfl)) (ak _))))).pt (aI (aN bu)) ay)
   (aI (aN (eQ (aB (aa az (pv 1) aR (fun _ _=>rfl)) (aB (aa az (pv 1) aR (fun _ _=>rfl)) aC)))))),?_⟩
  refine⟨_,rfl,.ref a,t,45,rfl,⟨a,rfl,ha⟩,hl,fun d as H2 B=>?_⟩
  have hal:=B.at_.length
  have hcl:=MT.lD 45 t
  refine⟨d,rfl,⟨_,aE.of B.lst⟩,fun D2 hD2=>?_⟩
  have hD20:=B.same.free hD2
  refine fT (K:=K) (a:=d) (xs:=as.map V.ref) (fun i H'=>aA H2 H'/\H' D2=some (.lst ((((cutAt 45 t).map numberOf).take i).map oi))) ?_ ?_ ?_ ?_
  ·exact⟨aA.upd hD2,aF⟩
  ·rintro i H' _ ⟨s3,_⟩
   exact aA.seq s3 (aE.of B.lst)
  ·rintro i x H' hx ⟨s3,hz⟩
   rw[bo] at hx
   obtain⟨b,hb,rfl⟩:∃b,as[i]? =some b/\V.ref b=x:=by
    cases q:as[i]? with
    |none=>rw[q] at hx;cases hx
    |some b=>rw[q] at hx;exact⟨b,rfl,bL hx⟩
   obtain⟨pc,hpc,hbt⟩:=bw B.at_ hb
   have hpl:pc.length<=t.length:=hcl.2 pc (cv hpc)
   have hro:((cutAt 45 t).map numberOf)[i]? =some (numberOf pc):=by rw[bo,hpc];rfl
   have hlim:bz=1000000:=rfl
   refine⟨rfl,_,rfl,.ref b,pc,rfl,⟨b,rfl,aE.of (s3 _ _ hbt)⟩,by omega,fun H4 s4=>?_⟩
   refine⟨_,s4 _ _ hz,?_,aA.upd2 (s3.trans s4) hD2,?_⟩
   ·rw[aL,cM,aL,sizeLine_eq];omega
   ·rw[aF,take_snoc hro,bO];rfl
  ·rintro H3 ⟨s3,hz⟩
   have elen:(as.map V.ref).length=((cutAt 45 t).map numberOf).length:=by rw[aL,aL];exact hal
   rw[elen,cQ] at hz
   have s03:=B.same.trans s3
   unfold pairOf at k1 k2
   generalize cutAt 45 t=ps at hz k1 k2
   refine⟨_,rfl,D2,_,rfl,.inl (aE.of hz),rfl,_,rfl,?_⟩
   rw[aL,aL]
   refine aU (fun e=>?_) (fun e=>?_)
   ·refine k2 ?_ H3 s03
    match ps,e with
    |[],_=>rfl
    |[_],_=>rfl
    |[_,_],e=>exact absurd e (by simp)
    |_::_::_::_,_=>rfl
   have e':ps.length=2:=by
    have e:V.int (ps.length:Nat)=V.int 2:=by simpa using e
    injection e with e
    omega
   match ps,e',hz,k1,k2 with
   |[p1,p2],_,hz,k1,k2=>
    refine⟨_,rfl,D2,_,rfl,.inl (aE.of hz),rfl,BH _,_,rfl,?_⟩
    rw[show(if false=true then !fL V.non (([p1,p2].map numberOf).map oi) else fL V.non (([p1,p2].map numberOf).map oi))=decide (none∈[p1,p2].map numberOf) from wU _]
    refine aU (fun e2=>?_) (fun e2=>?_)
    ·refine k2 ?_ H3 s03
     have e2:=of_decide_eq_true e2
     have e2:none=numberOf p1\/none=numberOf p2:=by simpa using e2
     show((numberOf p1).bind fun i=>(numberOf p2).bind fun j=>if i<j then some (i,j) else none)=none
     rcases e2 with e2|e2
     ·rw[<-e2];rfl
     ·rw[<-e2];cases numberOf p1<;>rfl
    ·have e2:¬none∈[p1,p2].map numberOf:=fun z=>e2 (decide_eq_true z)
     obtain⟨n1,h1⟩:∃n,numberOf p1=some n:=by
      cases q:numberOf p1 with
      |none=>exact absurd (by simp[q]) e2
      |some n=>exact⟨n,rfl⟩
     obtain⟨n2,h2⟩:∃n,numberOf p2=some n:=by
      cases q:numberOf p2 with
      |none=>exact absurd (by simp[q]) e2
      |some n=>exact⟨n,rfl⟩
     have hz':H3 D2=some (.lst [.int (n1:Nat),.int (n2:Nat)]):=by
      rw[hz];show some (HO.lst [oi (numberOf p1),oi (numberOf p2)])=_;rw[h1,h2];rfl
     dsimp only at k1 k2
     rw[h1,h2] at k1 k2
     refine⟨_,rfl,D2,_,_,_,rfl,rfl,aE.of hz',ah (j:=0) rfl,_,rfl,D2,_,_,_,rfl,rfl,aE.of hz',ah (j:=1) rfl,_,_,rfl,rfl,_,rfl,?_⟩
     refine aU (fun e3=>?_) (fun e3=>?_)
     ·have e3:=of_decide_eq_true e3
      exact k2 (if_neg (by omega)) H3 s03
     ·have e3:¬((n2:Int)<=(n1:Int)):=fun z=>e3 (decide_eq_true z)
      refine⟨_,rfl,D2,_,_,_,rfl,rfl,aE.of hz',ah (j:=0) rfl,_,rfl,D2,_,_,_,rfl,rfl,aE.of hz',ah (j:=1) rfl,(by show 2<=sizeLine;decide),fun l hl'=>?_⟩
      exact k1 (n1,n2) _ _ (if_pos (by omega)) (s03.trans (aA.upd hl')) ⟨l,rfl,aW.of aF⟩
end
open MF (nl)
section
variable{P:Program}{w:World}{K:aD}{mg:Str->Option Value}{base:Heap}
def BK(K:aD):Sp:=fun vs H Q _=>∃v t,vs=[v]/\IsT K H v t/\t.length<=bz/\∀b H',aA H H'->H b=none->H' b=some (.lst ((trimmed t).map vb))->Q (.ref b) H'
theorem BL:aZ ["text","start","end"] ["text"] (aQ vU):=fS
theorem JL(D:aO K mg "without_outer_blanks" vU)(T2:fC K mg):aK P w K mg base "without_outer_blanks" 1 ["text"] (BK K):=by
 refine D.cal BL (fun vs H Q E h=>?_) (fun fa cdv A outer s H vs Q E hr h=>?_)
 ·obtain⟨v,_,rfl,_⟩:=h
  rfl
 ·obtain⟨v,t,rfl,⟨a,rfl,ha⟩,hl,k⟩:=h
  have nd:=BL.nd
  refine⟨_,aG (aT (i:=1) nd rfl (aJ rfl) aR)
   (aG (aT (i:=2) nd rfl (aJ rfl) (bD bI (by rfl) T2.len bM (aB (pv 0) aC)))
   (aG (iI PassesOwn.never (lH (ao jb (pv 1) (pv 2) (ak _)) (lG (ao iJ (aa az (pv 0) (pv 1) (fun _ _=>rfl)) (bX T2.blank) (ak _)))).pt (aI (j9 (i:=1) nd rfl (aJ rfl) aR kM)))
   (aG (iI PassesOwn.never (lH (ao jb (pv 1) (pv 2) (ak _)) (lG (ao iJ (aa az (pv 0) (bH pP (pv 2) aR) (fun _ _=>rfl)) (bX T2.blank) (ak _)))).pt (aI (j9 (i:=2) nd rfl (aJ rfl) aR Ff)))
   (aI (aN (gD iL (pv 0) (dz (pv 1)) (dz (pv 2)))))))),?_⟩
  refine⟨_,rfl,a,_,rfl,.inl ha,?_⟩
  have e32:∀c:UInt8,decide (vb c=V.int 32)=decide (c=32):=fun c=>nR (b:=32)
  have gv:∀{j:Nat} {c:UInt8},t[j]? =some c->(t.map vb)[j]? =some (vb c):=fun{j c} h=>by rw[bo,h];rfl
  refine⟨fun m σ H'=>∃b:Nat,m=t.length-b/\σ=[some (.ref a),some (.int (b:Nat)),some (.int ((t.map vb).length:Nat))]/\H'=H/\b<=t.length/\∀j c,j<b->t[j]? =some c->c=32,
   ⟨_,0,rfl,rfl,rfl,bF _,fun j c h=>by omega⟩,?_⟩
  rintro m σ H' ⟨b,rfl,rfl,rfl,hb,hb1⟩
  have second:(b=t.length\/∃c,t[b]? =some c/\c≠32)->ig (yq (yk (kO (cE (e8 fun i j=>.bl (decide (i<j))) (ax 1) (ax 2))) (kO (cE zB (cE (ip K) (ax 0) (cE (e8 fun i j=>.int (i-j)) (ax 2) (tC (.int 1)))) (tC (.int 32))))) (yp 2 (tC (.int 1)) (tW fun i j=>i-j)))
    (eZ (pU (pV K) (ax 0) (kT (ax 1)) (kT (ax 2)))) {nx:=fun _ H'=>Q .non H',rt:=Q} [some (.ref a),some (.int (b:Nat)),some (.int ((t.map vb).length:Nat))] H':=fun hend=>by
   refine⟨fun m σ H''=>∃e:Nat,m=e/\σ=[some (.ref a),some (.int (b:Nat)),some (.int (e:Nat))]/\H''=H'/\b<=e/\e<=t.length/\∀j c,e<=j->t[j]? =some c->c=32,
    ⟨_,t.length,rfl,by rw[aL],rfl,hb,aY _,fun j c h q=>by have:=(bC.mp q).1;omega⟩,?_⟩
   rintro m σ H'' ⟨e,rfl,rfl,rfl,hbe,hel,he1⟩
   have fin:(b=m\/∃c,t[m-1]? =some c/\c≠32)->eZ (pU (pV K) (ax 0) (kT (ax 1)) (kT (ax 2))) {nx:=fun _ H'=>Q .non H',rt:=Q} [some (.ref a),some (.int (b:Nat)),some (.int (m:Nat))] H'':=fun h3=>by
    refine⟨_,rfl,_,rfl,_,rfl,_,rfl,_,rfl,a,_,rfl,ha,fun q hq=>k q _ (aA.upd hq) hq (aF.trans ?_)⟩
    have e1:trimmed t=(t.drop b).take (m-b):=by
     refine MR.FJ hbe hel hb1 he1 ?_
     by_cases q:b=m
     ·exact .inl q
     ·refine .inr ⟨?_,?_⟩
      ·rcases hend with z|z
       ·omega
       ·exact z
      ·rcases h3 with z|z
       ·exact absurd z q
       ·exact z
    rw[e1,nO,HT.gC,HT.gC,jC hb,jC hel]
   refine⟨_,rfl,_,rfl,_,_,rfl,rfl,_,rfl,?_⟩
   refine aU (fun q=>?_) (fun q=>?_)
   ·have hlt:b<m:=by have:=of_decide_eq_true q;omega
    have hc:t[m-1]? =some t[m-1]:=bU (by omega)
    have e5:(m:Int)-1=((m-1:Nat):Int):=by omega
    refine⟨_,rfl,_,rfl,_,_,rfl,rfl,a,_,_,_,rfl,rfl,ha,at_of e5 (gv hc),rfl,_,rfl,?_⟩
    rw[e32]
    refine aU (fun q2=>?_) (fun q2=>?_)
    ·have q2:=of_decide_eq_true q2
     refine⟨fun σ' H3=>∃m',m'<m/\∃e:Nat,m'=e/\σ'=[some (.ref a),some (.int (b:Nat)),some (.int (e:Nat))]/\H3=H''/\b<=e/\e<=t.length/\∀j c,e<=j->t[j]? =some c->c=32,fun _ _ h=>h,?_⟩
     refine⟨_,rfl,_,_,rfl,rfl,m-1,by omega,m-1,rfl,?_,rfl,by omega,by omega,fun j c h1 h2=>?_⟩
     ·show[some (V.ref a),some (V.int (b:Nat)),some (V.int ((m:Int)-1))]=_
      rw[e5]
     ·by_cases hj:j=m-1
      ·subst hj;rw[hc] at h2;cases h2;exact q2
      ·exact he1 j c (by omega) h2
    ·exact fin (.inr ⟨_,hc,fun z=>q2 (decide_eq_true z)⟩)
   ·have hq:¬((b:Int)<(m:Int)):=fun z=>q (decide_eq_true z)
    exact fin (.inl (by omega))
  refine⟨_,rfl,_,rfl,_,_,rfl,rfl,_,rfl,?_⟩
  have hlm:((t.map vb).length:Int)=(t.length:Int):=by rw[aL]
  refine aU (fun q=>?_) (fun q=>?_)
  ·have hlt:b<t.length:=by have:=of_decide_eq_true q;omega
   have hc:t[b]? =some t[b]:=bU hlt
   refine⟨_,rfl,_,rfl,a,_,_,_,rfl,rfl,ha,ah (gv hc),rfl,_,rfl,?_⟩
   rw[e32]
   refine aU (fun q2=>?_) (fun q2=>?_)
   ·have q2:=of_decide_eq_true q2
    refine⟨fun σ' H3=>∃m',m'<t.length-b/\∃b:Nat,m'=t.length-b/\σ'=[some (.ref a),some (.int (b:Nat)),some (.int ((t.map vb).length:Nat))]/\H3=H'/\b<=t.length/\∀j c,j<b->t[j]? =some c->c=32,fun _ _ h=>h,?_⟩
    refine⟨_,rfl,_,_,rfl,rfl,t.length-(b+1),by omega,b+1,rfl,rfl,rfl,by omega,fun j c h1 h2=>?_⟩
    by_cases hj:j=b
    ·subst hj;rw[hc] at h2;cases h2;exact q2
    ·exact hb1 j c (by omega) h2
   ·exact second (.inr ⟨_,hc,fun z=>q2 (decide_eq_true z)⟩)
  ·have hq:¬((b:Int)<((t.map vb).length:Int)):=fun z=>q (decide_eq_true z)
   exact second (.inl (by omega))
def qd(K:aD):Sp:=fun vs H Q _=>∃v t,vs=[v]/\IsT K H v t/\t.length<=bz/\(∀ls d zs H',pairsOf t=some ls->aA H H'->H d=none->H' d=some (.lst zs)->Paired (bj K H') zs ls->Q (.ref d) H')/\(pairsOf t=none->∀H',aA H H'->Q .non H')
theorem BM:aZ ["text","inner","links","piece","link"] ["text"] (aQ vV):=fS
theorem JM(t:List UInt8):(trimmed t).length<=t.length:=by
 unfold trimmed
 rw[fm]
 have h1:=(Dg (l:=(t.dropWhile fun b=>b==32).reverse) fun b=>b==32).length_le
 rw[fm] at h1
 exact bW h1 (Dg fun b=>b==32).length_le
theorem BN{α:Type}:∀{a b:List α},a.map some=b.map some->a=b
 |[],[],_=>rfl
 |[],_::_,h=>by cases h
 |_::_,[],h=>by cases h
 |x::a,y::b,h=>by
  injection h with h1 h2
  rw[bL h1,BN h2]
theorem JN{l:List (Option (Nat×Nat))}{i:Nat}{ls:List (Nat×Nat)}(h:l.take i=ls.map some){fs:List (Nat×Nat)}(e:l=fs.map some):∃r,fs=ls++r:=by
 rw[e,<-EC] at h
 have h2:fs.take i=ls:=BN h
 exact⟨fs.drop i,by rw[<-h2,ly]⟩
theorem JO(D:aO K mg "read_links" vV)(T2:fC K mg)(C0:aK P w K mg base "without_outer_blanks" 1 ["text"] (BK K))(C1:aK P w K mg base "split_at" 1 ["text","byte"] (nT K))(C2:aK P w K mg base "read_link" 3 ["text"] (BI K)):
  aK P w K mg base "read_links" 4 ["text"] (qd K):=by
 refine D.cal BM (fun vs H Q E h=>?_) (fun fa cdv A outer s H vs Q E hr h=>?_)
 ·obtain⟨v,_,rfl,_⟩:=h
  rfl
 ·obtain⟨v,t,rfl,⟨a,rfl,ha⟩,hl,k1,k2⟩:=h
  have nd:=BM.nd
  have hr1:=hr.mono (show 1<=3 by decide)
  refine⟨_,aG (aT (i:=1) nd rfl (aJ rfl) (pc C0 hr1 (aB (pv 0) aC)))
   (aG (aT (i:=2) nd rfl (aJ rfl) (au aC))
   (aG (aj (dH (kP (pv 1) (fun _=>rfl))) (aI (aN (pv 2))) ay)
   (aG (dy PassesOwn.never rfl (c6 (pc C1 hr1 (aB (pv 1) (aB (bX T2.blank) aC)))) (bN (i:=3) nd rfl (aJ rfl))
    (aG (aT (i:=4) nd rfl (aJ rfl) (pc C2 hr (aB (pv 3) aC)))
    (aG (aj (iF (ao kN (pv 4) bu (ak _)) (ie (lH (kP (pv 2) (fun _=>rfl)) (lG (ao pQ (aa cX (aa az (pv 2) (lM lN aR) (fun _ _=>rfl)) aR (fun _ _=>rfl)) (aa cX (pv 4) aR (fun _ _=>rfl)) (ak _)))).pt)).pt (aI (aN bu)) ay)
    (aI (bV (cG bR cw cy c7 (pv 2) (aB (pv 4) aC)))))))
   (aI (aN (pv 2)))))),?_⟩
  refine⟨_,rfl,.ref a,t,rfl,⟨a,rfl,ha⟩,hl,fun b H1 s1 hb hb1=>⟨bF _,fun d hd=>?_⟩⟩
  have hbt:IsT K (upd H1 d (.lst [])) (.ref b) (trimmed t):=⟨b,rfl,aE.of ((aA.upd hd) _ _ hb1)⟩
  have s2:=s1.trans (aA.upd (o:=.lst []) hd)
  have hd0:=s1.free hd
  have hd2:(upd H1 d (.lst [])) d=some (.lst []):=aF
  have hb2:=(aA.upd (o:=.lst []) hd) _ _ hb1
  generalize upd H1 d (.lst [])=H2 at hbt s2 hd2 hb2⊢
  have tl:=JM t
  refine⟨_,rfl,!(trimmed t).isEmpty,.inl ⟨_,aE.of hb2,by cases trimmed t<;>rfl⟩,?_⟩
  refine aU (fun e=>?_) (fun e=>?_)
  ·have e:(trimmed t).isEmpty=true:=by simpa using e
   exact⟨_,rfl,k1 [] d [] H2 (if_pos e) s2 hd0 hd2 .nil⟩
  have e:¬(trimmed t).isEmpty=true:=by simpa using e
  have ep:pairsOf t=(allOf ((cutAt 32 (trimmed t)).map pairOf)).bind fun l=>if risingFirst l=true then some l else none:=if_neg e
  rw[ep] at k1 k2
  refine⟨_,rfl,.ref b,trimmed t,32,rfl,hbt,by omega,fun dp as H3 B=>?_⟩
  have hal:=B.at_.length
  have hcl:=MT.lD 32 (trimmed t)
  have hlim:bz=1000000:=rfl
  have hdp:d≠dp:=ae hd2 B.fresh
  refine⟨dp,rfl,⟨_,aE.of B.lst⟩,gY (K:=K) (a:=dp) (xs:=as.map V.ref) (fun i σ H'=>∃(x1 x2:Option V) (ls:List (Nat×Nat)) (zs:List V),σ=[some (.ref a),some (.ref b),some (.ref d),x1,x2]/\(∀q o,q≠d->H3 q=some o->H' q=some o)/\H' d=some (.lst zs)/\Paired (bj K H') zs ls/\risingFirst ls=true/\((cutAt 32 (trimmed t)).map pairOf).take i=ls.map some/\ls.length=i)
   ⟨none,none,[],[],rfl,fun _ _ _ h=>h,B.same _ _ hd2,.nil,rfl,rfl,rfl⟩ (fun i σ H' _ ⟨_,_,_,_,_,s3,_⟩=>aE.of (s3 _ _ hdp.symm B.lst)) ?_ ?_⟩
  ·rintro i y σ H' hi ⟨x1,x2,ls,zs,rfl,s3,hdz,hzp,hri,htk,hli⟩
   rw[bo] at hi
   obtain⟨q,hq,rfl⟩:∃q,as[i]? =some q/\V.ref q=y:=by
    cases z:as[i]? with
    |none=>rw[z] at hi;cases hi
    |some q=>rw[z] at hi;exact⟨q,rfl,bL hi⟩
   have hil:i<as.length:=(bC.mp hq).1
   obtain⟨pc,hpc,hqt⟩:=bw B.at_ hq
   have hpl:pc.length<=(trimmed t).length:=hcl.2 pc (cv hpc)
   have hro:((cutAt 32 (trimmed t)).map pairOf)[i]? =some (pairOf pc):=by rw[bo,hpc];rfl
   have hqd:q≠d:=by
    intro z
    have:=(B.new q (cv hq)).1
    rw[z,hd2] at this
    cases this
   have hqt':=s3 _ _ hqd hqt
   have S0:∀{H4},aA H' H4->aA H H4:=fun s4 z o ho=>s4 _ _ (s3 _ _ (ae ho hd0) (B.same _ _ (s2 _ _ ho)))
   refine⟨_,rfl,.ref q,pc,rfl,⟨q,rfl,aE.of hqt'⟩,by omega,fun x v' H4 hx s4 hv'=>?_,fun hx H4 s4=>?_⟩
   ·obtain⟨va,rfl,hva⟩:=id hv'
    refine⟨_,rfl,rfl,_,rfl,?_⟩
    refine aU (fun z=>absurd z (by simp)) (fun _=>?_)
    have hdz4:=s4 _ _ hdz
    have hzl:=hzp.length
    have htk':((cutAt 32 (trimmed t)).map pairOf).take (i+1)=(ls++[x]).map some:=by
     rw[take_snoc hro,htk,hx,bO];rfl
    have go:risingFirst (ls++[x])=true->jH (jg K "list" jh (ax 2) (cO (ax 4) cK)) {nx:=fun σ H'=>∃(x1 x2:Option V) (ls:List (Nat×Nat)) (zs:List V),σ=[some (.ref a),some (.ref b),some (.ref d),x1,x2]/\(∀q o,q≠d->H3 q=some o->H' q=some o)/\H' d=some (.lst zs)/\Paired (bj K H') zs ls/\risingFirst ls=true/\((cutAt 32 (trimmed t)).map pairOf).take (i+1)=ls.map some/\ls.length=i+1,rt:=Q} [some (.ref a),some (.ref b),some (.ref d),some (.ref q),some (.ref va)] H4:=fun hr2=>by
     refine⟨_,rfl,.inl ⟨rfl,_,aE.of hdz4⟩,_,rfl,d,_,_,rfl,rfl,hdz4,by rw[sizeLine_eq];omega,?_⟩
     refine⟨_,_,ls++[x],zs++[.ref va],rfl,fun z o hz ho=>?_,aF,?_,hr2,htk',by rw[aS];show ls.length+1=i+1;omega⟩
     ·rw[aP hz];exact s4 _ _ (s3 _ _ hz ho)
     ·exact Paired.snoc (Paired.mono (fun _ _ z=>(z.same s4).upd hdz4) hzp) (hv'.upd hdz4)
    refine⟨_,rfl,!ls.isEmpty,.inl ⟨_,aE.of hdz4,by cases hzp<;>rfl⟩,?_⟩
    refine aU (fun e3=>?_) (fun e3=>?_)
    ·obtain⟨ls',y,rfl⟩:∃ls' y,ls=ls'++[y]:=by
      have:ls≠[]:=by intro z;rw[z] at e3;cases e3
      exact⟨_,_,(M7 this).symm⟩
     obtain⟨zs',vy,rfl,_,hvy⟩:=nS hzp
     obtain⟨ya,rfl,hya⟩:=hvy
     have hya4:=aA.tup s4 hya
     refine⟨_,rfl,_,rfl,d,_,_,_,rfl,rfl,aE.of hdz4,t9 _ _,ya,_,_,_,rfl,rfl,hya4,ah (j:=0) rfl,_,rfl,va,_,_,_,rfl,rfl,hva,ah (j:=0) rfl,_,_,rfl,rfl,_,rfl,?_⟩
     have er:risingFirst (ls'++[y]++[x])=decide (y.1<x.1):=by
      rw[MR.su,hri,gz,List.getLast?_concat]
     refine aU (fun e4=>?_) (fun e4=>?_)
     ·have e4:=of_decide_eq_true e4
      refine k2 ?_ H4 (S0 s4)
      cases ea:allOf ((cutAt 32 (trimmed t)).map pairOf) with
      |none=>rfl
      |some fs=>
       show(if risingFirst fs=true then some fs else none)=none
       rw[if_neg]
       intro hfs
       have hnn:none∉(cutAt 32 (trimmed t)).map pairOf:=fun z=>by rw[MR.kG z] at ea;cases ea
       obtain⟨fs',f1,f2⟩:=MR.lE hnn
       rw[f1] at ea
       cases ea
       obtain⟨r,hr3⟩:=JN htk' f2
       rw[hr3] at hfs
       have:=MR.yY _ _ hfs
       rw[er] at this
       have:=of_decide_eq_true this
       omega
     ·have e4:¬((x.1:Int)<=(y.1:Int)):=fun z=>e4 (decide_eq_true z)
      exact go (by rw[er];exact decide_eq_true (by omega))
    ·have e3:ls=[]:=by cases ls with|nil=>rfl|cons _ _=>exact absurd rfl e3
     subst e3
     exact go rfl
   ·refine⟨_,rfl,rfl,_,rfl,?_⟩
    refine k2 ?_ H4 (S0 s4)
    rw[MR.kG]
    ·rfl
    ·rw[<-hx];exact cv hro
  ·rintro σ H' ⟨x1,x2,ls,zs,rfl,s3,hdz,hzp,hri,htk,hli⟩
   have elen:(as.map V.ref).length=((cutAt 32 (trimmed t)).map pairOf).length:=by rw[aL,aL];exact hal
   rw[elen,cQ] at htk
   refine⟨_,rfl,k1 ls d zs H' ?_ (fun z o ho=>s3 _ _ (ae ho hd0) (B.same _ _ (s2 _ _ ho))) hd0 hdz hzp⟩
   rw[htk,MR.FI]
   exact if_pos hri
end
def cH(K:aD)(H:Hp)(v:V)(A:Formula):Prop:=∃g,v=.ref g/\de K H g A/\(nl A).length<=10000
theorem cH.same{K:aD}{H H':Hp}{v:V}{A:Formula}(h:cH K H v A)(e:aA H H'):cH K H' v A:=by
 obtain⟨g,rfl,h1,h2⟩:=h
 exact⟨g,rfl,h1.same e,h2⟩
theorem cH.isF{K:aD}{H:Hp}{v:V}{A:Formula}(h:cH K H v A):jn K H v A:=by
 obtain⟨g,rfl,h1,h2⟩:=h
 exact h1.isF h2
theorem gi.isG{K:aD}{H0 H:Hp}{d:Addr}{v:V}{A:Formula}(h:gi K H0 H d v A):cH K H v A:=by
 obtain⟨g,rfl,_,_,h1,h2⟩:=h
 exact⟨g,rfl,h1,h2⟩
theorem lT{K:aD}{H H':Hp}{vs:List V}{fs:List Formula}(h:Paired (cH K H) vs fs)(e:aA H H'):Paired (cH K H') vs fs:=Paired.mono (fun _ _ q=>q.same e) h
theorem BO{K:aD}{H:Hp}:∀{vs:List V} {fs:List Formula},Paired (cH K H) vs fs->fR K H vs (fs.map dF)
 |_,_,.nil=>.nil
 |_,_,.cons r t=>.cons (by obtain⟨g,rfl,h,_⟩:=r;exact h.dp) (BO t)
def dP(x:Nat×Nat):PyData:=.tuple [.int (x.1:Nat),.int (x.2:Nat)]
theorem BP{K:aD}{H:Hp}:∀{vs:List V} {ls:List (Nat×Nat)},Paired (bj K H) vs ls->fR K H vs (ls.map dP)
 |_,_,.nil=>.nil
 |_,_,.cons r t=>.cons (by obtain⟨g,rfl,h⟩:=r;exact .tup h (.cons (.int _) (.cons (.int _) .nil))) (BP t)
theorem JP(x:Nat×Nat):d5 1 (dP x):=Ay fun d hd=>by
 have:d=.int (x.1:Nat)\/d=.int (x.2:Nat):=by simpa using hd
 rcases this with rfl|rfl<;>exact wQ _
theorem BQ{α:Type}{k:Nat}{f:α->PyData}(h:∀x,d5 k (f x))(l:List α):d5 (k+1) (.list (l.map f)):=wO fun d hd=>by
 obtain⟨x,_,rfl⟩:=cT.mp hd
 exact h x
structure Od (K:aD) (H:Hp) (v:V) (d:PyData) (b:Bool):Prop where
 dp:Dp K H v d
 sh:d5 3 d
 nn:PyData.eqv d .none=b
theorem Od.non{K:aD}{H:Hp}:Od K H .non .none true:=⟨.non,qc _,rfl⟩
theorem Od.seq{K:aD}{H:Hp}{d:Addr}{ws:List V}{fs:List Formula}(h:H d=some (.lst ws))(hp:Paired (cH K H) ws fs):Od K H (.ref d) (.list (fs.map dF)) false:=⟨.lst (aE.of h) (BO hp),BQ Az fs,rfl⟩
theorem Od.lks{K:aD}{H:Hp}{d:Addr}{ws:List V}{ls:List (Nat×Nat)}(h:H d=some (.lst ws))(hp:Paired (bj K H) ws ls):Od K H (.ref d) (.list (ls.map dP)) false:=⟨.lst (aE.of h) (BP hp),(BQ JP ls).mono (by decide),rfl⟩
section
variable{P:Program}{w:World}{K:aD}{mg:Str->Option Value}{base:Heap}
structure JQ (K:aD) (H:Hp) (d:Addr) (x y:List Formula) (z:List (Nat×Nat)):Prop where
 ex:∃d1 d2 d3 ws1 ws2 ws3,H d=some (.lst [.ref d1,.ref d2,.ref d3])/\H d1=some (.lst ws1)/\Paired (cH K H) ws1 x/\H d2=some (.lst ws2)/\Paired (cH K H) ws2 y/\H d3=some (.lst ws3)/\Paired (bj K H) ws3 z
def BR(K:aD):Sp:=fun vs H Q _=>∃v t,vs=[v]/\IsT K H v t/\t.length<=bz/\(∀x y z d H',gV t=some (x,y,z)->aA H H'->JQ K H' d x y z->Q (.ref d) H')/\(gV t=none->∀H',aA H H'->Q .non H')
theorem BS:aZ ["text","pieces","found"] ["text"] (aQ vW):=fS
theorem JR(D:aO K mg "read_pieces" vW)(T2:fC K mg)(C1:aK P w K mg base "split_at" 1 ["text","byte"] (nT K))(C2:aK P w K mg base "read_sequent" 9 ["text"] (wR K))(C3:aK P w K mg base "read_links" 4 ["text"] (qd K)):
  aK P w K mg base "read_pieces" 10 ["text"] (BR K):=by
 refine D.cal BS (fun vs H Q E h=>?_) (fun fa cdv A outer s H vs Q E hr h=>?_)
 ·obtain⟨v,_,rfl,_⟩:=h
  rfl
 ·obtain⟨v,t,rfl,⟨a,rfl,ha⟩,hl,k1,k2⟩:=h
  have nd:=BS.nd
  have hr1:=hr.mono (show 1<=9 by decide)
  have hr4:=hr.mono (show 4<=9 by decide)
  have hu65:=nV hr
  refine⟨_,aG (aT (i:=1) nd rfl (aJ rfl) (pc C1 hr1 (aB (pv 0) (aB (bX T2.semi) aC))))
   (aG (aj (ao mh (bD bI (by rfl) T2.len bM (aB (pv 1) aC)) aR (ak _)) (aI (aN bu)) ay)
   (aG (aT (i:=2) nd rfl (aJ rfl) (au (aB (pc C2 hr (aB (aa az (pv 1) aR (fun _ _=>rfl)) aC)) (aB (pc C2 hr (aB (aa az (pv 1) aR (fun _ _=>rfl)) aC)) (aB (pc C3 hr4 (aB (aa az (pv 1) aR (fun _ _=>rfl)) aC)) aC)))))
   (aI (aN (iG (ao (nN hu65) bu (pv 2) rfl) bu (pv 2)))))),?_⟩
  refine⟨_,rfl,.ref a,t,59,rfl,⟨a,rfl,ha⟩,hl,fun d as H1 B=>?_⟩
  have hal:=B.at_.length
  have hcl:=MT.lD 59 t
  refine⟨_,rfl,d,_,rfl,.inl (aE.of B.lst),rfl,_,rfl,?_⟩
  rw[aL,hal]
  have hpc:=B.at_
  have s1:=B.same
  have hlst:=B.lst
  unfold gV at k1 k2
  generalize cutAt 59 t=ps at k1 k2 hpc hcl
  refine aU (fun e=>?_) (fun e=>?_)
  ·refine k2 ?_ H1 s1
   match ps,e with
   |[],_=>rfl
   |[_],_=>rfl
   |[_,_],_=>rfl
   |[_,_,_],e=>exact absurd e (by simp)
   |_::_::_::_::_,_=>rfl
  have e':ps.length=3:=by
   have e:V.int (ps.length:Nat)=V.int 3:=by simpa using e
   injection e with e
   omega
  match ps,e',hpc,hcl,k1,k2 with
  |[p1,p2,p3],_,hpc,hcl,k1,k2=>
   cases hpc with
   |cons h1 hpc=>
    cases hpc with
    |cons h2 hpc=>
     cases hpc with
     |cons h3 hpc=>
      cases hpc
      dsimp only at k1 k2
      have l1:p1.length<=t.length:=hcl.2 p1 (by simp)
      have l2:p2.length<=t.length:=hcl.2 p2 (by simp)
      have l3:p3.length<=t.length:=hcl.2 p3 (by simp)
      have last:∀(v1 v2 v3:V) (o1 o2 o3:PyData) (b1 b2 b3:Bool) (H4:Hp),aA H1 H4->(∀H5,aA H4 H5->Od K H5 v1 o1 b1/\Od K H5 v2 o2 b2/\Od K H5 v3 o3 b3)->
        ((b1||(b2||b3))=true->((c5 p1).bind fun x=>(c5 p2).bind fun y=>(pairsOf p3).map fun z=>(x,y,z))=none)->
        ((b1||(b2||b3))=false->∀D2 H5,aA H4 H5->H5 D2=some (.lst [v1,v2,v3])->Q (.ref D2) H5)->
        [v1,v2,v3].length<=sizeLine/\∀D2,H4 D2=none->eZ (pI (kO (cE (qT K) (tC .non) (ax 2))) (tC .non) (ax 2)) {nx:=fun _ H'=>Q .non H',rt:=Q} [some (.ref a),some (.ref d),some (.ref D2)] (upd H4 D2 (.lst [v1,v2,v3])):=fun v1 v2 v3 o1 o2 o3 b1 b2 b3 H4 s4 hO hb hq=>by
       refine⟨(by show 3<=sizeLine;decide),fun D2 hD2=>?_⟩
       have s5:aA H4 (upd H4 D2 (.lst [v1,v2,v3])):=aA.upd hD2
       obtain⟨q1,q2,q3⟩:=hO _ s5
       refine⟨_,rfl,D2,_,_,[o1,o2,o3],rfl,.inl (aE.of aF),.non,.cons q1.dp (.cons q2.dp (.cons q3.dp .nil)),(qc 0).shaped (by decide),BC (k:=3) (by decide) (fun x hx=>?_),_,rfl,?_⟩
       ·have:x=o1\/x=o2\/x=o3:=by simpa using hx
        rcases this with rfl|rfl|rfl
        ·exact q1.sh
        ·exact q2.sh
        ·exact q3.sh
       have ea:([o1,o2,o3].any fun e=>PyData.eqv e .none)=(b1||(b2||b3)):=by
        rw[iY,iY,iY,List.any_nil,q1.nn,q2.nn,q3.nn,kD]
       rw[ea]
       refine aU (fun e=>?_) (fun e=>?_)
       ·exact k2 (hb e) _ ((s1.trans s4).trans s5)
       ·exact⟨_,rfl,hq (dI.mpr e) D2 _ s5 aF⟩
      have third:∀(v1 v2:V) (o1 o2:PyData) (b1 b2:Bool) (H3:Hp),aA H1 H3->(∀H5,aA H3 H5->Od K H5 v1 o1 b1/\Od K H5 v2 o2 b2)->
        ((b1||b2)=true->((c5 p1).bind fun x=>(c5 p2).bind fun y=>(pairsOf p3).map fun z=>(x,y,z))=none)->
        ((b1||b2)=false->∃x y d1 d2 ws1 ws2,c5 p1=some x/\c5 p2=some y/\v1=.ref d1/\v2=.ref d2/\H3 d1=some (.lst ws1)/\Paired (cH K H3) ws1 x/\H3 d2=some (.lst ws2)/\Paired (cH K H3) ws2 y)->
        cO (jc (qd K) [] E0 (cO (cE (ip K) (ax 1) (tC (.int 2))) cK)) cK [some (.ref a),some (.ref d),none] H3 fun xs H4=>(v1::v2::xs).length<=sizeLine/\∀D2,H4 D2=none->eZ (pI (kO (cE (qT K) (tC .non) (ax 2))) (tC .non) (ax 2)) {nx:=fun _ H'=>Q .non H',rt:=Q} [some (.ref a),some (.ref d),some (.ref D2)] (upd H4 D2 (.lst (v1::v2::xs))):=fun v1 v2 o1 o2 b1 b2 H3 s3 hO hb hok=>by
       refine⟨_,rfl,d,_,_,_,rfl,rfl,aE.of (s3 _ _ hlst),ah (j:=2) rfl,_,p3,rfl,⟨_,rfl,aE.of (s3 _ _ h3)⟩,by omega,fun ls d3 zs H4 e4 s4 hd3 hz hzp=>?_,fun e4 H4 s4=>?_⟩
       ·refine last v1 v2 (.ref d3) o1 o2 _ b1 b2 false H4 (s3.trans s4) (fun H5 s5=>⟨(hO H5 (s4.trans s5)).1,(hO H5 (s4.trans s5)).2,Od.lks (s5 _ _ hz) (Paired.mono (fun _ _ q=>q.same s5) hzp)⟩) (fun e=>hb (by rw[kD] at e;exact e)) (fun e D2 H5 s5 hD2=>?_)
        rw[kD] at e
        obtain⟨x,y,d1,d2,ws1,ws2,e1,e2,rfl,rfl,g1,g2,g3,g4⟩:=hok e
        have s35:=s4.trans s5
        refine k1 x y ls D2 H5 (by rw[e1,e2,e4];rfl) ((s1.trans s3).trans s35) ⟨d1,d2,d3,ws1,ws2,zs,hD2,s35 _ _ g1,lT g2 s35,s35 _ _ g3,lT g4 s35,s5 _ _ hz,Paired.mono (fun _ _ q=>q.same s5) hzp⟩
       ·refine last v1 v2 .non o1 o2 _ b1 b2 true H4 (s3.trans s4) (fun H5 s5=>⟨(hO H5 (s4.trans s5)).1,(hO H5 (s4.trans s5)).2,Od.non⟩) (fun e=>?_) (fun e=>?_)
        ·rw[e4];cases c5 p1<;>cases c5 p2<;>rfl
        ·rw[oU,oU] at e;cases e
      have second:∀(v1:V) (o1:PyData) (b1:Bool) (H2:Hp),aA H1 H2->(∀H5,aA H2 H5->Od K H5 v1 o1 b1)->(b1=true->c5 p1=none)->
        (b1=false->∃x d1 ws1,c5 p1=some x/\v1=.ref d1/\H2 d1=some (.lst ws1)/\Paired (cH K H2) ws1 x)->
        cO (jc (wR K) [] E0 (cO (cE (ip K) (ax 1) (tC (.int 1))) cK)) (cO (jc (qd K) [] E0 (cO (cE (ip K) (ax 1) (tC (.int 2))) cK)) cK) [some (.ref a),some (.ref d),none] H2 fun xs H4=>(v1::xs).length<=sizeLine/\∀D2,H4 D2=none->eZ (pI (kO (cE (qT K) (tC .non) (ax 2))) (tC .non) (ax 2)) {nx:=fun _ H'=>Q .non H',rt:=Q} [some (.ref a),some (.ref d),some (.ref D2)] (upd H4 D2 (.lst (v1::xs))):=fun v1 o1 b1 H2 s2 hO hb hok=>by
       refine⟨_,rfl,d,_,_,_,rfl,rfl,aE.of (s2 _ _ hlst),ah (j:=1) rfl,_,p2,rfl,⟨_,rfl,aE.of (s2 _ _ h2)⟩,by omega,fun fs d2 ws H3 e3 s3 hd2 hz hzp=>?_,fun e3 H3 s3=>?_⟩
       ·have hzg:Paired (cH K H3) ws fs:=Paired.mono (fun _ _ q=>q.isG) hzp
        refine third v1 (.ref d2) o1 _ b1 false H3 (s2.trans s3) (fun H5 s5=>⟨hO H5 (s3.trans s5),Od.seq (s5 _ _ hz) (lT hzg s5)⟩) (fun e=>?_) (fun e=>?_)
        ·rw[kD] at e;rw[hb e];rfl
        ·rw[kD] at e
         obtain⟨x,d1,ws1,e1,rfl,g1,g2⟩:=hok e
         exact⟨x,fs,d1,d2,ws1,ws,e1,e3,rfl,rfl,s3 _ _ g1,lT g2 s3,hz,hzg⟩
       ·refine third v1 .non o1 _ b1 true H3 (s2.trans s3) (fun H5 s5=>⟨hO H5 (s3.trans s5),Od.non⟩) (fun e=>?_) (fun e=>?_)
        ·rw[e3];cases c5 p1<;>rfl
        ·rw[oU] at e;cases e
      refine⟨_,rfl,d,_,_,_,rfl,rfl,aE.of hlst,ah (j:=0) rfl,_,p1,rfl,⟨_,rfl,aE.of h1⟩,by omega,fun fs d1 ws H2 e2 s2 hd1 hz hzp=>?_,fun e2 H2 s2=>?_⟩
      ·have hzg:Paired (cH K H2) ws fs:=Paired.mono (fun _ _ q=>q.isG) hzp
       exact second (.ref d1) _ false H2 s2 (fun H5 s5=>Od.seq (s5 _ _ hz) (lT hzg s5)) (fun e=>by cases e) (fun _=>⟨fs,d1,ws,e2,rfl,hz,hzg⟩)
      ·exact second .non _ true H2 s2 (fun H5 s5=>Od.non) (fun _=>e2) (fun e=>by cases e)
end
open Vaneta (Formula dual leaves Name)
open MF (nl aM bP da bG)
open ML (row right lk fits nums)
def dn(K:aD)(H:Hp)(v:V)(fs:List Formula):Prop:=∃a ws,v=.ref a/\H a=some (.lst ws)/\Paired (cH K H) ws fs
theorem dn.same{K:aD}{H H':Hp}{v:V}{fs:List Formula}(h:dn K H v fs)(e:aA H H'):dn K H' v fs:=by
 obtain⟨a,ws,rfl,h1,h2⟩:=h
 exact⟨a,ws,rfl,e _ _ h1,lT h2 e⟩
def Gd(K:aD)(d:Addr)(H:Hp)(v:V)(A:Formula):Prop:=∃g,v=.ref g/\g≠d/\de K H g A/\(nl A).length<=10000
theorem Gd.same{K:aD}{d:Addr}{H H':Hp}{v:V}{A:Formula}(h:Gd K d H v A)(e:aA H H'):Gd K d H' v A:=by
 obtain⟨g,rfl,h1,h2,h3⟩:=h
 exact⟨g,rfl,h1,h2.same e,h3⟩
theorem Gd.upd{K:aD}{d:Addr}{H:Hp}{v:V}{A:Formula}{ys zs:List V}(h:Gd K d H v A)(hD:H d=some (.lst ys)):Gd K d (upd H d (.lst zs)) v A:=by
 obtain⟨g,rfl,h1,h2,h3⟩:=h
 exact⟨g,rfl,h1,h2.upd hD h1,h3⟩
theorem Gd.isG{K:aD}{d:Addr}{H:Hp}{v:V}{A:Formula}(h:Gd K d H v A):cH K H v A:=by
 obtain⟨g,rfl,h1,h2,h3⟩:=h
 exact⟨g,rfl,h2,h3⟩
theorem cH.gd{K:aD}{d:Addr}{H H':Hp}{v:V}{A:Formula}(h:cH K H v A)(hd:H d=none)(e:aA H H'):Gd K d H' v A:=by
 obtain⟨g,rfl,h2,h3⟩:=h
 obtain⟨_,vs,q,_⟩:=id h2
 exact⟨g,rfl,ae q hd,h2.same e,h3⟩
section
variable{P:Program}{w:World}{K:aD}{mg:Str->Option Value}{base:Heap}
def qe(K:aD):Sp:=fun vs H Q _=>∃v fs,vs=[v]/\dn K H v fs/\(aM fs).length<=bz/\∀b zs H',aA H H'->H b=none->H' b=some (.lst zs)->Paired (ai K H') zs (aM fs)->Q (.ref b) H'
theorem BU:aZ ["formulas","nodes","formula"] ["formulas"] (aQ uX):=fS
theorem JS(D:aO K mg "nodes_of" uX):aK P w K mg base "nodes_of" 1 ["formulas"] (qe K):=by
 refine D.cal BU (fun vs H Q E h=>?_) (fun fa cdv A outer s H vs Q E hr h=>?_)
 ·obtain⟨v,_,rfl,_⟩:=h
  rfl
 ·obtain⟨v,fs,rfl,⟨a,ws,rfl,ha,hp⟩,hl,k⟩:=h
  have nd:=BU.nd
  refine⟨_,aG (aT (i:=1) nd rfl (aJ rfl) (au aC))
   (aG (dy PassesOwn.never rfl (c6 (pv 0)) (bN (i:=2) nd rfl (aJ rfl))
    (aI (bV (cG bR xm xn uA (pv 1) (aB (pv 2) aC)))))
   (aI (aN (pv 1)))),?_⟩
  refine⟨bF _,fun d hd=>?_⟩
  refine⟨_,rfl,a,rfl,⟨_,aE.of ((aA.upd hd) _ _ ha)⟩,gY (K:=K) (a:=a) (xs:=ws) (fun i σ H'=>∃(x:Option V) (zs:List V),σ=[some (.ref a),some (.ref d),x]/\aA H H'/\H' d=some (.lst zs)/\Paired (ai K H') zs (aM (fs.take i)))
   ⟨none,[],rfl,aA.upd hd,aF,.nil⟩ (fun i σ H' _ ⟨_,_,_,s1,_⟩=>aE.of (s1 _ _ ha)) ?_ ?_⟩
  ·rintro i y σ H' hi ⟨x,zs,rfl,s1,hd1,hzp⟩
   obtain⟨A1,hA,g,rfl,⟨_,vs,hg,hvs⟩,_⟩:=bw hp hi
   have hzl:=hzp.length
   have hvl:=hvs.length
   have et:aM (fs.take (i+1))=aM (fs.take i)++nl A1:=by
    rw[take_snoc hA,MF.ou,MF.cD,MF.lC,d8]
   have hle:(aM (fs.take (i+1))).length<=(aM fs).length:=by
    conv=>rhs;rw[<-ly (i+1) fs,MF.ou,aS]
    omega
   rw[et,aS] at hle
   have hlim:bz=1000000:=rfl
   refine⟨_,rfl,.inl ⟨rfl,_,aE.of hd1⟩,_,rfl,d,g,_,_,rfl,rfl,hd1,s1 _ _ hg,by rw[sizeLine_eq];omega,?_⟩
   refine⟨_,zs++vs,rfl,aA.upd2 s1 hd,aF,?_⟩
   rw[et]
   exact iR (Paired.mono (fun _ _ q=>q.upd hd1) hzp) (Paired.mono (fun _ _ q=>(q.same s1).upd hd1) hvs)
  ·rintro σ H' ⟨x,zs,rfl,s1,hd1,hzp⟩
   rw[hp.length,cQ] at hzp
   exact⟨_,rfl,k d zs H' s1 hd hd1 hzp⟩
def wV(K:aD):Sp:=fun vs H Q _=>∃v u fs gs,vs=[v,u]/\dn K H v fs/\dn K H u gs/\fs.length+gs.length<=10000/\∀v' H',aA H H'->dn K H' v' (fs++gs.flatMap fun A=>[A,dual A])->Q v' H'
theorem BV:aZ ["conclusions","cuts","formulas","cut"] ["conclusions","cuts"] (aQ uY):=fS
theorem wW(gs:List Formula):(gs.flatMap fun A=>[A,dual A]).length=2*gs.length:=by
 induction gs with
 |nil=>rfl
 |cons A r ih=>simp only[kh,aS,ih,aV,jU];omega
theorem JT(D:aO K mg "all_formulas" uY)(T:cY K mg)(C1:aK P w K mg base "dual" 2 ["formula"] (nP K)):aK P w K mg base "all_formulas" 3 ["conclusions","cuts"] (wV K):=by
 refine D.cal BV (fun vs H Q E h=>?_) (fun fa cdv A outer s H vs Q E hr h=>?_)
 ·obtain⟨v,_,_,_,rfl,_⟩:=h
  rfl
 ·obtain⟨v,u,fs,gs,rfl,⟨a,ws,rfl,ha,hp⟩,⟨b,us,rfl,hb,hq⟩,hl,k⟩:=h
  have nd:=BV.nd
  refine⟨_,aG (aT (i:=2) nd rfl (aJ rfl) (gZ jf (by rfl) T.list boot_list (aB (pv 0) aC)))
   (aG (dy PassesOwn.never rfl (c6 (pv 1)) (bN (i:=3) nd rfl (aJ rfl))
    (aG (bV (cG bR cw cy c7 (pv 2) (aB (pv 3) aC)))
    (aI (bV (cG bR cw cy c7 (pv 2) (aB (pc C1 hr (aB (pv 3) aC)) aC))))))
   (aI (aN (pv 2)))),?_⟩
  refine⟨_,rfl,a,ws,rfl,.inl (aE.of ha),fun d hd=>?_⟩
  have hpl:=hp.length
  have hql:=hq.length
  refine⟨_,rfl,b,rfl,⟨_,aE.of ((aA.upd hd) _ _ hb)⟩,gY (K:=K) (a:=b) (xs:=us) (fun i σ H'=>∃(x:Option V) (zs:List V),σ=[some (.ref a),some (.ref b),some (.ref d),x]/\aA H H'/\H' d=some (.lst zs)/\Paired (Gd K d H') zs (fs++(gs.take i).flatMap fun A=>[A,dual A]))
   ⟨none,ws,rfl,aA.upd hd,aF,?_⟩ (fun i σ H' _ ⟨_,_,_,s1,_⟩=>aE.of (s1 _ _ hb)) ?_ ?_⟩
  ·rw[oG,M9,d8]
   exact Paired.mono (fun _ _ q=>q.gd hd (aA.upd hd)) hp
  ·rintro i y σ H' hi ⟨x,zs,rfl,s1,hd1,hzp⟩
   obtain⟨A1,hA,hG⟩:=bw hq hi
   have hil:i<us.length:=(bC.mp hi).1
   have hzl:=hzp.length
   rw[aS,wW,cM] at hzl
   have hsl:=sizeLine_eq
   refine⟨_,rfl,.inl ⟨rfl,_,aE.of hd1⟩,_,rfl,d,_,_,rfl,rfl,hd1,by omega,?_⟩
   have s2:aA H (upd H' d (.lst (zs++[y]))):=aA.upd2 s1 hd
   have hd2:(upd H' d (.lst (zs++[y]))) d=some (.lst (zs++[y])):=aF
   have hz2:Paired (Gd K d (upd H' d (.lst (zs++[y])))) (zs++[y]) ((fs++(gs.take i).flatMap fun A=>[A,dual A])++[A1]):=Paired.snoc (Paired.mono (fun _ _ q=>q.upd hd1) hzp) (hG.gd hd s2)
   generalize upd H' d (.lst (zs++[y]))=H2 at s2 hd2 hz2⊢
   obtain⟨g,rfl,hFA,hnl⟩:=id hG
   have hFA2:=hFA.same s2
   have hlim:bz=1000000:=rfl
   refine⟨_,rfl,.inl ⟨rfl,_,aE.of hd2⟩,_,rfl,.ref g,nl A1,rfl,hFA2.isNs,by omega,fun n hn=>bW (gh hFA.good n hn) (by decide),fun b' ws' H3 s3 hb' hbn pw=>?_⟩
   have hd3:=s3 _ _ hd2
   refine⟨d,_,_,rfl,rfl,hd3,by rw[aS];show zs.length+1<_;omega,?_⟩
   refine⟨_,zs++[.ref g]++[.ref b'],rfl,aA.upd2 (s2.trans s3) hd,aF,?_⟩
   have et:(gs.take (i+1)).flatMap (fun A=>[A,dual A])=(gs.take i).flatMap (fun A=>[A,dual A])++[A1,dual A1]:=by
    rw[take_snoc hA,ff];rfl
   rw[et,show fs++((gs.take i).flatMap (fun A=>[A,dual A])++[A1,dual A1])=((fs++(gs.take i).flatMap fun A=>[A,dual A])++[A1])++[dual A1] by simp]
   have hGd:Gd K d H3 (.ref b') (dual A1):=⟨b',rfl,(ae hd2 hbn).symm,⟨by rw[MP.eV];exact hFA.good,ws',hb',by rw[MF.i8 hFA.good];exact pw⟩,by rw[MS.mW hFA.good];exact hnl⟩
   exact Paired.snoc (Paired.mono (fun _ _ q=>(q.same s3).upd hd3) hz2) (hGd.upd hd3)
  ·rintro σ H' ⟨x,zs,rfl,s1,hd1,hzp⟩
   rw[hql,cQ] at hzp
   exact⟨_,rfl,k _ H' s1 ⟨d,zs,rfl,hd1,Paired.mono (fun _ _ q=>q.isG) hzp⟩⟩
def qf(K:aD):Sp:=fun vs H Q _=>∃v fs,vs=[v]/\dn K H v fs/\fs.all good=true/\(aM fs).length<=bz/\∀b zs H',aA H H'->H b=none->H' b=some (.lst zs)->Paired (ai K H') zs ((fs.flatMap leaves).map bG)->Q (.ref b) H'
theorem JU:aZ ["formulas"] ["formulas"] (aQ uZ):=fS
theorem JV(D:aO K mg "leaves_of" uZ)(C1:aK P w K mg base "atoms" 2 ["formula"] (nQ K))(C2:aK P w K mg base "nodes_of" 1 ["formulas"] (qe K)):aK P w K mg base "leaves_of" 3 ["formulas"] (qf K):=by
 refine D.cal JU (fun vs H Q E h=>?_) (fun fa cdv A outer s H vs Q E hr h=>?_)
 ·obtain⟨v,_,rfl,_⟩:=h
  rfl
 ·obtain⟨v,fs,rfl,hv,hg,hl,k⟩:=h
  refine⟨_,aI (aN (pc C1 hr (aB (pc C2 (hr.mono (by decide)) (aB (pv 0) aC)) aC))),?_⟩
  refine⟨_,rfl,v,fs,rfl,hv,hl,fun b zs H1 s1 hb hb1 hzp=>?_⟩
  refine⟨.ref b,aM fs,rfl,⟨b,zs,rfl,aE.of hb1,hzp⟩,hl,fun b2 zs2 H2 s2 hb2 hb2n hz2=>?_⟩
  rw[MF.sS hg] at hz2
  exact k b2 zs2 H2 (s1.trans s2) (s1.free hb2n) hb2 hz2
end
open Vaneta (Formula dual leaves Name isName)
open Vanetc (fitting partnersOf)
theorem JW{a b:Bool×Name}(ha:isName a.2=true)(hb:isName b.2=true):decide (bG a=da (bG b))=fitting a b:=by
 obtain⟨t,n⟩:=a
 obtain⟨u,m⟩:=b
 rw[MF.yG hb]
 unfold fitting
 rw[ck,decide_eq_true_iff,ag,beq_iff_eq,bne_iff_ne]
 constructor
 ·intro e
  have:=MF.sR (x:=(t,n)) (y:=(!u,m)) ha hb e
  injection this with e1 e2
  exact⟨e2,by rw[e1];show(!u)≠u;cases u<;>decide⟩
 ·rintro⟨e1,e2⟩
  have e1:n=m:=e1
  have e2:t≠u:=e2
  rw[e1]
  cases t<;>cases u<;>first|rfl|exact absurd rfl e2
section
variable{P:Program}{w:World}{K:aD}{mg:Str->Option Value}{base:Heap}
def BW(K:aD):Sp:=fun vs H Q _=>∃a b zs ys ls L,vs=[.ref a,.ref b]/\H a=some (.lst zs)/\Paired (bj K H) zs ls/\H b=some (.lst ys)/\Paired (ai K H) ys (L.map bG)/\(∀x∈L,isName x.2=true)/\L.length<=10000/\(∀x∈ls,x.1<x.2)/\
 (right L ls=true->∀c H',aA H H'->H' c=some (.lst ((partnersOf L.length ls).map fun n=>V.int (n:Nat)))->Q (.ref c) H')/\(right L ls=false->∀H',aA H H'->Q .non H')
theorem BX:aZ ["links","leaves","partners","leaf","lesser","greater"] ["links","leaves"] (aQ qG):=fS
theorem BY(o:Option Nat):decide (oi o=V.non)=decide (o=none):=by
 cases o with
 |none=>rfl
 |some n=>exact(decide_eq_false (by intro e;cases e)).trans (decide_eq_false (by intro e;cases e)).symm
theorem JX(D:aO K mg "partners_by" qG)(hlen:mg "len"=none)(C1:aK P w K mg base "dual_node" 1 ["node"] (vq K)):aK P w K mg base "partners_by" 2 ["links","leaves"] (BW K):=by
 refine D.cal BX (fun vs H Q E h=>?_) (fun fa cdv A outer s H vs Q E hr h=>?_)
 ·obtain⟨_,_,_,_,_,_,rfl,_⟩:=h
  rfl
 ·obtain⟨a,b,zs,ys,ls,L,rfl,ha,hzp,hb,hyp,hnm,hLl,hlt,k1,k2⟩:=h
  have nd:=BX.nd
  have hu:=hr.units
  refine⟨_,aG (uL (i:=2) (own:=[("leaf",3)]) rfl nd rfl rfl (uM rfl rfl rfl rfl) (c6 (pv 1)) (dc (N:=["links","leaves","partners","leaf","lesser","greater"]) (sc:=aQ qG) (by decide+kernel)) (fun _ _ _ _ _=>bN (i:=3) nd rfl (aJ rfl)) (fun _ _ _ _ _=>eR) (fun _ _ _ _ _=>bu))
   (aG (dy PassesOwn.never rfl (c6 (pv 0)) (jJ rfl (dv (bN (i:=4) nd rfl (aJ rfl)) (dv (bN (i:=5) nd rfl (aJ rfl)) jI)))
    (aG (aj (ao pQ (pv 5) (bD bI (by rfl) hlen bM (aB (pv 1) aC)) (ak _)) (aI (aN bu)) ay)
    (aG (aj (iF (ao t5 (aa az (pv 2) (pv 4) (fun _ _=>rfl)) bu (ak _)) (ie (ao t5 (aa az (pv 2) (pv 5) (fun _ _=>rfl)) bu (ak _)))).pt (aI (aN bu)) ay)
    (aG (aj (ao (ji hu) (aa az (pv 1) (pv 4) (fun _ _=>rfl)) (pc C1 hr (aB (aa az (pv 1) (pv 5) (fun _ _=>rfl)) aC)) (ak _)) (aI (aN bu)) ay)
    (aG (jL (pv 5) (jK (pv 2) (pv 4) set_list))
    (aI (jL (pv 4) (jK (pv 2) (pv 5) set_list))))))))
   (aI (aN (iG (ao mw bu (pv 2) rfl) bu (pv 2))))),?_⟩
  have hyl:=hyp.length
  rw[aL] at hyl
  have hzl:=hzp.length
  refine⟨_,rfl,b,rfl,⟨_,aE.of hb⟩,fun c hc=>?_⟩
  refine fT (K:=K) (a:=b) (xs:=ys) (fun i H'=>aA H H'/\H' c=some (.lst (gy i V.non))) ?_ ?_ ?_ ?_
  ·exact⟨aA.upd hc,aF⟩
  ·rintro i H' _ ⟨s1,_⟩
   exact aA.seq s1 (aE.of hb)
  ·rintro i x H' hx ⟨s1,hz⟩
   have hil:i<ys.length:=(bC.mp hx).1
   refine⟨rfl,_,hz,?_,aA.upd2 s1 hc,?_⟩
   ·rw[oR,sizeLine_eq];omega
   ·rw[aF,ED]
  ·rintro H1 ⟨s1,hz⟩
   have e0:gy ys.length V.non=(row L.length []).map oi:=by
    have:row L.length []=gy L.length none:=by
     refine rV fun i=>?_
     by_cases hi:i<L.length
     ·rw[ML.mX hi,MV,if_pos hi];rfl
     ·rw[iW (by rw[ML.lF];omega),iW (by rw[oR];omega)]
    rw[this,EE,hyl];rfl
   rw[e0] at hz
   refine⟨_,rfl,a,rfl,⟨_,aE.of (s1 _ _ ha)⟩,gY (K:=K) (a:=a) (xs:=zs) (fun i σ H'=>∃x1 x2:Option V,σ=[some (.ref a),some (.ref b),some (.ref c),none,x1,x2]/\aA H H'/\H' c=some (.lst ((row L.length (ls.take i)).map oi))/\(∀j∈nums (ls.take i),j<L.length)/\(nums (ls.take i)).Nodup/\∀x∈ls.take i,fits L x=true)
    ⟨none,none,rfl,s1,hz,by simp[nums],by simp[nums],by simp⟩ (fun i σ H' _ ⟨_,_,_,s2,_⟩=>aE.of (s2 _ _ ha)) ?_ ?_⟩
   ·rintro i y σ H' hi ⟨x1,x2,rfl,s2,hcr,q1,q2,q3⟩
    obtain⟨x,hx,va,rfl,hva⟩:=bw hzp hi
    have hxm:=cv hx
    have hx12:=hlt x hxm
    have els:ls=ls.take i++x::ls.drop (i+1):=by
     have hlt2:i<ls.length:=(bC.mp hx).1
     conv=>lhs;rw[<-ly i ls,fg hlt2,(bC.mp hx).2]
    have bad:(L.length<=x.2\/lk (ls.take i) x.1≠none\/lk (ls.take i) x.2≠none)->Q .non H':=fun hbad=>by
     refine k2 ?_ H' s2
     unfold right
     have:Vanetc.oncePairs L.length ls=false:=by rw[els];exact ML.FP hbad
     rw[this];rfl
    refine⟨va,_,rfl,aA.tup s2 hva,rfl,_,_,rfl,_,_,rfl,rfl,?_⟩
    have hb2:=s2 _ _ hb
    refine⟨_,rfl,_,rfl,b,_,rfl,.inl (aE.of hb2),_,_,rfl,rfl,_,rfl,?_⟩
    rw[hyl]
    refine aU (fun e=>?_) (fun e=>?_)
    ·have e:=of_decide_eq_true e
     exact bad (.inl (by omega))
    have e:¬((L.length:Int)<=(x.2:Int)):=fun z=>e (decide_eq_true z)
    have hx2:x.2<L.length:=by omega
    have hx1:x.1<L.length:=by omega
    have g1:((row L.length (ls.take i)).map oi)[x.1]? =some (oi (lk (ls.take i) x.1)):=by rw[bo,ML.mX hx1];rfl
    have g2:((row L.length (ls.take i)).map oi)[x.2]? =some (oi (lk (ls.take i) x.2)):=by rw[bo,ML.mX hx2];rfl
    refine⟨_,rfl,_,rfl,c,_,_,_,rfl,rfl,aE.of hcr,ah g1,rfl,_,rfl,?_⟩
    rw[BY]
    refine aU (fun e1=>?_) (fun e1=>?_)
    ·exact bad (.inr (.inl (by simpa using e1)))
    have e1:lk (ls.take i) x.1=none:=by simpa using e1
    refine⟨_,rfl,_,rfl,c,_,_,_,rfl,rfl,aE.of hcr,ah g2,rfl,_,rfl,?_⟩
    rw[BY]
    refine aU (fun e2=>?_) (fun e2=>?_)
    ·exact bad (.inr (.inr (by simpa using e2)))
    have e2:lk (ls.take i) x.2=none:=by simpa using e2
    have hy1:ys[x.1]? =some ys[x.1]:=bU (by omega)
    have hy2:ys[x.2]? =some ys[x.2]:=bU (by omega)
    have l1:L[x.1]? =some L[x.1]:=bU hx1
    have l2:L[x.2]? =some L[x.2]:=bU hx2
    have i1:ai K H ys[x.1] (bG L[x.1]):=by
     obtain⟨n,hn,hN⟩:=bw hyp hy1
     rw[bo,l1] at hn
     rw[bL hn];exact hN
    have i2:ai K H ys[x.2] (bG L[x.2]):=by
     obtain⟨n,hn,hN⟩:=bw hyp hy2
     rw[bo,l2] at hn
     rw[bL hn];exact hN
    have m1:=hnm _ (cv l1)
    have m2:=hnm _ (cv l2)
    refine⟨_,rfl,_,rfl,b,_,_,_,rfl,rfl,aE.of hb2,ah hy1,_,rfl,_,rfl,b,_,_,_,rfl,rfl,aE.of hb2,ah hy2,_,_,rfl,i2.same s2,bW (Ae m2) (by decide),fun v' H3 s3 hv'=>kX ((i1.same s2).same s3) hv' ⟨_,rfl,?_⟩⟩
    have efit:fits L x=fitting L[x.1] L[x.2]:=by unfold fits;rw[l1,l2]
    rw[JW m1 m2,<-efit]
    refine aU (fun e3=>?_) (fun e3=>?_)
    ·have e3:fits L x=false:=by simpa using e3
     exact k2 (ML.FQ hxm e3) H3 (s2.trans s3)
    ·have e3:fits L x=true:=by simpa using e3
     have hc3:=s3 _ _ hcr
     have j1:fK ((row L.length (ls.take i)).map oi).length (x.1:Nat)=some x.1:=by
      unfold fK;rw[aL,ML.lF,if_pos (by omega),if_pos (by omega)];simp
     refine⟨_,rfl,_,rfl,_,rfl,c,_,_,x.1,rfl,rfl,hc3,j1,?_⟩
     have j2:fK (((row L.length (ls.take i)).map oi).set x.1 (V.int (x.2:Nat))).length (x.2:Nat)=some x.2:=by
      unfold fK;rw[cP,aL,ML.lF,if_pos (by omega),if_pos (by omega)];simp
     refine⟨_,rfl,_,rfl,_,rfl,c,_,_,x.2,rfl,rfl,aF,j2,?_⟩
     rw[eX]
     obtain⟨n1,n2⟩:=ML.more hx12 q1 q2 hx2 e1 e2
     rw[<-take_snoc hx] at n1 n2
     refine⟨_,_,rfl,aA.upd2 (s2.trans s3) hc,aF.trans ?_,n1,n2,fun z hz'=>?_⟩
     ·rw[take_snoc hx,ML.FN hx12 e1 e2,EF,EF];rfl
     ·rw[take_snoc hx] at hz'
      rcases dD.mp hz' with hz'|hz'
      ·exact q3 z hz'
      ·rw[gO.mp hz'];exact e3
   ·rintro σ H' ⟨x1,x2,rfl,s2,hcr,q1,q2,q3⟩
    rw[hzl,cQ] at hcr q1 q2 q3
    refine⟨_,rfl,c,_,rfl,.inl (aE.of hcr),rfl,BH _,_,rfl,?_⟩
    rw[show(if false=true then !fL V.non ((row L.length ls).map oi) else fL V.non ((row L.length ls).map oi))=decide (none∈row L.length ls) from wU _]
    have er:=ML.FR q1 q2 q3
    refine aU (fun e=>?_) (fun e=>?_)
    ·have e:=of_decide_eq_true e
     exact k2 (by rw[er];exact decide_eq_false (fun z=>z e)) H' s2
    ·have e:none∉row L.length ls:=fun z=>e (decide_eq_true z)
     refine⟨_,rfl,k1 (by rw[er];exact decide_eq_true e) c H' s2 ?_⟩
     rw[hcr,ML.FS e,jB];rfl
end
open Vaneta (Formula dual leaves Name isName form sequentForm)
open Vanetc (Net decimal spaced linksText formOf)
def df(n:List UInt8):List (List UInt8)->List UInt8
 |[]=>[]
 |[t]=>t
 |t::r=>t++(n++df n r)
theorem BZ(n t:List UInt8):∀l:List (List UInt8),df n (l++[t])=if l=[] then t else df n l++(n++t)
 |[]=>rfl
 |[u]=>rfl
 |u::v::r=>by
  have ih:=BZ n t (v::r)
  rw[if_neg (by simp)] at ih
  rw[if_neg (by simp)]
  show u++(n++df n (v::r++[t]))=(u++(n++df n (v::r)))++(n++t)
  rw[ih];simp
theorem wX(n:List UInt8):∀l:List (List UInt8),(df n l).length<=(l.map fun t=>t.length+n.length).sum
 |[]=>aY _
 |[t]=>by simp[df]
 |t::u::r=>by
  have ih:=wX n (u::r)
  rw[bg,ki]
  show(t++(n++df n (u::r))).length<=_
  rw[aS,aS]
  omega
def JY(H:Hp)(v:V)(t:List UInt8):Prop:=∃b,v=.ref b/\H b=some (.lst (t.map vb))
theorem qg:∀{ts:List (List UInt8)} {m:Nat},(∀t∈ts,t.length<=m)->∀n,(ts.map fun t=>t.length+n).sum<=ts.length*(m+n)
 |[],_,_,_=>bF _
 |t::ts,m,h,n=>by
  rw[bg,ki,aV,Nat.succ_mul]
  have h1:=h t bY
  have h2:=qg (ts:=ts) (m:=m) (fun u hu=>h u (ba _ hu)) n
  omega
section
variable{P:Program}{w:World}{K:aD}{mg:Str->Option Value}{base:Heap}
def wY(K:aD):Sp:=fun vs H Q _=>∃a ws ts v n,vs=[.ref a,v]/\H a=some (.lst ws)/\Paired (JY H) ws ts/\ai K H v n/\(ts.map fun t=>t.length+n.length).sum<=10000000/\∀b H',aA H H'->H b=none->H' b=some (.lst ((df n ts).map vb))->Q (.ref b) H'
theorem B2:aZ ["texts","between","whole","place","text"] ["texts","between"] (aQ u9):=fS
theorem B3(f:List UInt8->Nat):∀(ts:List (List UInt8)) (i:Nat),((ts.take i).map f).sum<=(ts.map f).sum
 |[],_=>by simp
 |t::ts,0=>by simp
 |t::ts,i+1=>by
  rw[oJ,bg,bg,ki,ki]
  have:=B3 f ts i
  omega
theorem JZ(D:aO K mg "joined_texts" u9)(hen:mg "enumerate"=none):aK P w K mg base "joined_texts" 1 ["texts","between"] (wY K):=by
 refine D.cal B2 (fun vs H Q E h=>?_) (fun fa cdv A outer s H vs Q E hr h=>?_)
 ·obtain⟨_,_,_,_,_,rfl,_⟩:=h
  rfl
 ·obtain⟨a,ws,ts,v,n,rfl,ha,hp,⟨q,rfl,hq⟩,hsz,k⟩:=h
  have nd:=B2.nd
  refine⟨_,aG (aT (i:=2) nd rfl (aJ rfl) (au aC))
   (aG (dy PassesOwn.never rfl (p9 rfl hen (aB (pv 0) aC)) (jJ rfl (dv (bN (i:=3) nd rfl (aJ rfl)) (dv (bN (i:=4) nd rfl (aJ rfl)) jI)))
    (aG (aj (ao ik (pv 3) aR (ak _)) (aI (bV (cG bR xm xn Hm (pv 2) (aB (pv 1) aC)))) ay)
    (aI (bV (cG bR xm xn uA (pv 2) (aB (pv 4) aC))))))
   (aI (aN (pv 2)))),?_⟩
  refine⟨bF _,fun d hd=>?_⟩
  refine⟨_,rfl,a,ws,rfl,aE.of ((aA.upd hd) _ _ ha),AU (K:=K) (a:=a) (xs:=ws) (fun i σ H'=>∃x1 x2:Option V,σ=[some (.ref a),some (.ref q),some (.ref d),x1,x2]/\aA H H'/\H' d=some (.lst ((df n (ts.take i)).map vb)))
   ⟨none,none,rfl,aA.upd hd,aF⟩ (fun i σ H' _ ⟨_,_,_,s1,_⟩=>aE.of (s1 _ _ ha)) ?_ ?_⟩
  ·rintro i y Tt σ H' hi hT ⟨x1,x2,rfl,s1,hd1⟩
   obtain⟨t,ht,b,rfl,hb⟩:=bw hp hi
   have s2:aA H (upd H' Tt (.tup [.int (i:Nat),.ref b])):=s1.trans (aA.upd hT)
   have hd2:=(aA.upd (o:=.tup [.int (i:Nat),.ref b]) hT) _ _ hd1
   refine⟨Tt,_,rfl,aW.of aF,rfl,_,_,rfl,_,_,rfl,rfl,?_⟩
   generalize upd H' Tt (.tup [.int (i:Nat),.ref b])=H2 at s2 hd2⊢
   have l1:=wX n (ts.take i)
   have l2:=B3 (fun t=>t.length+n.length) ts (i+1)
   rw[take_snoc ht,bO,EG] at l2
   have l2:((ts.take i).map fun t=>t.length+n.length).sum+(t.length+n.length)<=(ts.map fun t=>t.length+n.length).sum:=by simpa using l2
   have hsl:=sizeLine_eq
   have es:=BZ n t (ts.take i)
   rw[<-take_snoc ht] at es
   have fin:∀(u:List UInt8) (H3:Hp),aA H H3->H3 d=some (.lst (u.map vb))->u.length<=(df n (ts.take i)).length+n.length->u++t=df n (ts.take (i+1))->jH (jg K "list" zg (ax 2) (cO (ax 4) cK)) {nx:=fun σ H'=>∃x1 x2:Option V,σ=[some (.ref a),some (.ref q),some (.ref d),x1,x2]/\aA H H'/\H' d=some (.lst ((df n (ts.take (i+1))).map vb)),rt:=Q} [some (.ref a),some (.ref q),some (.ref d),some (.int (i:Nat)),some (.ref b)] H3:=fun u H3 s3 hd3 hu eu=>by
    refine⟨_,rfl,.inl ⟨rfl,_,aE.of hd3⟩,_,rfl,d,b,_,_,rfl,rfl,hd3,s3 _ _ hb,?_,?_⟩
    ·rw[aL,aL];omega
    ·refine⟨_,_,rfl,aA.upd2 s3 hd,aF.trans ?_⟩
     rw[<-eu,bO]
   refine⟨_,rfl,_,_,rfl,rfl,_,rfl,?_⟩
   refine aU (fun e=>?_) (fun e=>?_)
   ·have e:=of_decide_eq_true e
    refine⟨_,rfl,.inl ⟨rfl,_,aE.of hd2⟩,_,rfl,d,q,_,_,rfl,rfl,hd2,aA.tup s2 hq,?_,?_⟩
    ·rw[aL,aL];omega
    ·refine fin (df n (ts.take i)++n) _ (aA.upd2 s2 hd) (aF.trans (by rw[bO])) (by rw[aS];exact aY _) ?_
     rw[es,if_neg,dh]
     intro z
     have hil:i<ts.length:=(bC.mp ht).1
     have:=congrArg rR z
     rw[cM] at this
     have:min i ts.length=0:=this
     omega
   ·have e:¬((0:Int)<(i:Int)):=fun z=>e (decide_eq_true z)
    have ei:i=0:=by omega
    subst ei
    exact fin [] H2 s2 hd2 (bF _) (by rw[es,if_pos (by rfl)];rfl)
  ·rintro σ H' ⟨x1,x2,rfl,s1,hd1⟩
   rw[hp.length,cQ] at hd1
   exact⟨_,rfl,k d H' s1 hd hd1⟩
end
theorem wZ:∀n:Nat,n<120->((toString (n:Int):Str).cps.toList=(decimal n).map fun b=>b.toNat):=by decide+kernel
theorem qi:∀fs:List Formula,sequentForm fs=df [44,32] (fs.map form)
 |[]=>rfl
 |[A]=>rfl
 |A::B::r=>by
  have ih:=qi (B::r)
  show form A++44::32::sequentForm (B::r)=form A++([44,32]++df [44,32] (form B::r.map form))
  rw[ih];rfl
theorem B4:∀ts:List (List UInt8),spaced ts=df [32] ts
 |[]=>rfl
 |[A]=>rfl
 |A::B::r=>by
  have ih:=B4 (B::r)
  show A++32::spaced (B::r)=A++([32]++df [32] (B::r))
  rw[ih];rfl
def lks(to:List Nat):List (Nat×Nat):=((bJ to.length).zip to).filterMap fun x=>if x.1<x.2 then some x else none
theorem J0(l:List Nat)(x:Nat):lks (l++[x])=lks l++(if l.length<x then[(l.length,x)] else[]):=by
 unfold lks
 rw[aS,show l.length+[x].length=l.length+1 from rfl,List.range_succ,xT (by rw[cS]),xo]
 congr 1
 show List.filterMap (fun x:Nat×Nat=>if x.1<x.2 then some x else none) [(l.length,x)]=_
 rw[oM,List.filterMap_nil]
 dsimp only
 by_cases h:l.length<x
 ·rw[if_pos h,if_pos h]
 ·rw[if_neg h,if_neg h]
theorem w6(to:List Nat):linksText to=df [32] ((lks to).map fun x=>decimal x.1++45::decimal x.2):=by
 unfold linksText lks
 rw[B4,Ma]
 congr 2
 funext x
 split<;>rfl
theorem w8{to:List Nat}{n:Nat}(h:∀j∈to,j<n):∀x∈lks to,x.1<x.2/\x.2<n:=fun x hx=>by
 unfold lks at hx
 obtain⟨y,hy,e⟩:=rX.mp hx
 split at e
 ·rename_i q
  cases e
  exact⟨q,h _ (oO hy).2⟩
 ·cases e
theorem lU(to:List Nat):(lks to).length<=to.length:=by
 unfold lks
 refine bW (Mb _ _) ?_
 rw[rb];omega
structure kZ (K:aD) (mg:Str->Option Value):Prop where
 bf:fY K mg "BETWEEN_FORMULAS" [44,32]
 bp:fY K mg "BETWEEN_PIECES" [32,59,32]
 bl:fY K mg "BETWEEN_LINKS" [32]
 en:mg "enumerate"=none
 str:mg "str"=none
 ord:mg "ord"=none
section
variable{P:Program}{w:World}{K:aD}{mg:Str->Option Value}{base:Heap}{C:Addr}
def B5(K:aD):Sp:=fun vs H Q _=>∃v fs,vs=[v]/\dn K H v fs/\fs.length<=100/\(∀A∈fs,(nl A).length<=200)/\∀b H',aA H H'->H b=none->H' b=some (.lst ((sequentForm fs).map vb))->Q (.ref b) H'
theorem B6:aZ ["sequent","formula"] ["sequent"] (aQ qI):=fS
theorem J1(D:aO K mg "written_sequent" qI)(T3:kZ K mg)(C1:aK P w K mg base "written" 3 ["formula"] (A5 K))(C2:aK P w K mg base "joined_texts" 1 ["texts","between"] (wY K)):
  aK P w K mg base "written_sequent" 4 ["sequent"] (B5 K):=by
 refine D.cal B6 (fun vs H Q E h=>?_) (fun fa cdv A outer s H vs Q E hr h=>?_)
 ·obtain⟨_,_,rfl,_⟩:=h
  rfl
 ·obtain⟨v,fs,rfl,⟨a,ws,rfl,ha,hp⟩,hfl,hnl,k⟩:=h
  have nd:=B6.nd
  have hr1:=hr.mono (show 1<=3 by decide)
  refine⟨_,aI (aN (pc C2 hr1 (aB (eS (own:=[("formula",1)]) rfl nd (c6 (pv 0)) (dc (N:=["sequent","formula"]) (sc:=aQ qI) (by decide+kernel)) (fun _ _ _ _ _=>bN (i:=1) nd rfl (aJ rfl)) (fun _ _ _ _ _=>eR) (fun _ _ _ _ _=>pc C1 hr (aB (pv 1) aC))) (aB (bT T3.bf) aC)))),?_⟩
  refine⟨_,rfl,a,rfl,⟨_,aE.of ha⟩,fun D1 hD1=>?_⟩
  have hpl:=hp.length
  refine fT (K:=K) (a:=a) (xs:=ws) (fun i H'=>aA H H'/\∃zs,H' D1=some (.lst zs)/\Paired (fun v t=>∃b,v=.ref b/\b≠D1/\H' b=some (.lst (t.map vb))) zs ((fs.take i).map form)) ?_ ?_ ?_ ?_
  ·exact⟨aA.upd hD1,[],aF,.nil⟩
  ·rintro i H' _ ⟨s1,_⟩
   exact aE.of (s1 _ _ ha)
  ·rintro i x H' hx ⟨s1,zs,hz,hzp⟩
   obtain⟨A1,hA,hG⟩:=bw hp hx
   have hil:i<fs.length:=(bC.mp hA).1
   have hzl:=hzp.length
   rw[aL,cM] at hzl
   refine⟨rfl,_,rfl,x,A1,rfl,(hG.same s1).isF,fun b H2 s2 hb hbn=>⟨zs,s2 _ _ hz,by rw[sizeLine_eq];omega,aA.upd2 (s1.trans s2) hD1,_,aF,?_⟩⟩
   have hbD:b≠D1:=(ae hz hbn).symm
   rw[take_snoc hA,bO]
   refine Paired.snoc (Paired.mono (fun v t q=>?_) hzp) ⟨b,rfl,hbD,by rw[aP hbD];exact hb⟩
   obtain⟨c,rfl,q1,q2⟩:=q
   exact⟨c,rfl,q1,by rw[aP q1];exact s2 _ _ q2⟩
  ·rintro H1 ⟨s1,zs,hz,hzp⟩
   rw[hpl,cQ] at hzp
   have hfm:∀t∈fs.map form,t.length<=21000:=fun t ht=>by
    obtain⟨A1,hA1,rfl⟩:=cT.mp ht
    obtain⟨i,hi,e⟩:=rO hA1
    have hwi:ws[i]? =some ws[i]:=bU (by omega)
    obtain⟨B,hB,g,_,hF,_⟩:=bw hp hwi
    have eB:B=A1:=by
     rw[bU hi,e] at hB
     exact(bL hB).symm
    rw[eB] at hF
    have:=MF.jZ hF.good fun n hn=>bW (gh hF.good n hn) (by decide)
    have h2:=hnl A1 hA1
    omega
   intro v2 hv2
   refine⟨D1,zs,fs.map form,v2,[44,32],rfl,hz,Paired.mono (fun v t q=>?_) hzp,hv2 H1,?_,fun b H2 s2 hb hb2=>k b H2 (s1.trans s2) (s1.free hb) (by rw[qi];exact hb2)⟩
   ·obtain⟨c,rfl,_,q2⟩:=q
    exact⟨c,rfl,q2⟩
   ·have:=qg hfm 2
    rw[aL] at this
    refine bW this ?_
    have:fs.length*(21000+2)<=100*21002:=kq hfl (aY _)
    omega
def B7(K:aD):Sp:=fun vs H Q _=>∃v x,vs=[v]/\bj K H v x/\x.1<120/\x.2<120/\∀b H',aA H H'->H b=none->H' b=some (.lst ((decimal x.1++45::decimal x.2).map vb))->Q (.ref b) H'
theorem B8:aZ ["link","sign"] ["link"] (aQ qJ):=fS
theorem k0:∀n:Nat,n<120->(decimal n).length<=3:=by decide+kernel
theorem B9:∀n:Nat,n<120->((n:Int).natAbs.log2<1920):=by decide+kernel
theorem str_len(n:Nat)(h:n<120):(toString (n:Int):Str).length<=3:=by
 have e:=congrArg rR (wZ n h)
 rw[aL] at e
 show(toString (n:Int):Str).cps.size<=3
 rw[<-oN,e]
 exact k0 n h
theorem J2(D:aO K mg "written_link" qJ)(T3:kZ K mg):aK P w K mg base "written_link" 1 ["link"] (B7 K):=by
 refine D.cal B8 (fun vs H Q E h=>?_) (fun fa cdv A outer s H vs Q E hr h=>?_)
 ·obtain⟨_,_,rfl,_⟩:=h
  rfl
 ·obtain⟨v,x,rfl,⟨a,rfl,ha⟩,hx1,hx2,k⟩:=h
  have nd:=B8.nd
  refine⟨_,aI (aN (eS (own:=[("sign",1)]) rfl nd (zz (bH zI (bH zI (gZ zJ (by rfl) T3.str Mc (aB (aa cX (pv 0) aR (fun _ _=>rfl)) aC)) F9) (gZ zJ (by rfl) T3.str Mc (aB (aa cX (pv 0) aR (fun _ _=>rfl)) aC))))
   (dc (N:=["link","sign"]) (sc:=aQ qJ) (by decide+kernel)) (fun _ _ _ _ _=>bN (i:=1) nd rfl (aJ rfl)) (fun _ _ _ _ _=>eR) (fun _ _ _ _ _=>bD zK (by rfl) T3.ord Md (aB (pv 1) aC)))),?_⟩
  have l1:=str_len x.1 hx1
  have l2:=str_len x.2 hx2
  have hsl:=sizeLine_eq
  refine⟨_,rfl,a,_,_,_,rfl,rfl,ha,ah (j:=0) rfl,_,rfl,B9 _ hx1,_,_,rfl,rfl,?_,_,rfl,a,_,_,_,rfl,rfl,ha,ah (j:=1) rfl,_,rfl,B9 _ hx2,_,_,rfl,rfl,?_,_,rfl,fun D1 hD1=>?_⟩
  ·show(toString (x.1:Int):Str).length+1<=sizeLine;omega
  ·rw[PySem.Str.length_append];show(toString (x.1:Int):Str).length+1+(toString (x.2:Int):Str).length<=sizeLine;omega
  have ecps:((toString (x.1:Int):Str)++("-":Str)++(toString (x.2:Int):Str)).cps.toList=(decimal x.1++45::decimal x.2).map fun b=>b.toNat:=by
   rw[Me,Me,Mf,Mf,wZ x.1 hx1,wZ x.2 hx2,bO,bg,dh]
   rfl
  have hlen:(decimal x.1++45::decimal x.2).length<=7:=by
   rw[aS,aV]
   have:=k0 x.1 hx1
   have:=k0 x.2 hx2
   omega
  generalize hg:((toString (x.1:Int):Str)++("-":Str)++(toString (x.2:Int):Str))=z at ecps
  generalize hT:decimal x.1++45::decimal x.2=T at ecps hlen k
  refine AW (x:=z) (fun i H'=>aA H H'/\H' D1=some (.lst ((T.take i).map vb))) ?_ ?_ ?_
  ·exact⟨aA.upd hD1,aF⟩
  ·rintro i c H' hc ⟨s1,hz⟩
   have hc':z.cps.toList[i]? =some c:=by rw[Ds];exact hc
   rw[ecps,bo] at hc'
   obtain⟨b,hb,rfl⟩:∃b,T[i]? =some b/\b.toNat=c:=by
    cases q:T[i]? with
    |none=>rw[q] at hc';cases hc'
    |some b=>rw[q] at hc';exact⟨b,rfl,bL hc'⟩
   refine⟨rfl,_,rfl,_,rfl,rfl,_,hz,?_,aA.upd2 s1 hD1,?_⟩
   ·rw[aL,cM];omega
   ·rw[aF,take_snoc hb,bO];rfl
  ·rintro H1 ⟨s1,hz⟩
   have:z.cps.size=T.length:=by
    rw[<-oN,ecps,aL]
   rw[this,cQ] at hz
   exact k D1 H1 s1 hD1 hz
end
open Vanetc (Net decimal spaced linksText formOf formulas)
structure SC (K:aD) (C:Addr):Prop where
 cl:eP K C
 n1:dk K C "conclusions"
 n2:dk K C "cuts"
 n3:dk K C "partners"
def sf(x y z:V):List (Str×V):=[("conclusions",x),("cuts",y),("partners",z)]
theorem eF(x y z:V):(sf x y z).lookup ("conclusions":Str)=some x:=rfl
theorem iS(x y z:V):(sf x y z).lookup ("cuts":Str)=some y:=rfl
theorem gk(x y z:V):(sf x y z).lookup ("partners":Str)=some z:=rfl
theorem lV(x y z:V){m:Str}(h1:(m==("conclusions":Str))=false)(h2:(m==("cuts":Str))=false)(h3:(m==("partners":Str))=false):(sf x y z).lookup m=none:=by
 unfold sf
 rw[dt,h1,dt,h2,dt,h3];rfl
def vn(n:Nat):V:=.int (n:Nat)
structure bQ (s:Net):Prop where
 c20:s.concl.length<=20
 d20:s.cuts.length<=20
 cb:∀A∈s.concl,good A=true/\oV A=true
 db:∀A∈s.cuts,good A=true/\oV A=true
 l120:s.to.length<=120
 tol:s.to.length=(Mg s).length
 lnk:EH (Mg s) s.to=true
structure cR (K:aD) (C:Addr) (H:Hp) (p:Addr) (s:Net):Prop where
 ex:∃dx x y c,H p=some (.ins C dx (sf x y (.ref c)))/\dn K H x s.concl/\dn K H y s.cuts/\H c=some (.lst (s.to.map vn))
 ok:bQ s
theorem cR.same{K:aD}{C:Addr}{H H':Hp}{p:Addr}{s:Net}(h:cR K C H p s)(e:aA H H'):cR K C H' p s:=by
 obtain⟨⟨dx,x,y,c,h1,h2,h3,h4⟩,h5⟩:=h
 exact⟨⟨dx,x,y,c,e _ _ h1,h2.same e,h3.same e,e _ _ h4⟩,h5⟩
theorem gm{A:Formula}(h:good A=true)(hb:oV A=true):(nl A).length<=200:=by
 rw[MF.fJ h]
 unfold oV at hb
 rw[ag,ag] at hb
 exact of_decide_eq_true hb.2.1
theorem qj{L:List (Bool×Name)}{to:List Nat}(h:EH L to=true):∀j∈to,j<to.length:=fun j hj=>by
 unfold EH at h
 rw[ag,cJ] at h
 obtain⟨i,hi,e⟩:=rO hj
 have q:=h.2 i (fN.mpr hi)
 rw[bU hi,e] at q
 have q:(to[j]? ==some i&&_)=true:=q
 rw[ag,beq_iff_eq] at q
 exact(bC.mp q.1).1
section
variable{P:Program}{w:World}{K:aD}{mg:Str->Option Value}{base:Heap}{C:Addr}
def js(C:Addr):Sp:=fun vs H Q _=>∃p dx x y z,vs=[.ref p,x,y,z]/\H p=some (.ins C dx [])/\∀H',H' p=some (.ins C dx (sf x y z))->(∀b o,H b=some o->b≠p->H' b=some o)->Q .non H'
theorem J3:aZ ["self","conclusions","cuts","partners"] ["self","conclusions","cuts","partners"] (aQ u0):=fS
theorem J4{fI:Addr}{fd:FuncData}(F:fV K "__init__" "Structure.__init__" u0 fI fd)(R:SC K C):dB P w K mg base eT 1 fI fd ["self","conclusions","cuts","partners"] (js C):=by
 refine F.ok J3 (fun vs H Q E h=>?_) (fun cdv A outer s H vs Q E hr h=>?_)
 ·obtain⟨_,_,_,_,_,rfl,_⟩:=h
  rfl
 ·obtain⟨p,dx,x,y,z,rfl,hp,k⟩:=h
  refine⟨_,aG (dY (pv 0) (pv 1) rfl) (aG (dY (pv 0) (pv 2) rfl) (aI (dY (pv 0) (pv 3) rfl))),?_⟩
  refine⟨_,rfl,_,rfl,p,C,dx,_,rfl,hp,R.cl,R.n1,(by show 0<1000;decide),?_⟩
  refine⟨_,rfl,_,rfl,p,C,dx,_,rfl,aF,R.cl,R.n2,(by show 1<1000;decide),?_⟩
  refine⟨_,rfl,_,rfl,p,C,dx,_,rfl,aF,R.cl,R.n3,(by show 2<1000;decide),?_⟩
  refine k _ (aF.trans rfl) fun b o e hb=>?_
  rw[aP hb,aP hb,aP hb];exact e
def qk(K:aD)(C:Addr):Sp:=fun vs H Q _=>∃p s,vs=[.ref p]/\cR K C H p s/\∀v H',aA H H'->dn K H' v (formulas s)->Q v H'
theorem J5:aZ ["self"] ["self"] (aQ u7):=fS
theorem J6(D:bZ K C "formulas" "Structure.formulas" u7)(R:SC K C)(C1:aK P w K mg base "all_formulas" 3 ["conclusions","cuts"] (wV K)):bE P w K mg base C "formulas" 4 ["self"] (qk K C):=by
 refine D.cal J5 (fun vs H Q E h=>?_) (fun fa cdv A outer s H vs Q E hr h=>?_)
 ·obtain⟨_,_,rfl,_⟩:=h
  rfl
 ·obtain⟨p,n,rfl,⟨⟨dx,x,y,c,h1,h2,h3,h4⟩,h5⟩,k⟩:=h
  refine⟨_,aI (aN (pc C1 hr (aB (aX (pv 0) rfl) (aB (aX (pv 0) rfl) aC)))),?_⟩
  have:=h5.c20
  have:=h5.d20
  exact⟨_,rfl,p,C,dx,_,_,rfl,h1,R.cl,R.n1,eF _ _ _,_,rfl,p,C,dx,_,_,rfl,h1,R.cl,R.n2,iS _ _ _,x,y,_,_,rfl,h2,h3,by omega,k⟩
def ql(K:aD)(C:Addr):Sp:=fun vs H Q _=>∃p s,vs=[.ref p]/\cR K C H p s/\∀b zs H',aA H H'->H b=none->H' b=some (.lst zs)->Paired (bj K H') zs (lks s.to)->Q (.ref b) H'
theorem Ba:aZ ["self","leaf","other"] ["self"] (aQ qH):=fS
theorem J7(D:bZ K C "links" "Structure.links" qH)(R:SC K C)(T3:kZ K mg):bE P w K mg base C "links" 1 ["self"] (ql K C):=by
 refine D.cal Ba (fun vs H Q E h=>?_) (fun fa cdv A outer s H vs Q E hr h=>?_)
 ·obtain⟨_,_,rfl,_⟩:=h
  rfl
 ·obtain⟨p,n,rfl,⟨⟨dx,x,y,c,h1,h2,h3,h4⟩,h5⟩,k⟩:=h
  have nd:=Ba.nd
  refine⟨_,aI (aN (eS (own:=[("leaf",1),("other",2)]) (g:=lL K 2 (iH (eO 1) (iH (eO 2) lK))) rfl nd (p9 rfl T3.en (aB (aX (pv 0) rfl) aC)) (dc (N:=["self","leaf","other"]) (sc:=aQ qH) (by decide+kernel))
   (fun _ _ _ _ _=>jJ rfl (dv (bN (i:=1) nd rfl (aJ rfl) (gQ rfl)) (dv (bN (i:=2) nd rfl (aJ rfl) (gQ rfl)) jI))) (fun _ _ _ _ _=>uK (ao jb (pv 1) (pv 2) (ak _))) (fun _ _ _ _ _=>eQ (aB (pv 1) (aB (pv 2) aC))))),?_⟩
  refine⟨_,rfl,p,C,dx,_,_,rfl,h1,R.cl,R.n3,gk _ _ _,c,_,rfl,aE.of h4,fun D1 hD1=>?_⟩
  have h120:=h5.l120
  refine AV (K:=K) (a:=c) (xs:=n.to.map vn) (fun i H'=>aA H H'/\∃zs,H' D1=some (.lst zs)/\Paired (bj K H') zs (lks (n.to.take i))) ?_ ?_ ?_ ?_
  ·exact⟨aA.upd hD1,[],aF,.nil⟩
  ·rintro i H' _ ⟨s1,_⟩
   exact aE.of (s1 _ _ h4)
  ·rintro i v Tt H' hv hT ⟨s1,zs,hz,hzp⟩
   rw[bo] at hv
   obtain⟨j,hj,rfl⟩:∃j,n.to[i]? =some j/\vn j=v:=by
    cases q:n.to[i]? with
    |none=>rw[q] at hv;cases hv
    |some j=>rw[q] at hv;exact⟨j,rfl,bL hv⟩
   have hil:i<n.to.length:=(bC.mp hj).1
   have sT:aA H' (upd H' Tt (.tup [.int (i:Nat),vn j])):=aA.upd hT
   have hTt:aW K (upd H' Tt (.tup [.int (i:Nat),vn j])) Tt [.int (i:Nat),vn j]:=aW.of aF
   refine⟨Tt,_,rfl,hTt,rfl,_,_,rfl,_,_,rfl,rfl,rfl,?_⟩
   generalize upd H' Tt (.tup [.int (i:Nat),vn j])=H2 at sT
   have hzl:=hzp.length
   have hkl:=lU (n.to.take i)
   rw[cM] at hkl
   have es:=J0 (n.to.take i) j
   rw[<-take_snoc hj,cM,jC (kg hil)] at es
   refine⟨_,rfl,_,rfl,_,_,rfl,rfl,_,rfl,?_⟩
   refine aU (fun e=>?_) (fun e=>?_)
   ·have e:(i:Int)<(j:Int):=of_decide_eq_true e
    refine⟨_,rfl,_,rfl,(by show 2<=sizeLine;decide),fun l hl=>⟨zs,(sT.trans (aA.upd hl)) _ _ hz,by rw[sizeLine_eq];omega,aA.upd2 ((s1.trans sT).trans (aA.upd hl)) hD1,_,aF,?_⟩⟩
    rw[es,if_pos (by omega)]
    have hz3:=(sT.trans (aA.upd (o:=.tup [.int (i:Nat),vn j]) hl)) _ _ hz
    exact Paired.snoc (Paired.mono (fun _ _ q=>(q.same (sT.trans (aA.upd hl))).upd hz3) hzp) (bj.upd ⟨l,rfl,aW.of aF⟩ hz3)
   ·have e:¬((i:Int)<(j:Int)):=fun z=>e (decide_eq_true z)
    rw[es,if_neg (by omega),d8]
    exact⟨s1.trans sT,zs,sT _ _ hz,Paired.mono (fun _ _ q=>q.same sT) hzp⟩
  ·rintro H1 ⟨s1,zs,hz,hzp⟩
   rw[aL,cQ] at hzp
   exact k D1 zs H1 s1 hD1 hz hzp
def Bb(K:aD)(C:Addr):Sp:=fun vs H Q _=>∃p s,vs=[.ref p]/\cR K C H p s/\∀b H',aA H H'->H b=none->H' b=some (.lst ((formOf s).map vb))->Q (.ref b) H'
theorem Bc:aZ ["structure","conclusions","cuts","links","link"] ["structure"] (aQ qK):=fS
theorem qm{n:List UInt8}{ts:List (List UInt8)}{m:Nat}(h:∀t∈ts,t.length<=m):(df n ts).length<=ts.length*(m+n.length):=bW (wX n ts) (qg h n.length)
theorem J8(D:aO K mg "written_structure" qK)(R:SC K C)(T3:kZ K mg)(C1:aK P w K mg base "written_sequent" 4 ["sequent"] (B5 K))(C2:aK P w K mg base "written_link" 1 ["link"] (B7 K))(C3:aK P w K mg base "joined_texts" 1 ["texts","between"] (wY K))
  (M1:bE P w K mg base C "links" 1 ["self"] (ql K C)):aK P w K mg base "written_structure" 5 ["structure"] (Bb K C):=by
 refine D.cal Bc (fun vs H Q E h=>?_) (fun fa cdv A outer s H vs Q E hr h=>?_)
 ·obtain⟨_,_,rfl,_⟩:=h
  rfl
 ·obtain⟨p,n,rfl,hS,k⟩:=h
  obtain⟨⟨dx,x,y,c,h1,h2,h3,h4⟩,h5⟩:=id hS
  have nd:=Bc.nd
  have hr1:=hr.mono (show 1<=4 by decide)
  refine⟨_,aG (aT (i:=1) nd rfl (aJ rfl) (pc C1 hr (aB (aX (pv 0) rfl) aC)))
   (aG (aT (i:=2) nd rfl (aJ rfl) (pc C1 hr (aB (aX (pv 0) rfl) aC)))
   (aG (aT (i:=3) nd rfl (aJ rfl) (pc C3 hr1 (aB (eS (own:=[("link",4)]) rfl nd (c6 (d4 R.cl M1 hr1 (pv 0))) (dc (N:=["structure","conclusions","cuts","links","link"]) (sc:=aQ qK) (by decide+kernel)) (fun _ _ _ _ _=>bN (i:=4) nd rfl (aJ rfl)) (fun _ _ _ _ _=>eR) (fun _ _ _ _ _=>pc C2 hr1 (aB (pv 4) aC))) (aB (bT T3.bl) aC))))
   (aI (aN (pc C3 hr1 (aB (au (aB (pv 1) (aB (pv 2) (aB (pv 3) aC)))) (aB (bT T3.bp) aC))))))),?_⟩
  have c20:=h5.c20
  have d20:=h5.d20
  have h120:=h5.l120
  have fl:∀{fs:List Formula},(∀A∈fs,good A=true/\oV A=true)->fs.length<=20->(sequentForm fs).length<=500000:=fun{fs} hb hl=>by
   rw[qi]
   have:=qm (n:=[44,32]) (ts:=fs.map form) (m:=21000) (fun t ht=>by
    obtain⟨A1,hA,rfl⟩:=cT.mp ht
    have g:=hb A1 hA
    have q:=MF.jZ g.1 fun m hm=>bW (gh g.1 m hm) (by decide)
    have:=gm g.1 g.2
    omega)
   rw[aL] at this
   refine bW this ?_
   have:fs.length*(21000+[44,32].length)<=20*21002:=kq hl (aY _)
   omega
  have f1:=fl h5.cb c20
  have f2:=fl h5.db d20
  refine⟨_,rfl,p,C,dx,_,_,rfl,h1,R.cl,R.n1,eF _ _ _,x,_,rfl,h2,by omega,fun A1 hA=>gm (h5.cb A1 hA).1 (h5.cb A1 hA).2,fun b1 H1 s1 hb1n hb1=>?_⟩
  refine⟨_,rfl,p,C,dx,_,_,rfl,s1 _ _ h1,R.cl,R.n2,iS _ _ _,y,_,rfl,h3.same s1,by omega,fun A1 hA=>gm (h5.db A1 hA).1 (h5.db A1 hA).2,fun b2 H2 s2 hb2n hb2=>?_⟩
  have s02:=s1.trans s2
  have hS2:=hS.same s02
  refine⟨_,rfl,p,dx,_,rfl,s02 _ _ h1,lV _ _ _ rfl rfl rfl,p,n,rfl,hS2,fun lb zs H3 s3 hlbn hlb hzp=>⟨lb,rfl,⟨_,aE.of hlb⟩,fun D1 hD1=>?_⟩⟩
  have llt:=w8 (qj h5.lnk)
  have lll:=lU n.to
  have hzl:=hzp.length
  refine fT (K:=K) (a:=lb) (xs:=zs) (fun i H'=>aA H3 H'/\∃ys,H' D1=some (.lst ys)/\Paired (fun v t=>∃b,v=.ref b/\b≠D1/\H' b=some (.lst (t.map vb))) ys (((lks n.to).take i).map fun x=>decimal x.1++45::decimal x.2)) ?_ ?_ ?_ ?_
  ·exact⟨aA.upd hD1,[],aF,.nil⟩
  ·rintro i H' _ ⟨s4,_⟩
   exact aE.of (s4 _ _ hlb)
  ·rintro i v H' hv ⟨s4,ys,hy,hyp⟩
   obtain⟨lx,hlx,hP⟩:=bw hzp hv
   have hil:i<zs.length:=(bC.mp hv).1
   have hx:=llt lx (cv hlx)
   have hyl:=hyp.length
   rw[aL,cM] at hyl
   refine⟨rfl,_,rfl,v,lx,rfl,hP.same s4,by omega,by omega,fun b H5 s5 hbn hb=>⟨ys,s5 _ _ hy,by rw[sizeLine_eq];omega,aA.upd2 (s4.trans s5) hD1,_,aF,?_⟩⟩
   have hbD:b≠D1:=(ae hy hbn).symm
   rw[take_snoc hlx,bO]
   refine Paired.snoc (Paired.mono (fun v t q=>?_) hyp) ⟨b,rfl,hbD,by rw[aP hbD];exact hb⟩
   obtain⟨c,rfl,q1,q2⟩:=q
   exact⟨c,rfl,q1,by rw[aP q1];exact s5 _ _ q2⟩
  ·rintro H4 ⟨s4,ys,hy,hyp⟩
   rw[hzl,cQ] at hyp
   have dl:∀t∈(lks n.to).map (fun x=>decimal x.1++45::decimal x.2),t.length<=7:=fun t ht=>by
    obtain⟨z,hz,rfl⟩:=cT.mp ht
    have hx:=llt z hz
    have a1:=k0 z.1 (by omega)
    have a2:=k0 z.2 (by omega)
    rw[aS,aV];omega
   intro v3 hv3
   refine⟨D1,ys,_,v3,[32],rfl,hy,Paired.mono (fun v t q=>?_) hyp,hv3 H4,?_,fun b3 H5 s5 hb3n hb3=>?_⟩
   ·obtain⟨c,rfl,_,q2⟩:=q
    exact⟨c,rfl,q2⟩
   ·have:=qg dl 1
    rw[aL] at this
    refine bW this ?_
    have:(lks n.to).length*(7+1)<=120*8:=kq (by omega) (aY _)
    omega
   ·have s35:=(s3.trans s4).trans s5
    have s25:=s2.trans s35
    refine⟨_,rfl,_,rfl,_,rfl,(by show 3<=sizeLine;decide),fun l hl v4 hv4=>?_⟩
    have s6:aA H5 (upd H5 l (.lst [.ref b1,.ref b2,.ref b3])):=aA.upd hl
    have f3:(linksText n.to).length<=1000:=by
     rw[w6]
     have:=qm (n:=[32]) dl
     rw[aL] at this
     refine bW this ?_
     have:(lks n.to).length*(7+[32].length)<=120*8:=kq (by omega) (aY _)
     omega
    refine⟨l,_,[sequentForm n.concl,sequentForm n.cuts,linksText n.to],v4,[32,59,32],rfl,aF,.cons ⟨b1,rfl,s6 _ _ (s25 _ _ hb1)⟩ (.cons ⟨b2,rfl,s6 _ _ (s35 _ _ hb2)⟩ (.cons ⟨b3,rfl,s6 _ _ (by rw[w6];exact hb3)⟩ .nil)),hv4 _,?_,fun b H7 s7 hbn hb=>?_⟩
    ·simp only[bg,Du,ki,List.sum_nil,aV,jU]
     omega
    ·have s07:=((s1.trans s25).trans s6).trans s7
     refine k b H7 s07 (((s1.trans s25).trans s6).free hbn) ?_
     rw[hb]
     rfl
end
open Vaneta (Formula dual leaves Name isName two nodes)
open Vanetc (Net formulas rootsFrom Edge Par)
open MGr (fk)
def cZ(K:aD)(H:Hp)(v:V)(x:Nat×Nat×Nat):Prop:=∃a,v=.ref a/\aW K H a [vn x.1,vn x.2.1,vn x.2.2]
theorem cZ.same{K:aD}{H H':Hp}{v:V}{x:Nat×Nat×Nat}(h:cZ K H v x)(e:aA H H'):cZ K H' v x:=by
 obtain⟨a,rfl,q⟩:=h
 exact⟨a,rfl,aA.tup e q⟩
theorem cZ.upd{K:aD}{H:Hp}{v:V}{x:Nat×Nat×Nat}{D:Addr}{ys zs:List V}(h:cZ K H v x)(hD:H D=some (.lst ys)):cZ K (upd H D (.lst zs)) v x:=by
 obtain⟨a,rfl,q⟩:=h
 exact⟨a,rfl,aW.upd q hD⟩
theorem Bd{α β:Type}{F:α->β->Prop}:∀{xs:List α} {ys:List β},Paired F xs ys->Paired F xs.reverse ys.reverse
 |_,_,.nil=>.nil
 |_,_,.cons r t=>by rw[eU,eU];exact Paired.snoc (Bd t) r
theorem J9{n i:Nat}(h:i<n):((n:Int)-1)+((i:Nat):Int)*(-1)=((n-1-i:Nat):Int):=by omega
section
variable{P:Program}{w:World}{K:aD}{mg:Str->Option Value}{base:Heap}{C:Addr}
def Be(K:aD):Sp:=fun vs H Q _=>∃a ws fs,vs=[.ref a]/\H a=some (.lst ws)/\Paired (ai K H) ws (aM fs)/\fs.all good=true/\(aM fs).length<=100000/\∀b zs H',aA H H'->H b=none->H' b=some (.lst zs)->Paired (cZ K H') zs (fk 0 fs)->Q (.ref b) H'
theorem Bf:aZ ["nodes","found","waiting","point","first","second"] ["nodes"] (aQ uh):=fS
theorem w9(o:Nat)(fs:List Formula)(h:fs.all good=true):(fk o fs).length<=(aM fs).length:=by
 unfold fk
 refine bW (Mb _ _) ?_
 rw[<-MGr.tH h,rb,xU]
 omega
theorem Ja(D:aO K mg "forks" uh)(hlen:mg "len"=none)(hrng:mg "range"=none)(C1:aK P w K mg base "is_atom" 1 ["node"] (jQ K)):aK P w K mg base "forks" 2 ["nodes"] (Be K):=by
 refine D.cal Bf (fun vs H Q E h=>?_) (fun fa cdv A outer s H vs Q E hr h=>?_)
 ·obtain⟨_,_,_,rfl,_⟩:=h
  rfl
 ·obtain⟨a,ws,fs,rfl,ha,hp,hg,hsz,k⟩:=h
  have nd:=Bf.nd
  refine⟨_,aG (aT (i:=1) nd rfl (aJ rfl) (au aC))
   (aG (aT (i:=2) nd rfl (aJ rfl) (au aC))
   (aG (dy PassesOwn.never rfl (zw rfl hrng (aB (bH pP (bD bI (by rfl) hlen bM (aB (pv 0) aC)) aR) (aB (lM lN aR) (aB (lM lN aR) aC)))) (bN (i:=3) nd rfl (aJ rfl))
    (aG (aj (dH (cA (pc C1 hr (aB (aa az (pv 0) (pv 3) (fun _ _=>rfl)) aC))))
     (aG (aT (i:=4) nd rfl (aJ rfl) (gE bR iZ i0 g6 (pv 2)))
     (aG (aT (i:=5) nd rfl (aJ rfl) (gE bR iZ i0 g6 (pv 2)))
     (aI (bV (cG bR cw cy c7 (pv 1) (aB (eQ (aB (pv 3) (aB (pv 4) (aB (pv 5) aC)))) aC)))))) ay)
    (aI (bV (cG bR cw cy c7 (pv 2) (aB (pv 3) aC))))))
   (aG (bV (gE bR PySem.F.slot_list_reverse PySem.F.type_list_reverse Gf (pv 1)))
   (aI (aN (pv 1)))))),?_⟩
  have hpl:=hp.length
  have hsl:=sizeLine_eq
  refine⟨bF _,fun d1 hd1=>⟨bF _,fun d2 hd2=>?_⟩⟩
  have hd20:=gH hd2
  have d12:d1≠d2:=by intro e;rw[e,aF] at hd2;cases hd2
  have s0:aA H (upd (upd H d1 (.lst [])) d2 (.lst [])):=(aA.upd hd1).trans (aA.upd hd2)
  refine⟨_,rfl,a,ws,rfl,.inl (aE.of (s0 _ _ ha)),_,_,rfl,rfl,_,rfl,_,rfl,(ws.length:Int)-1,-1,-1,ws.length,rfl,?_,?_⟩
  ·have:=nE.neg (i:=(ws.length:Int)-1) (j:= -1) (by omega) (by omega) (by decide) (by decide)
   have e:((ws.length:Int)-1- -1).toNat=ws.length:=by omega
   rw[e] at this
   exact this
  refine HB (lo:=(ws.length:Int)-1) (c:= -1) (n:=ws.length) (fun i σ H'=>∃(x1 x2 x3:Option V) (gs:List Formula) (zs:List V),σ=[some (.ref a),some (.ref d1),some (.ref d2),x1,x2,x3]/\aA H H'/\H' d1=some (.lst zs)/\Paired (cZ K H') zs (fk (ws.length-i) gs).reverse/\H' d2=some (.lst ((rootsFrom (ws.length-i) gs).reverse.map vn))/\gs.length<=i/\gs.all good=true/\(aM fs).drop (ws.length-i)=aM gs) ?_ ?_ ?_
  ·refine⟨none,none,none,[],[],rfl,s0,?_,.nil,aF,aY _,rfl,?_⟩
   ·rw[aP d12,aF]
   ·rw[mD (by omega)];rfl
  ·rintro i σ H' hi ⟨x1,x2,x3,gs,zs,rfl,s1,hz1,hzp,hz2,hgl,hgg,hdr⟩
   have hlt:ws.length-1-i<ws.length:=by omega
   have hx:ws[ws.length-1-i]? =some ws[ws.length-1-i]:=bU hlt
   obtain⟨n,hn,hxn⟩:=bw hp hx
   have ek:ws.length-1-i+1=ws.length-i:=by omega
   obtain⟨hs,g1,g2,hH⟩:=MF.step hg hn hgg (by rw[ek];exact hdr)
   have ek2:ws.length-(i+1)=ws.length-1-i:=by omega
   rw[J9 hi]
   have hzl:=hzp.length
   rw[fm] at hzl
   have hfl:=w9 (ws.length-i) gs hgg
   have hgl2:(aM gs).length<=(aM fs).length:=by rw[<-hdr,di];omega
   have hrl:=MGr.kH gs (ws.length-i)
   have fin:∀(y2 y3:Option V) (zs':List V) (gr:List Nat) (H3:Hp),aA H H3->H3 d1=some (.lst zs')->Paired (cZ K H3) zs' (fk (ws.length-(i+1)) hs).reverse->H3 d2=some (.lst (gr.reverse.map vn))->gr.length<=i->rootsFrom (ws.length-(i+1)) hs=(ws.length-1-i)::gr->hs.length<=i+1->
     jH (jg K "list" jh (ax 2) (cO (ax 3) cK)) {nx:=fun σ H'=>∃(x1 x2 x3:Option V) (gs:List Formula) (zs:List V),σ=[some (.ref a),some (.ref d1),some (.ref d2),x1,x2,x3]/\aA H H'/\H' d1=some (.lst zs)/\Paired (cZ K H') zs (fk (ws.length-(i+1)) gs).reverse/\H' d2=some (.lst ((rootsFrom (ws.length-(i+1)) gs).reverse.map vn))/\gs.length<=i+1/\gs.all good=true/\(aM fs).drop (ws.length-(i+1))=aM gs,rt:=Q} [some (.ref a),some (.ref d1),some (.ref d2),some (vn (ws.length-1-i)),y2,y3] H3:=fun y2 y3 zs' gr H3 s3 q1 q2 q3 q4 q5 q6=>by
    refine⟨_,rfl,.inl ⟨rfl,_,aE.of q3⟩,_,rfl,d2,_,_,rfl,rfl,q3,?_,?_⟩
    ·rw[aL,fm];omega
    ·refine⟨_,_,_,hs,zs',rfl,aA.upd2 s3 hd20,by rw[aP d12];exact q1,Paired.mono (fun _ _ q=>q.upd q3) q2,aF.trans ?_,q6,g1,by rw[ek2];exact g2⟩
     rw[q5,eU,bO];rfl
   refine⟨_,rfl,_,rfl,a,_,_,_,rfl,rfl,aE.of (s1 _ _ ha),ah hx,_,n,rfl,hxn.same s1,_,rfl,?_⟩
   rcases hH.cases' with⟨t,nm,hnm,e,eh⟩|⟨c,A1,B1,r,hc,e,eg,eh⟩
   ·refine aU (fun q=>?_) (fun _=>?_)
    ·have q:bP n=false:=by simpa using q
     rw[e,MF.gR hnm] at q;cases q
    ·refine fin _ _ zs (rootsFrom (ws.length-i) gs) H' s1 hz1 ?_ hz2 (by omega) ?_ ?_
     ·rw[eh,MGr.FT,ek2,ek];exact hzp
     ·rw[eh]
      show(ws.length-(i+1))::rootsFrom (ws.length-(i+1)+nodes (Formula.atom t nm)) gs=_
      rw[ek2,show nodes (Formula.atom t nm)=1 from rfl,ek]
     ·rw[eh,aV];omega
   ·subst eg eh
    have e3:rootsFrom (ws.length-i) (A1::B1::r)=(ws.length-i)::(ws.length-i+nodes A1)::rootsFrom (ws.length-i+nodes A1+nodes B1) r:=rfl
    rw[e3,eU,eU,bO,bO] at hz2
    refine aU (fun _=>?_) (fun q=>absurd (by rw[e];rcases hc with rfl|rfl<;>decide) q)
    refine⟨_,rfl,.inl ⟨rfl,_,aE.of hz2⟩,fZ hz2 ⟨_,rfl,.inl ⟨rfl,_,aE.of aF⟩,fZ aF ?_⟩⟩
    rw[eX]
    have hz1':(upd H' d2 (.lst ((rootsFrom (ws.length-i+nodes A1+nodes B1) r).reverse.map vn))) d1=some (.lst zs):=by rw[aP d12];exact hz1
    have s2:aA H (upd H' d2 (.lst ((rootsFrom (ws.length-i+nodes A1+nodes B1) r).reverse.map vn))):=aA.upd2 s1 hd20
    have hzp':Paired (cZ K (upd H' d2 (.lst ((rootsFrom (ws.length-i+nodes A1+nodes B1) r).reverse.map vn)))) zs (fk (ws.length-i) (A1::B1::r)).reverse:=Paired.mono (fun _ _ q=>q.upd hz2) hzp
    have hz2':(upd H' d2 (.lst ((rootsFrom (ws.length-i+nodes A1+nodes B1) r).reverse.map vn))) d2=some (.lst ((rootsFrom (ws.length-i+nodes A1+nodes B1) r).reverse.map vn)):=aF
    generalize upd H' d2 (.lst ((rootsFrom (ws.length-i+nodes A1+nodes B1) r).reverse.map vn))=H2 at hz1' s2 hzp' hz2'⊢
    refine⟨_,rfl,.inl ⟨rfl,_,aE.of hz1'⟩,_,rfl,_,rfl,_,rfl,(by show 3<=sizeLine;decide),fun T hT=>?_⟩
    have s3:=s2.trans (aA.upd (o:=.tup [vn (ws.length-1-i),vn (ws.length-i),vn (ws.length-i+nodes A1)]) hT)
    have sT:aA H2 (upd H2 T (.tup [vn (ws.length-1-i),vn (ws.length-i),vn (ws.length-i+nodes A1)])):=aA.upd hT
    have hTt:aW K (upd H2 T (.tup [vn (ws.length-1-i),vn (ws.length-i),vn (ws.length-i+nodes A1)])) T [vn (ws.length-1-i),vn (ws.length-i),vn (ws.length-i+nodes A1)]:=aW.of aF
    refine⟨d1,_,_,rfl,rfl,sT _ _ hz1',by omega,?_⟩
    refine fin _ _ (zs++[.ref T]) (rootsFrom (ws.length-i+nodes A1+nodes B1) r) _ (aA.upd2 s3 hd1) aF ?_ ?_ ?_ ?_ ?_
    ·rw[ek2,MGr.FU hc,eU,ek]
     exact Paired.snoc (Paired.mono (fun _ _ q=>(q.same sT).upd (sT _ _ hz1')) hzp') (cZ.upd (x:=(ws.length-1-i,ws.length-i,ws.length-i+nodes A1)) ⟨T,rfl,hTt⟩ (sT _ _ hz1'))
    ·rw[aP d12.symm];exact sT _ _ hz2'
    ·rw[MGr.kH];simp only[aV] at hgl;omega
    ·rw[ek2,MGr.FW hc,ek]
    ·simp only[aV] at hgl⊢;omega
  ·rintro σ H' ⟨x1,x2,x3,gs,zs,rfl,s1,hz1,hzp,hz2,hgl,hgg,hdr⟩
   rw[kj,l9] at hdr
   have eg:=MF.mP _ fs gs rfl hdr.symm hg hgg
   subst eg
   rw[kj] at hzp
   refine⟨_,rfl,.inl ⟨rfl,_,aE.of hz1⟩,d1,zs,rfl,rfl,hz1,?_⟩
   refine⟨_,rfl,k d1 zs.reverse _ (aA.upd2 s1 hd1) hd1 aF ?_⟩
   have:=Bd hzp
   rw[MB] at this
   exact Paired.mono (fun _ _ q=>q.upd hz1) this
end
open Vanetc (Net formulas rootsFrom Edge Par inPairs cutEdges linkEdges leafPoints pointsFrom points)
open MGr (fk dA)
theorem Jb{a m:Nat}(h:a+2*m<1000000):nE (a:Int) ((a+2*m:Nat):Int) 2 m:=by
 have e:Builtin.Range.rangeSize (a:Int) ((a+2*m:Nat):Int) 2=(m:Int):=by
  unfold Builtin.Range.rangeSize
  rw[if_pos (by decide)]
  split<;>omega
 refine⟨by decide,by decide,?_,e⟩
 have f:∀i:Int,-1000000<=i->i<10000000->Builtin.Range.rangeFitsLong i=true:=fun i h1 h2=>by
  unfold Builtin.Range.rangeFitsLong
  rw[ag,decide_eq_true_iff,decide_eq_true_iff]
  omega
 unfold Builtin.Range.small
 rw[e,f (a:Int) (by omega) (by omega),f ((a+2*m:Nat):Int) (by omega) (by omega),f 2 (by decide) (by decide),f (m:Int) (by omega) (by omega),if_pos (show(2:Int)>0 by decide),f (((a+2*m:Nat):Int)+(2-1)) (by omega) (by omega),oU]
 rfl
theorem Jc{lo c:Int}{n:Nat}{g:TG}{tt:TT}{te:TE}{vs:List Nat}{σ:L2.St}{H1:Hp}{D:Addr}{Qd:Hp->Prop}(Pv:Nat->Hp->Prop)(h0:Pv 0 (upd H1 D (.lst [])))
  (hs:∀i H,i<n->Pv i H->g (.int (lo+(i:Nat)*c)) (wipe σ vs) H fun σ2 H2=>wipe σ2 vs=wipe σ vs/\tt σ2 H2 fun b H3=>
   if b=true then te σ2 H3 fun y H4=>∃acc,H4 D=some (.lst acc)/\acc.length<sizeLine/\Pv (i+1) (upd H4 D (.lst (acc++[y]))) else Pv (i+1) H3)(hd:∀H,Pv n H->Qd H):
  ∃W:Nat->Nat->Hp->Prop,(∃m,W 0 m (upd H1 D (.lst [])))/\∀i m H,W i m H->
   ((jj lo c n).stop i H/\Qd H)\/((jj lo c n).go i H/\∃Nx:Hp->Prop,(∀H',Nx H'->∃m',m'<m/\W (i+1) m' H')/\∀x H',(jj lo c n).yld i H x H'->g x (wipe σ vs) H' fun σ2 H2=>wipe σ2 vs=wipe σ vs/\tt σ2 H2 fun b H3=>
    if b=true then te σ2 H3 fun y H4=>∃acc,H4 D=some (.lst acc)/\acc.length<sizeLine/\Nx (upd H4 D (.lst (acc++[y]))) else Nx H3):=by
 refine⟨fun i m H=>m=n-i/\i<=n/\Pv i H,⟨n,by simp,bF _,h0⟩,?_⟩
 rintro i m H ⟨rfl,hi,p⟩
 by_cases hlt:i<n
 ·refine .inr ⟨hlt,Pv (i+1),fun H' p'=>⟨n-(i+1),by omega,rfl,hlt,p'⟩,fun x H' y=>?_⟩
  obtain⟨e,y⟩:=y
  subst e y
  exact hs i _ hlt p
 ·have e:i=n:=by omega
  subst e
  exact .inl ⟨aY _,hd H p⟩
theorem qo{l:List Nat}{i:Nat}(h:i<l.length):(l.map vn)[i]? =some (vn (l.getD i 0)):=by
 rw[bo,bU h,d9,bU h];rfl
section
variable{P:Program}{w:World}{K:aD}{mg:Str->Option Value}{base:Heap}{C:Addr}
def Bg(K:aD):Sp:=fun vs H Q _=>∃v fs,vs=[v]/\dn K H v fs/\fs.length<=10000/\∀b H',aA H H'->H b=none->H' b=some (.lst ((rootsFrom 0 fs).map vn))->Q (.ref b) H'
theorem Bh:aZ ["formulas","points","point","formula"] ["formulas"] (aQ ui):=fS
theorem Jd(D:aO K mg "whole_points" ui)(hlen:mg "len"=none):aK P w K mg base "whole_points" 1 ["formulas"] (Bg K):=by
 refine D.cal Bh (fun vs H Q E h=>?_) (fun fa cdv A outer s H vs Q E hr h=>?_)
 ·obtain⟨_,_,rfl,_⟩:=h
  rfl
 ·obtain⟨v,fs,rfl,⟨a,ws,rfl,ha,hp⟩,hfl,k⟩:=h
  have nd:=Bh.nd
  refine⟨_,aG (aT (i:=1) nd rfl (aJ rfl) (au aC))
   (aG (aT (i:=2) nd rfl (aJ rfl) aR)
   (aG (dy PassesOwn.never rfl (c6 (pv 0)) (bN (i:=3) nd rfl (aJ rfl))
    (aG (bV (cG bR cw cy c7 (pv 1) (aB (pv 2) aC)))
    (aI (j9 (i:=2) nd rfl (aJ rfl) (bD bI (by rfl) hlen bM (aB (pv 3) aC)) kM))))
   (aI (aN (pv 1))))),?_⟩
  refine⟨bF _,fun d hd=>?_⟩
  refine⟨_,rfl,a,rfl,⟨_,aE.of ((aA.upd hd) _ _ ha)⟩,gY (K:=K) (a:=a) (xs:=ws) (fun i σ H'=>∃x:Option V,σ=[some (.ref a),some (.ref d),some (vn ((fs.take i).map nodes).sum),x]/\aA H H'/\H' d=some (.lst ((rootsFrom 0 (fs.take i)).map vn)))
   ⟨none,rfl,aA.upd hd,aF⟩ (fun i σ H' _ ⟨_,_,s1,_⟩=>aE.of (s1 _ _ ha)) ?_ ?_⟩
  ·rintro i y σ H' hi ⟨x,rfl,s1,hd1⟩
   obtain⟨A1,hA,g,rfl,⟨go,vs,hg,hvs⟩,_⟩:=bw hp hi
   have hil:i<fs.length:=(bC.mp hA).1
   refine⟨_,rfl,.inl ⟨rfl,_,aE.of hd1⟩,_,rfl,d,_,_,rfl,rfl,hd1,?_,?_⟩
   ·rw[aL,MGr.kH,cM,sizeLine_eq];omega
   ·have s2:aA H (upd H' d (.lst ((rootsFrom 0 (fs.take i)).map vn++[vn ((fs.take i).map nodes).sum]))):=aA.upd2 s1 hd
    refine⟨_,rfl,_,rfl,g,vs,rfl,.inl (aE.of (s2 _ _ hg)),_,_,rfl,rfl,some (.ref g),?_,s2,aF.trans ?_⟩
    ·show[some (V.ref a),some (V.ref d),some (V.int ((((fs.take i).map nodes).sum:Nat)+(vs.length:Int))),some (V.ref g)]=_
     rw[take_snoc hA,bO,EG,hvs.length,MF.fJ go]
     have:((((fs.take i).map nodes).sum:Nat):Int)+((nodes A1:Nat):Int)=((((fs.take i).map nodes).sum+([A1].map nodes).sum:Nat):Int):=by
      simp
     rw[this];rfl
    ·rw[take_snoc hA,MGr.yd,bO,Nat.zero_add];rfl
  ·rintro σ H' ⟨x,rfl,s1,hd1⟩
   rw[hp.length,cQ] at hd1
   exact⟨_,rfl,k d H' s1 hd hd1⟩
def Bi(K:aD)(C:Addr):Sp:=fun vs H Q _=>∃p s v,vs=[.ref p,v]/\cR K C H p s/\dn K H v (formulas s)/\∀b zs H',aA H H'->H b=none->H' b=some (.lst zs)->Paired (bj K H') zs (cutEdges s)->Q (.ref b) H'
theorem Bj:aZ ["structure","formulas","wholes","start","place"] ["structure","formulas"] (aQ qM):=fS
theorem nX(s:Net):(formulas s).length=s.concl.length+2*s.cuts.length:=by
 unfold formulas;rw[aS,wW]
theorem qp(s:Net):cutEdges s=(bJ s.cuts.length).map fun i=>((rootsFrom 0 (formulas s)).getD (s.concl.length+2*i) 0,(rootsFrom 0 (formulas s)).getD (s.concl.length+2*i+1) 0):=by
 unfold cutEdges
 have hl:((rootsFrom 0 (formulas s)).drop s.concl.length).length=2*s.cuts.length:=by rw[di,MGr.kH,nX];omega
 have:=MGr.yf ((rootsFrom 0 (formulas s)).drop s.concl.length) s.cuts.length (by omega)
 rw[ra (by omega)] at this
 rw[this]
 refine oK fun i hi=>?_
 simp only[d9,MA,Nat.add_assoc]
theorem Je(D:aO K mg "cut_edges" qM)(R:SC K C)(hlen:mg "len"=none)(hrng:mg "range"=none)(C1:aK P w K mg base "whole_points" 1 ["formulas"] (Bg K)):aK P w K mg base "cut_edges" 2 ["structure","formulas"] (Bi K C):=by
 refine D.cal Bj (fun vs H Q E h=>?_) (fun fa cdv A outer s H vs Q E hr h=>?_)
 ·obtain⟨_,_,_,rfl,_⟩:=h
  rfl
 ·obtain⟨p,n,v,rfl,hS,hv,k⟩:=h
  obtain⟨⟨dx,x,y,c,h1,h2,h3,h4⟩,h5⟩:=id hS
  have nd:=Bj.nd
  have c20:=h5.c20
  have d20:=h5.d20
  refine⟨_,aG (aT (i:=2) nd rfl (gQ rfl) (pc C1 hr (aB (pv 1) aC)))
   (aG (aT (i:=3) nd rfl (aJ rfl) (bD bI (by rfl) hlen bM (aB (aX (pv 0) rfl) aC)))
   (aI (aN (eS (own:=[("place",4)]) (te:=mn (cO (cE (ip K) (ax 2) (ax 4)) (cO (cE (ip K) (ax 2) (cE (e8 fun i j=>.int (i+j)) (ax 4) (tC (.int 1)))) cK))) rfl nd (zw rfl hrng (aB (pv 3) (aB (bD bI (by rfl) hlen bM (aB (pv 2) aC)) (aB aR aC)))) (dc (N:=["structure","formulas","wholes","start","place"]) (sc:=aQ qM) (by decide+kernel)) (fun _ _ _ _ _=>bN (i:=4) nd rfl (aJ rfl)) (fun _ _ _ _ _=>eR)
    (fun _ _ _ _ _=>eQ (aB (aa az (pv 2) (pv 4) (fun _ _=>rfl)) (aB (aa az (pv 2) (bH e9 (pv 4) aR) (fun _ _=>rfl)) aC))))))),?_⟩
  refine⟨_,rfl,v,_,rfl,hv,by rw[nX];omega,fun b H1 s1 hbn hb=>?_⟩
  obtain⟨cx,wsx,rfl,hcx,hpx⟩:=id h2
  refine⟨_,rfl,p,C,dx,_,_,rfl,s1 _ _ h1,R.cl,R.n1,eF _ _ _,cx,wsx,rfl,.inl (aE.of (s1 _ _ hcx)),?_⟩
  rw[hpx.length]
  have hrl:((rootsFrom 0 (formulas n)).map vn).length=n.concl.length+2*n.cuts.length:=by rw[aL,MGr.kH,nX]
  refine⟨_,rfl,_,rfl,b,_,rfl,.inl (aE.of hb),(n.concl.length:Int),_,2,n.cuts.length,rfl,?_,fun D1 hD1=>?_⟩
  ·rw[hrl];exact Jb (by omega)
  refine Jc (lo:=(n.concl.length:Int)) (c:=2) (n:=n.cuts.length) (fun i H'=>aA H1 H'/\∃zs,H' D1=some (.lst zs)/\Paired (bj K H') zs ((cutEdges n).take i)) ?_ ?_ ?_
  ·exact⟨aA.upd hD1,[],aF,.nil⟩
  ·rintro i H' hi ⟨s2,zs,hz,hzp⟩
   have e1:(n.concl.length:Int)+((i:Nat):Int)*2=((n.concl.length+2*i:Nat):Int):=by omega
   have hce:(cutEdges n)[i]? =some ((rootsFrom 0 (formulas n)).getD (n.concl.length+2*i) 0,(rootsFrom 0 (formulas n)).getD (n.concl.length+2*i+1) 0):=by
    rw[qp,bo,jy hi];rfl
   have hzl:=hzp.length
   rw[cM] at hzl
   have hroots:=MGr.kH (formulas n) 0
   rw[nX] at hroots
   rw[e1]
   refine⟨rfl,_,rfl,_,rfl,b,_,_,_,rfl,rfl,aE.of (s2 _ _ hb),ah (qo (by omega)),_,rfl,_,rfl,_,_,rfl,rfl,b,_,_,_,rfl,rfl,aE.of (s2 _ _ hb),at_of (j:=n.concl.length+2*i+1) (by omega) (qo (by omega)),(by show 2<=sizeLine;decide),fun T hT=>?_⟩
   have sT:=aA.upd (o:=.tup [vn ((rootsFrom 0 (formulas n)).getD (n.concl.length+2*i) 0),vn ((rootsFrom 0 (formulas n)).getD (n.concl.length+2*i+1) 0)]) hT
   have hz2:=sT _ _ hz
   refine⟨zs,hz2,by rw[sizeLine_eq];omega,aA.upd2 (s2.trans sT) hD1,_,aF,?_⟩
   rw[take_snoc hce]
   exact Paired.snoc (Paired.mono (fun _ _ q=>(q.same sT).upd hz2) hzp) (bj.upd ⟨T,rfl,aW.of aF⟩ hz2)
  ·rintro H2 ⟨s2,zs,hz,hzp⟩
   have:(cutEdges n).length=n.cuts.length:=by rw[qp,aL,cS]
   rw[<-this,cQ] at hzp
   exact k D1 zs H2 (s1.trans s2) (s1.free hD1) hz hzp
end
open Vanetc (Net formulas rootsFrom Edge Par inPairs cutEdges linkEdges leafPoints pointsFrom points tensorEdges pars)
open MGr (fk dA gW iD)
theorem bQ.good{s:Net}(h:bQ s):(formulas s).all good=true:=by
 rw[cJ]
 intro A hA
 unfold formulas at hA
 rcases dD.mp hA with hA|hA
 ·exact(h.cb A hA).1
 ·obtain⟨B,hB,hm⟩:=fh.mp hA
  have:A=B\/A=dual B:=by simpa using hm
  rcases this with rfl|rfl
  ·exact(h.db _ hB).1
  ·rw[MP.eV];exact(h.db _ hB).1
theorem wc:∀{fs:List Formula} {m:Nat},(∀A∈fs,(nl A).length<=m)->(aM fs).length<=fs.length*m
 |[],_,_=>bF _
 |A::r,m,h=>by
  rw[MF.cD,aS,aV,Nat.succ_mul]
  have h1:=h A bY
  have h2:=wc (fs:=r) (m:=m) fun B hB=>h B (ba _ hB)
  omega
theorem bQ.small{s:Net}(h:bQ s):(aM (formulas s)).length<=12000:=by
 have hb:∀A∈formulas s,(nl A).length<=200:=fun A hA=>by
  unfold formulas at hA
  rcases dD.mp hA with hA|hA
  ·exact gm (h.cb A hA).1 (h.cb A hA).2
  ·obtain⟨B,hB,hm⟩:=fh.mp hA
   have:A=B\/A=dual B:=by simpa using hm
   rcases this with rfl|rfl
   ·exact gm (h.db _ hB).1 (h.db _ hB).2
   ·rw[MS.mW (h.db _ hB).1];exact gm (h.db _ hB).1 (h.db _ hB).2
 have h1:=wc hb
 rw[nX] at h1
 have h2:(s.concl.length+2*s.cuts.length)*200<=60*200:=kq (by have:=h.c20;have:=h.d20;omega) (aY _)
 omega
theorem nY(s:Net)(h:(formulas s).all good=true):linkEdges (points s) s.to=(lks s.to).map fun x=>((dA 0 (aM (formulas s))).getD x.1 0,(dA 0 (aM (formulas s))).getD x.2 0):=by
 unfold linkEdges lks points
 rw[MGr.FZ h,Ma]
 dsimp only
 congr 1
 funext x
 split<;>rfl
theorem bQ.leaves{s:Net}(h:bQ s):(dA 0 (aM (formulas s))).length=s.to.length:=by
 rw[MGr.tL,MF.sS h.good,aL,h.tol];rfl
section
variable{P:Program}{w:World}{K:aD}{mg:Str->Option Value}{base:Heap}{C CG:Addr}
def Bk(K:aD)(C:Addr):Sp:=fun vs H Q _=>∃p s a ws,vs=[.ref p,.ref a]/\cR K C H p s/\H a=some (.lst ws)/\Paired (ai K H) ws (aM (formulas s))/\∀b zs H',aA H H'->H b=none->H' b=some (.lst zs)->Paired (bj K H') zs (linkEdges (points s) s.to)->Q (.ref b) H'
theorem Bl:aZ ["structure","nodes","leaves","point","node","lesser","greater"] ["structure","nodes"] (aQ nJ):=fS
theorem Jf(D:aO K mg "link_edges" nJ)(R:SC K C)(T3:kZ K mg)(C1:aK P w K mg base "is_atom" 1 ["node"] (jQ K))(M1:bE P w K mg base C "links" 1 ["self"] (ql K C)):aK P w K mg base "link_edges" 2 ["structure","nodes"] (Bk K C):=by
 refine D.cal Bl (fun vs H Q E h=>?_) (fun fa cdv A outer s H vs Q E hr h=>?_)
 ·obtain⟨_,_,_,_,rfl,_⟩:=h
  rfl
 ·obtain⟨p,n,a,ws,rfl,hS,ha,hp,k⟩:=h
  obtain⟨⟨dx,x,y,c,h1,h2,h3,h4⟩,h5⟩:=id hS
  have nd:=Bl.nd
  refine⟨_,aG (aT (i:=2) nd rfl (gQ rfl) (eS (own:=[("point",3),("node",4)]) (g:=lL K 2 (iH (eO 3) (iH (eO 4) lK))) rfl nd (p9 rfl T3.en (aB (pv 1) aC)) (dc (N:=["structure","nodes","leaves","point","node","lesser","greater"]) (sc:=aQ nJ) (by decide+kernel))
    (fun _ _ _ _ _=>jJ rfl (dv (bN (i:=3) nd rfl (aJ rfl) (gQ rfl)) (dv (bN (i:=4) nd rfl (aJ rfl) (gQ rfl)) jI))) (fun _ _ _ _ _=>uK (cA (pc C1 hr (aB (pv 4) aC)))) (fun _ _ _ _ _=>pv 3)))
   (aI (aN (eS (own:=[("lesser",5),("greater",6)]) (g:=lL K 2 (iH (eO 5) (iH (eO 6) lK))) (te:=mn (cO (cE (ip K) (ax 2) (ax 5)) (cO (cE (ip K) (ax 2) (ax 6)) cK))) rfl nd (c6 (d4 R.cl M1 hr (pv 0))) (dc (N:=["structure","nodes","leaves","point","node","lesser","greater"]) (sc:=aQ nJ) (by decide+kernel))
    (fun _ _ _ _ _=>jJ rfl (dv (bN (i:=5) nd rfl (aJ rfl) (gQ rfl)) (dv (bN (i:=6) nd rfl (aJ rfl) (gQ rfl)) jI))) (fun _ _ _ _ _=>eR) (fun _ _ _ _ _=>eQ (aB (aa az (pv 2) (pv 5) (fun _ _=>rfl)) (aB (aa az (pv 2) (pv 6) (fun _ _=>rfl)) aC)))))),?_⟩
  have hpl:=hp.length
  have hsm:=h5.small
  have hsl:=sizeLine_eq
  refine⟨_,rfl,a,ws,rfl,aE.of ha,fun D1 hD1=>?_⟩
  refine AV (K:=K) (a:=a) (xs:=ws) (fun i H'=>aA H H'/\H' D1=some (.lst ((dA 0 ((aM (formulas n)).take i)).map vn))) ?_ ?_ ?_ ?_
  ·exact⟨aA.upd hD1,aF⟩
  ·rintro i H' _ ⟨s1,_⟩
   exact aE.of (s1 _ _ ha)
  ·rintro i v Tt H' hv hT ⟨s1,hz⟩
   obtain⟨nb,hn,hxn⟩:=bw hp hv
   have hil:i<ws.length:=(bC.mp hv).1
   have sT:aA H' (upd H' Tt (.tup [.int (i:Nat),v])):=aA.upd hT
   have hTt:aW K (upd H' Tt (.tup [.int (i:Nat),v])) Tt [.int (i:Nat),v]:=aW.of aF
   refine⟨Tt,_,rfl,hTt,rfl,_,_,rfl,_,_,rfl,rfl,rfl,?_⟩
   generalize upd H' Tt (.tup [.int (i:Nat),v])=H2 at sT
   have es:=MGr.y9 nb ((aM (formulas n)).take i) 0
   rw[<-take_snoc hn,cM,jC (by omega),Nat.zero_add] at es
   refine⟨_,rfl,v,nb,rfl,(hxn.same s1).same sT,_,rfl,?_⟩
   refine aU (fun e=>?_) (fun e=>?_)
   ·refine⟨_,rfl,_,sT _ _ hz,?_,aA.upd2 (s1.trans sT) hD1,?_⟩
    ·rw[aL,MGr.tL]
     have:=oC bP ((aM (formulas n)).take i)
     rw[cM] at this
     omega
    ·rw[aF,es,if_pos e,bO];rfl
   ·exact⟨s1.trans sT,by rw[es,if_neg e,d8];exact sT _ _ hz⟩
  ·rintro H1 ⟨s1,hz⟩
   rw[hpl,cQ] at hz
   refine⟨_,rfl,p,dx,_,rfl,s1 _ _ h1,lV _ _ _ rfl rfl rfl,p,n,rfl,hS.same s1,fun lb zs H3 s3 hlbn hlb hzp=>⟨lb,rfl,⟨_,aE.of hlb⟩,fun D2 hD2=>?_⟩⟩
   have llt:=w8 (qj h5.lnk)
   have lll:=lU n.to
   have h120:=h5.l120
   have hll:=h5.leaves
   have hzl:=hzp.length
   have hz3:=s3 _ _ hz
   refine fT (K:=K) (a:=lb) (xs:=zs) (fun i H'=>aA H3 H'/\∃ys,H' D2=some (.lst ys)/\Paired (bj K H') ys ((linkEdges (points n) n.to).take i)) ?_ ?_ ?_ ?_
   ·exact⟨aA.upd hD2,[],aF,.nil⟩
   ·rintro i H' _ ⟨s4,_⟩
    exact aE.of (s4 _ _ hlb)
   ·rintro i v H' hv ⟨s4,ys,hy,hyp⟩
    obtain⟨lx,hlx,va,rfl,hva⟩:=bw hzp hv
    have hil:i<zs.length:=(bC.mp hv).1
    have hx:=llt lx (cv hlx)
    have hyl:=hyp.length
    rw[cM] at hyl
    have hle:(linkEdges (points n) n.to)[i]? =some ((dA 0 (aM (formulas n))).getD lx.1 0,(dA 0 (aM (formulas n))).getD lx.2 0):=by
     rw[nY n h5.good,bo,hlx];rfl
    have hz4:=s4 _ _ hz3
    refine⟨va,_,rfl,aA.tup s4 hva,rfl,_,_,rfl,_,_,rfl,rfl,rfl,_,rfl,_,rfl,D1,_,_,_,rfl,rfl,aE.of hz4,ah (qo (by omega)),_,rfl,_,rfl,D1,_,_,_,rfl,rfl,aE.of hz4,ah (qo (by omega)),(by show 2<=sizeLine;decide),fun T hT=>?_⟩
    have sT:=aA.upd (o:=.tup [vn ((dA 0 (aM (formulas n))).getD lx.1 0),vn ((dA 0 (aM (formulas n))).getD lx.2 0)]) hT
    have hy2:=sT _ _ hy
    refine⟨ys,hy2,by omega,aA.upd2 (s4.trans sT) hD2,_,aF,?_⟩
    rw[take_snoc hle]
    exact Paired.snoc (Paired.mono (fun _ _ q=>(q.same sT).upd hy2) hyp) (bj.upd ⟨T,rfl,aW.of aF⟩ hy2)
   ·rintro H4 ⟨s4,ys,hy,hyp⟩
    have:(linkEdges (points n) n.to).length=zs.length:=by rw[nY n h5.good,aL,hzl]
    rw[<-this,cQ] at hyp
    exact k D2 ys H4 ((s1.trans s3).trans s4) ((s1.trans s3).free hD2) hy hyp
end
open Vanetc (Net formulas rootsFrom Edge Par inPairs cutEdges linkEdges leafPoints pointsFrom points tensorEdges pars edges parEdges)
structure GC (K:aD) (C:Addr):Prop where
 cl:eP K C
 n1:dk K C "points"
 n2:dk K C "edges"
 n3:dk K C "pars"
def gf(x y z:V):List (Str×V):=[("points",x),("edges",y),("pars",z)]
theorem wd(x y z:V):(gf x y z).lookup ("points":Str)=some x:=rfl
theorem we(x y z:V):(gf x y z).lookup ("edges":Str)=some y:=rfl
theorem k5(x y z:V):(gf x y z).lookup ("pars":Str)=some z:=rfl
theorem Jg(x y z:V){m:Str}(h1:(m==("points":Str))=false)(h2:(m==("edges":Str))=false)(h3:(m==("pars":Str))=false):(gf x y z).lookup m=none:=by
 unfold gf
 rw[dt,h1,dt,h2,dt,h3];rfl
def fD(s:Net):List Edge:=(linkEdges (points s) s.to++cutEdges s)++tensorEdges (points s)
theorem wg(s:Net):(edges s).Perm (fD s):=List.perm_append_comm
structure jt (K:aD) (C:Addr) (H:Hp) (g:Addr) (n:Nat) (es:List Edge) (ps:List Par):Prop where
 ex:∃dx b c zs ys,H g=some (.ins C dx (gf (vn n) (.ref b) (.ref c)))/\H b=some (.lst zs)/\Paired (bj K H) zs es/\H c=some (.lst ys)/\Paired (cZ K H) ys ps
theorem jt.same{K:aD}{C:Addr}{H H':Hp}{g:Addr}{n:Nat}{es:List Edge}{ps:List Par}(h:jt K C H g n es ps)(e:aA H H'):jt K C H' g n es ps:=by
 obtain⟨dx,b,c,zs,ys,h1,h2,h3,h4,h5⟩:=h.ex
 exact⟨dx,b,c,zs,ys,e _ _ h1,e _ _ h2,Paired.mono (fun _ _ q=>q.same e) h3,e _ _ h4,Paired.mono (fun _ _ q=>q.same e) h5⟩
theorem wj(s:Net)(h:(formulas s).all good=true):pars s=iD (aM (formulas s)) (fk 0 (formulas s)):=by
 rw[<-MGr.F0 h];rfl
theorem nZ{s:Net}(h:(formulas s).all good=true):(points s).length=(aM (formulas s)).length:=MGr.tG h 0
theorem Jh{l:List (List UInt8)}{i:Nat}{n:List UInt8}(h:l[i]? =some n):l.getD i []=n:=by rw[d9,h];rfl
theorem wk{fs:List Formula}(h:fs.all good=true):∀x∈fk 0 fs,x.1<(aM fs).length/\x.2.1<(aM fs).length/\x.2.2<(aM fs).length:=fun x hx=>by
 unfold fk at hx
 obtain⟨⟨i,p⟩,hm,e⟩:=rX.mp hx
 obtain⟨_,n,hn,hk⟩:=MGr.tK h 0 i p hm
 have hi:=(bC.mp hn).1
 cases p with
 |leaf=>cases e
 |tensor l r=>
  cases e
  obtain⟨_,_,q1,_,q2⟩:=hk
  exact⟨by simpa using hi,by show l<_;omega,by show r<_;omega⟩
 |par l r=>
  cases e
  obtain⟨_,_,q1,_,q2⟩:=hk
  exact⟨by simpa using hi,by show l<_;omega,by show r<_;omega⟩
section
variable{P:Program}{w:World}{K:aD}{mg:Str->Option Value}{base:Heap}{C CG:Addr}
def wm(C:Addr):Sp:=fun vs H Q _=>∃p dx x y z,vs=[.ref p,x,y,z]/\H p=some (.ins C dx [])/\∀H',H' p=some (.ins C dx (gf x y z))->(∀b o,H b=some o->b≠p->H' b=some o)->Q .non H'
theorem Ji:aZ ["self","points","edges","pars"] ["self","points","edges","pars"] (aQ ug):=fS
theorem Jj{fI:Addr}{fd:FuncData}(F:fV K "__init__" "Graph.__init__" ug fI fd)(R:GC K CG):dB P w K mg base eT 1 fI fd ["self","points","edges","pars"] (wm CG):=by
 refine F.ok Ji (fun vs H Q E h=>?_) (fun cdv A outer s H vs Q E hr h=>?_)
 ·obtain⟨_,_,_,_,_,rfl,_⟩:=h
  rfl
 ·obtain⟨p,dx,x,y,z,rfl,hp,k⟩:=h
  refine⟨_,aG (dY (pv 0) (pv 1) rfl) (aG (dY (pv 0) (pv 2) rfl) (aI (dY (pv 0) (pv 3) rfl))),?_⟩
  refine⟨_,rfl,_,rfl,p,CG,dx,_,rfl,hp,R.cl,R.n1,(by show 0<1000;decide),?_⟩
  refine⟨_,rfl,_,rfl,p,CG,dx,_,rfl,aF,R.cl,R.n2,(by show 1<1000;decide),?_⟩
  refine⟨_,rfl,_,rfl,p,CG,dx,_,rfl,aF,R.cl,R.n3,(by show 2<1000;decide),?_⟩
  refine k _ (aF.trans rfl) fun b o e hb=>?_
  rw[aP hb,aP hb,aP hb];exact e
def Bm(K:aD)(CG:Addr):Sp:=fun vs H Q _=>∃g n es ps a w,vs=[.ref g,.ref a]/\jt K CG H g n es ps/\aE K H a (w.map fun b:Bool=>V.int (if b then 1 else 0))/\w.length=ps.length/\ps.length<=100000/\∀b zs H',aA H H'->H b=none->H' b=some (.lst zs)->Paired (bj K H') zs (parEdges ps w)->Q (.ref b) H'
theorem Bn:aZ ["self","switching","par","side"] ["self","switching"] (aQ qL):=fS
theorem Jk(D:bZ K CG "par_edges" "Graph.par_edges" qL)(R:GC K CG)(hzip:mg "zip"=none):bE P w K mg base CG "par_edges" 1 ["self","switching"] (Bm K CG):=by
 refine D.cal Bn (fun vs H Q E h=>?_) (fun fa cdv A outer s H vs Q E hr h=>?_)
 ·obtain⟨_,_,_,_,_,_,rfl,_⟩:=h
  rfl
 ·obtain⟨g,n,es,ps,a,wl,rfl,hG,ha,hwl,hpsl,k⟩:=h
  obtain⟨dx,b,c,zs,ys,h1,h2,h3,h4,h5⟩:=hG.ex
  have nd:=Bn.nd
  refine⟨_,aI (aN (eS (own:=[("par",2),("side",3)]) (g:=lL K 2 (iH (eO 2) (iH (eO 3) lK))) (te:=mn (cO (cE (mv K) (ax 2) (tC (.int 0))) (cO (cE (mv K) (ax 2) (cE (e8 fun i j=>.int (i+j)) (tC (.int 1)) (ax 3))) cK))) rfl nd (HL rfl hzip (aB (aX (pv 0) rfl) (aB (pv 1) aC))) (dc (N:=["self","switching","par","side"]) (sc:=aQ qL) (by decide+kernel))
   (fun _ _ _ _ _=>jJ rfl (dv (bN (i:=2) nd rfl (aJ rfl) (gQ rfl)) (dv (bN (i:=3) nd rfl (aJ rfl) (gQ rfl)) jI))) (fun _ _ _ _ _=>eR) (fun _ _ _ _ _=>eQ (aB (aa cX (pv 2) aR (fun _ _=>rfl)) (aB (aa cX (pv 2) (bH e9 aR (pv 3)) (fun _ _=>rfl)) aC))))),?_⟩
  have hyl:=h5.length
  refine⟨_,rfl,g,CG,dx,_,_,rfl,h1,R.cl,R.n3,k5 _ _ _,_,rfl,c,a,ys,_,rfl,aE.of h4,ha,fun D1 hD1=>?_⟩
  refine Hk (K:=K) (a:=c) (b:=a) (xs:=ys) (ys:=wl.map fun b:Bool=>V.int (if b then 1 else 0)) (by rw[aL];omega) (fun i H'=>aA H H'/\∃us,H' D1=some (.lst us)/\Paired (bj K H') us ((parEdges ps wl).take i)) ?_ ?_ ?_ ?_
  ·exact⟨aA.upd hD1,[],aF,.nil⟩
  ·rintro i H' _ ⟨s1,_⟩
   exact⟨aE.of (s1 _ _ h4),aA.seq s1 ha⟩
  ·rintro i v y Tt H' hv hy hT ⟨s1,us,hu,hup⟩
   obtain⟨px,hpx,va,rfl,hva⟩:=bw h5 hv
   have hil:i<ys.length:=(bC.mp hv).1
   rw[bo] at hy
   obtain⟨wb,hwb,rfl⟩:∃wb,wl[i]? =some wb/\V.int (if wb then 1 else 0)=y:=by
    cases q:wl[i]? with
    |none=>rw[q] at hy;cases hy
    |some wb=>rw[q] at hy;exact⟨wb,rfl,bL hy⟩
   have sT:aA H' (upd H' Tt (.tup [.ref va,V.int (if wb then 1 else 0)])):=aA.upd hT
   have hTt:aW K (upd H' Tt (.tup [.ref va,V.int (if wb then 1 else 0)])) Tt [.ref va,V.int (if wb then 1 else 0)]:=aW.of aF
   refine⟨Tt,_,rfl,hTt,rfl,_,_,rfl,_,_,rfl,rfl,rfl,?_⟩
   generalize upd H' Tt (.tup [.ref va,V.int (if wb then 1 else 0)])=H2 at sT
   have hva2:=aA.tup (s1.trans sT) hva
   have hpe:(parEdges ps wl)[i]? =some (px.1,if wb=true then px.2.2 else px.2.1):=by
    unfold parEdges
    rw[bo]
    have:(ps.zip wl)[i]? =some (px,wb):=by
     rw[Mh];exact⟨hpx,hwb⟩
    rw[this];rfl
   have hul:=hup.length
   rw[cM] at hul
   refine⟨_,rfl,va,_,_,_,rfl,rfl,hva2,ah (j:=0) rfl,_,rfl,_,rfl,_,_,rfl,rfl,?_⟩
   refine⟨va,_,_,vn (if wb=true then px.2.2 else px.2.1),rfl,rfl,hva2,?_,(by show 2<=sizeLine;decide),fun T hT2=>?_⟩
   ·cases wb
    ·exact at_of (j:=1) (by rfl) rfl
    ·exact at_of (j:=2) (by rfl) rfl
   have sT2:=aA.upd (o:=.tup [vn px.1,vn (if wb=true then px.2.2 else px.2.1)]) hT2
   have hu2:=(sT.trans sT2) _ _ hu
   refine⟨us,hu2,by rw[sizeLine_eq];omega,aA.upd2 ((s1.trans sT).trans sT2) hD1,_,aF,?_⟩
   rw[take_snoc hpe]
   exact Paired.snoc (Paired.mono (fun _ _ q=>(q.same (sT.trans sT2)).upd hu2) hup) (bj.upd ⟨T,rfl,aW.of aF⟩ hu2)
  ·rintro H1 ⟨s1,us,hu,hup⟩
   have:(parEdges ps wl).length=ys.length:=by
    unfold parEdges;rw[aL,rb];omega
   rw[<-this,cQ] at hup
   exact k D1 us H1 s1 hD1 hu hup
def n6(K:aD)(C CG:Addr):Sp:=fun vs H Q _=>∃p s,vs=[.ref p]/\cR K C H p s/\∀g H',aA H H'->H g=none->jt K CG H' g (points s).length (fD s) (pars s)->Q (.ref g) H'
theorem Bo:aZ ["structure","formulas","nodes","edges","pars","fork"] ["structure"] (aQ uj):=fS
theorem Jl(D:aO K mg "graph_of" uj)(R:SC K C)(T:cY K mg)(C1:aK P w K mg base "nodes_of" 1 ["formulas"] (qe K))(C2:aK P w K mg base "link_edges" 2 ["structure","nodes"] (Bk K C))(C3:aK P w K mg base "cut_edges" 2 ["structure","formulas"] (Bi K C))
  (C4:aK P w K mg base "forks" 2 ["nodes"] (Be K))(M1:bE P w K mg base C "formulas" 4 ["self"] (qk K C))(MG:eE P w K mg base "Graph" CG 1 ["self","points","edges","pars"] (wm CG)):aK P w K mg base "graph_of" 5 ["structure"] (n6 K C CG):=by
 refine D.cal Bo (fun vs H Q E h=>?_) (fun fa cdv A outer s H vs Q E hr h=>?_)
 ·obtain⟨_,_,rfl,_⟩:=h
  rfl
 ·obtain⟨p,n,rfl,hS,k⟩:=h
  obtain⟨⟨dx,x,y,c,h1,h2,h3,h4⟩,h5⟩:=id hS
  have nd:=Bo.nd
  have hr1:=hr.mono (show 1<=4 by decide)
  have hr2:=hr.mono (show 2<=4 by decide)
  refine⟨_,aG (aT (i:=1) nd rfl (aJ rfl) (d4 R.cl M1 hr (pv 0)))
   (aG (aT (i:=2) nd rfl (aJ rfl) (pc C1 hr1 (aB (pv 1) aC)))
   (aG (aT (i:=3) nd rfl (aJ rfl) (bH c8 (pc C2 hr2 (aB (pv 0) (aB (pv 2) aC))) (pc C3 hr2 (aB (pv 0) (aB (pv 1) aC)))))
   (aG (aT (i:=4) nd rfl (aJ rfl) (au aC))
   (aG (dy PassesOwn.never rfl (c6 (pc C4 hr2 (aB (pv 2) aC))) (bN (i:=5) nd rfl (aJ rfl))
    (aG (aj (ao (fM hr.units) (aa az (pv 2) (aa cX (pv 5) aR (fun _ _=>rfl)) (fun _ _=>rfl)) (bT T.tensor) (ak _))
     (aG (bV (cG bR cw cy c7 (pv 3) (aB (eQ (aB (aa cX (pv 5) aR (fun _ _=>rfl)) (aB (aa cX (pv 5) aR (fun _ _=>rfl)) aC))) aC)))
     (aI (bV (cG bR cw cy c7 (pv 3) (aB (eQ (aB (aa cX (pv 5) aR (fun _ _=>rfl)) (aB (aa cX (pv 5) aR (fun _ _=>rfl)) aC))) aC))))) ay)
    (aI (aj (ao (fM hr.units) (aa az (pv 2) (aa cX (pv 5) aR (fun _ _=>rfl)) (fun _ _=>rfl)) (bT T.par) (ak _))
     (aI (bV (cG bR cw cy c7 (pv 4) (aB (pv 5) aC)))) ay))))
   (aI (aN (pk MG hr2 (aB (bD bI (by rfl) T.len bM (aB (pv 2) aC)) (aB (pv 3) (aB (pv 4) aC)))))))))),?_⟩
  have hg:=h5.good
  have hsm:=h5.small
  have hsl:=sizeLine_eq
  have hlim:bz=1000000:=rfl
  refine⟨_,rfl,p,dx,_,rfl,h1,lV _ _ _ rfl rfl rfl,p,n,rfl,hS,fun v H1 s1 hv=>?_⟩
  refine⟨_,rfl,v,_,rfl,hv,by omega,fun a ws H2 s2 han ha hwp=>?_⟩
  have s02:=s1.trans s2
  refine⟨_,rfl,_,rfl,p,n,a,ws,rfl,hS.same s02,ha,hwp,fun b1 z1 H3 s3 hb1n hb1 hz1=>?_⟩
  have s03:=s02.trans s3
  refine⟨_,rfl,_,rfl,p,n,v,rfl,hS.same s03,(hv.same s2).same s3,fun b2 z2 H4 s4 hb2n hb2 hz2=>?_⟩
  have hz1l:=hz1.length
  have hz2l:=hz2.length
  have hll:(linkEdges (points n) n.to).length<=120:=by
   rw[nY n hg,aL];have:=lU n.to;have:=h5.l120;omega
  have hcl:(cutEdges n).length<=20:=by rw[qp,aL,cS];exact h5.d20
  refine⟨b1,b2,z1,z2,rfl,rfl,s4 _ _ hb1,hb2,by omega,fun d hd=>⟨bF _,fun d2 hd2=>?_⟩⟩
  have hd20:=gH hd2
  have d12:d≠d2:=by intro e;rw[e,aF] at hd2;cases hd2
  have s04:=s03.trans s4
  have hd0:=s04.free hd
  have hd200:=s04.free hd20
  have s5:aA H4 (upd (upd H4 d (.lst (z1++z2))) d2 (.lst [])):=(aA.upd hd).trans (aA.upd hd2)
  have he0:(upd (upd H4 d (.lst (z1++z2))) d2 (.lst [])) d=some (.lst (z1++z2)):=by rw[aP d12,aF]
  have hp0:(upd (upd H4 d (.lst (z1++z2))) d2 (.lst [])) d2=some (.lst []):=aF
  have hze:Paired (bj K (upd (upd H4 d (.lst (z1++z2))) d2 (.lst []))) (z1++z2) (linkEdges (points n) n.to++cutEdges n):=iR (Paired.mono (fun _ _ q=>(q.same s4).same s5) hz1) (Paired.mono (fun _ _ q=>q.same s5) hz2)
  generalize upd (upd H4 d (.lst (z1++z2))) d2 (.lst [])=H5 at s5 he0 hp0 hze⊢
  have s25:=(s3.trans s4).trans s5
  refine⟨_,rfl,a,ws,formulas n,rfl,s25 _ _ ha,eC hwp s25,hg,by omega,fun fb zf H6 s6 hfbn hfb hzf=>?_⟩
  have s26:=s25.trans s6
  have flt:=wk hg
  have fll:=w9 0 (formulas n) hg
  have hzfl:=hzf.length
  have hwpl:=hwp.length
  have fbd:fb≠d:=(ae he0 hfbn).symm
  have fbd2:fb≠d2:=(ae hp0 hfbn).symm
  refine⟨fb,rfl,⟨_,aE.of hfb⟩,gY (K:=K) (a:=fb) (xs:=zf) (fun i σ H'=>∃(x1:Option V) (ze zp:List V),σ=[some (.ref p),some v,some (.ref a),some (.ref d),some (.ref d2),x1]/\(∀q o,q≠d->q≠d2->H6 q=some o->H' q=some o)/\H' d=some (.lst ze)/\Paired (bj K H') ze ((linkEdges (points n) n.to++cutEdges n)++gW (aM (formulas n)) ((fk 0 (formulas n)).take i))/\H' d2=some (.lst zp)/\Paired (cZ K H') zp (iD (aM (formulas n)) ((fk 0 (formulas n)).take i))/\ze.length<=140+2*i/\zp.length<=i)
   ⟨none,z1++z2,[],rfl,fun _ _ _ _ h=>h,s6 _ _ he0,?_,s6 _ _ hp0,.nil,by rw[aS];omega,aY _⟩ (fun i σ H' _ ⟨_,_,_,_,q,_⟩=>aE.of (q _ _ fbd fbd2 hfb)) ?_ ?_⟩
  ·show Paired _ _ ((linkEdges (points n) n.to++cutEdges n)++[])
   rw[d8]
   exact Paired.mono (fun _ _ q=>q.same s6) hze
  ·rintro i fv σ H' hi ⟨x1,ze,zp,rfl,sx,hd1,hzep,hd21,hzpp,hzel,hzpl⟩
   obtain⟨fx,hfx,fa',rfl,hfa⟩:=bw hzf hi
   have hil:i<zf.length:=(bC.mp hi).1
   have hfl:=flt fx (cv hfx)
   have tupS:∀{t:Addr} {xs:List V},aW K H6 t xs->aW K H' t xs:=fun{t xs} q=>by
    rcases q with(q|⟨o,q⟩)|q
    ·exact .inl (.inl (sx _ _ (dG q (s6 _ _ he0) (by intro e;cases e)) (dG q (s6 _ _ hp0) (by intro e;cases e)) q))
    ·exact .inl (.inr ⟨o,sx _ _ (dG q (s6 _ _ he0) (by intro e;cases e)) (dG q (s6 _ _ hp0) (by intro e;cases e)) q⟩)
    ·exact .inr q
   have hfa':=tupS hfa
   have had:a≠d:=ae ((s3.trans s4) _ _ ha) hd
   have had2:a≠d2:=ae ((s3.trans s4) _ _ ha) hd20
   have ha':=sx _ _ had had2 (s26 _ _ ha)
   have hwx:ws[fx.1]? =some ws[fx.1]:=bU (by omega)
   obtain⟨nb,hnb,hN⟩:=bw hwp hwx
   have hN':ai K H' ws[fx.1] nb:=by
    obtain⟨t,et,ht⟩:=hN.same s26
    exact⟨t,et,tupS ht⟩
   have egd:=Jh hnb
   have ete:gW (aM (formulas n)) ((fk 0 (formulas n)).take (i+1))=gW (aM (formulas n)) ((fk 0 (formulas n)).take i)++(if nb=[42] then[(fx.1,fx.2.1),(fx.1,fx.2.2)] else[]):=by
    unfold gW
    rw[take_snoc hfx,ff,kh,M9,d8,egd]
   have epa:iD (aM (formulas n)) ((fk 0 (formulas n)).take (i+1))=iD (aM (formulas n)) ((fk 0 (formulas n)).take i)++(if nb=[124] then[fx] else[]):=by
    unfold iD
    rw[take_snoc hfx,rQ,jz,List.filter_nil,egd]
    congr 1
    by_cases q:nb=[124]
    ·rw[if_pos q,if_pos (decide_eq_true q)]
    ·rw[if_neg q,if_neg (by simpa using q)]
   have second:∀(ze':List V) (H7:Hp),(∀q o,q≠d->q≠d2->H6 q=some o->H7 q=some o)->H7 a=some (.lst ws)->aW K H7 fa' [vn fx.1,vn fx.2.1,vn fx.2.2]->ai K H7 ws[fx.1] nb->H7 d=some (.lst ze')->Paired (bj K H7) ze' ((linkEdges (points n) n.to++cutEdges n)++gW (aM (formulas n)) ((fk 0 (formulas n)).take (i+1)))->H7 d2=some (.lst zp)->Paired (cZ K H7) zp (iD (aM (formulas n)) ((fk 0 (formulas n)).take i))->ze'.length<=140+2*(i+1)->
     tT (kO (cE (uB K) (cE (ip K) (ax 2) (cE (mv K) (ax 5) (tC (.int 0)))) (AN K [124]))) (jH (jg K "list" jh (ax 4) (cO (ax 5) cK))) tS {nx:=fun σ H'=>∃(x1:Option V) (ze zp:List V),σ=[some (.ref p),some v,some (.ref a),some (.ref d),some (.ref d2),x1]/\(∀q o,q≠d->q≠d2->H6 q=some o->H' q=some o)/\H' d=some (.lst ze)/\Paired (bj K H') ze ((linkEdges (points n) n.to++cutEdges n)++gW (aM (formulas n)) ((fk 0 (formulas n)).take (i+1)))/\H' d2=some (.lst zp)/\Paired (cZ K H') zp (iD (aM (formulas n)) ((fk 0 (formulas n)).take (i+1)))/\ze.length<=140+2*(i+1)/\zp.length<=i+1,rt:=Q} [some (.ref p),some v,some (.ref a),some (.ref d),some (.ref d2),some (.ref fa')] H7:=fun ze' H7 q1 q2 q3 q4 q5 q6 q7 q8 q9=>by
    refine⟨_,rfl,_,rfl,fa',_,_,_,rfl,rfl,q3,ah (j:=0) rfl,a,_,_,_,rfl,rfl,aE.of q2,ah hwx,fun c2 hc2=>fX q4 (hc2 H7) ⟨_,rfl,?_⟩⟩
    refine aU (fun e=>?_) (fun e=>?_)
    ·have e:=of_decide_eq_true e
     refine⟨_,rfl,.inl ⟨rfl,_,aE.of q7⟩,_,rfl,d2,_,_,rfl,rfl,q7,by omega,?_⟩
     refine⟨_,ze',zp++[.ref fa'],rfl,fun q o z1 z2 z3=>by rw[aP z2];exact q1 q o z1 z2 z3,by rw[aP d12];exact q5,Paired.mono (fun _ _ z=>z.upd q7) q6,aF,?_,q9,by rw[aS];show zp.length+1<=i+1;omega⟩
     rw[epa,if_pos e]
     exact Paired.snoc (Paired.mono (fun _ _ z=>z.upd q7) q8) (cZ.upd ⟨fa',rfl,q3⟩ q7)
    ·have e:¬nb=[124]:=fun z=>e (decide_eq_true z)
     exact⟨_,ze',zp,rfl,q1,q5,q6,q7,by rw[epa,if_neg e,d8];exact q8,q9,by omega⟩
   refine⟨_,rfl,_,rfl,fa',_,_,_,rfl,rfl,hfa',ah (j:=0) rfl,a,_,_,_,rfl,rfl,aE.of ha',ah hwx,fun c1 hc1=>fX hN' (hc1 H') ⟨_,rfl,?_⟩⟩
   refine aU (fun e=>?_) (fun e=>?_)
   ·have e:=of_decide_eq_true e
    refine⟨_,rfl,.inl ⟨rfl,_,aE.of hd1⟩,_,rfl,fa',_,_,_,rfl,rfl,hfa',ah (j:=0) rfl,_,rfl,fa',_,_,_,rfl,rfl,hfa',ah (j:=1) rfl,(by show 2<=sizeLine;decide),fun T1 hT1=>?_⟩
    have sT1:aA H' (upd H' T1 (.tup [vn fx.1,vn fx.2.1])):=aA.upd hT1
    have hTt1:aW K (upd H' T1 (.tup [vn fx.1,vn fx.2.1])) T1 [vn fx.1,vn fx.2.1]:=aW.of aF
    generalize upd H' T1 (.tup [vn fx.1,vn fx.2.1])=H7 at sT1 hTt1⊢
    have hd7:=sT1 _ _ hd1
    refine⟨d,_,_,rfl,rfl,hd7,by omega,?_⟩
    have hfa8:=aW.upd (zs:=ze++[.ref T1]) (aA.tup sT1 hfa') hd7
    have hd8:(upd H7 d (.lst (ze++[.ref T1]))) d=some (.lst (ze++[.ref T1])):=aF
    have hTt8:=aW.upd (zs:=ze++[.ref T1]) hTt1 hd7
    have k8:∀q o,q≠d->H' q=some o->(upd H7 d (.lst (ze++[.ref T1]))) q=some o:=fun q o z1 z2=>by rw[aP z1];exact sT1 _ _ z2
    have hN8:=(hN'.same sT1).upd (zs:=ze++[.ref T1]) hd7
    have hze8:Paired (bj K (upd H7 d (.lst (ze++[.ref T1])))) ze _:=Paired.mono (fun _ _ z=>(z.same sT1).upd hd7) hzep
    have hzp8:Paired (cZ K (upd H7 d (.lst (ze++[.ref T1])))) zp _:=Paired.mono (fun _ _ z=>(z.same sT1).upd hd7) hzpp
    generalize upd H7 d (.lst (ze++[.ref T1]))=H8 at hfa8 hd8 hTt8 k8 hN8 hze8 hzp8⊢
    refine⟨_,rfl,.inl ⟨rfl,_,aE.of hd8⟩,_,rfl,fa',_,_,_,rfl,rfl,hfa8,ah (j:=0) rfl,_,rfl,fa',_,_,_,rfl,rfl,hfa8,ah (j:=2) rfl,(by show 2<=sizeLine;decide),fun T2 hT2=>?_⟩
    have sT2:aA H8 (upd H8 T2 (.tup [vn fx.1,vn fx.2.2])):=aA.upd hT2
    have hTt2:aW K (upd H8 T2 (.tup [vn fx.1,vn fx.2.2])) T2 [vn fx.1,vn fx.2.2]:=aW.of aF
    generalize upd H8 T2 (.tup [vn fx.1,vn fx.2.2])=H9 at sT2 hTt2⊢
    have hd9:=sT2 _ _ hd8
    refine⟨d,_,_,rfl,rfl,hd9,by rw[aS];show ze.length+1<_;omega,?_⟩
    refine second (ze++[.ref T1]++[.ref T2]) _ (fun q o z1 z2 z3=>by rw[aP z1];exact sT2 _ _ (k8 _ _ z1 (sx q o z1 z2 z3))) (by rw[aP had];exact sT2 _ _ (k8 _ _ had ha')) (aW.upd (aA.tup sT2 hfa8) hd9) ((hN8.same sT2).upd hd9) aF ?_ (by rw[aP d12.symm];exact sT2 _ _ (k8 _ _ d12.symm hd21)) (Paired.mono (fun _ _ z=>(z.same sT2).upd hd9) hzp8) (by simp only[aS,aV,jU];omega)
    rw[ete,if_pos e,show∀(u w:List Edge) (a b:Edge),u++(w++[a,b])=((u++w)++[a])++[b] by simp]
    exact Paired.snoc (Paired.snoc (Paired.mono (fun _ _ z=>(z.same sT2).upd hd9) hze8) (bj.upd ⟨T1,rfl,aA.tup sT2 hTt8⟩ hd9)) (bj.upd ⟨T2,rfl,hTt2⟩ hd9)
   ·have e:¬nb=[42]:=fun z=>e (decide_eq_true z)
    exact second ze H' sx ha' hfa' hN' hd1 (by rw[ete,if_neg e,d8];exact hzep) hd21 hzpp (by omega)
  ·rintro σ H' ⟨x1,ze,zp,rfl,sx,hd1,hzep,hd21,hzpp,hzel,hzpl⟩
   rw[hzfl,cQ,<-MGr.tM hg] at hzep
   rw[hzfl,cQ,<-wj n hg] at hzpp
   have had:a≠d:=ae ((s3.trans s4) _ _ ha) hd
   have had2:a≠d2:=ae ((s3.trans s4) _ _ ha) hd20
   have ha':=sx _ _ had had2 (s26 _ _ ha)
   have sF:aA H H':=fun q o ho=>sx _ _ (ae ho hd0) (ae ho hd200) (s26 _ _ (s02 _ _ ho))
   refine⟨_,rfl,a,ws,rfl,.inl (aE.of ha'),_,rfl,_,rfl,fun g dx' hgn hdxn hne=>?_⟩
   refine⟨g,dx',_,_,_,rfl,aF,fun H7 hg7 k7=>⟨rfl,?_⟩⟩
   have s7:aA H' H7:=fun q o ho=>k7 q o (by rw[aP (ae ho hgn),aP (ae ho hdxn)];exact ho) (ae ho hgn)
   refine k g H7 (sF.trans s7) (sF.free hgn) ⟨dx',d,d2,ze,zp,?_,s7 _ _ hd1,Paired.mono (fun _ _ z=>z.same s7) hzep,s7 _ _ hd21,Paired.mono (fun _ _ z=>z.same s7) hzpp⟩
   rw[hg7,hwpl,nZ hg];rfl
end
open Vanetc (Parts join together countParts takeEdges Edge Par)
open MG (lb Uf Tells)
structure KC (K:aD) (C:Addr):Prop where
 cl:eP K C
 n1:dk K C "leads"
 n2:dk K C "parts"
def cf(x y:V):List (Str×V):=[("leads",x),("parts",y)]
theorem k6(x y:V):(cf x y).lookup ("leads":Str)=some x:=rfl
theorem n8(x y:V):(cf x y).lookup ("parts":Str)=some y:=rfl
theorem iT(x y:V){m:Str}(h1:(m==("leads":Str))=false)(h2:(m==("parts":Str))=false):(cf x y).lookup m=none:=by
 unfold cf
 rw[dt,h1,dt,h2];rfl
def Fa(a:Addr)(H H':Hp):Prop:=∀b,b≠a->H' b=H b
def Fq(q a:Addr)(H H':Hp):Prop:=∀b,b≠q->b≠a->H' b=H b
theorem Fa.refl(a:Addr)(H:Hp):Fa a H H:=fun _ _=>rfl
theorem Fa.trans{a:Addr}{H H1 H2:Hp}(x:Fa a H H1)(y:Fa a H1 H2):Fa a H H2:=fun b h=>(y b h).trans (x b h)
theorem Fa.upd{a:Addr}{H:Hp}{o:HO}:Fa a H (L2.upd H a o):=fun b h=>aP h
theorem Fq.refl(q a:Addr)(H:Hp):Fq q a H H:=fun _ _ _=>rfl
theorem Fq.trans{q a:Addr}{H H1 H2:Hp}(x:Fq q a H H1)(y:Fq q a H1 H2):Fq q a H H2:=fun b h h'=>(y b h h').trans (x b h h')
theorem Fa.fq{q a:Addr}{H H1:Hp}(x:Fa a H H1):Fq q a H H1:=fun b _ h=>x b h
structure CL (C q a dx:Addr) (H:Hp) (l:List Nat) (rt rk:Nat->Nat) (c:Parts):Prop where
 ins:H q=some (.ins C dx (cf (.ref a) (vn (countParts c))))
 lst:H a=some (.lst (l.map vn))
 uf:Uf l rt rk
 tells:Tells l rt c
 small:l.length<=100000
theorem CL.qa{C q a dx:Addr}{H:Hp}{l:List Nat}{rt rk:Nat->Nat}{c:Parts}(h:CL C q a dx H l rt rk c):q≠a:=dG h.ins h.lst (by intro e;cases e)
theorem CL.len{C q a dx:Addr}{H:Hp}{l:List Nat}{rt rk:Nat->Nat}{c:Parts}(h:CL C q a dx H l rt rk c):c.length=l.length:=h.tells.len
theorem CL.same{C q a dx:Addr}{H H':Hp}{l:List Nat}{rt rk:Nat->Nat}{c:Parts}(h:CL C q a dx H l rt rk c)(e:aA H H'):CL C q a dx H' l rt rk c:=⟨e _ _ h.ins,e _ _ h.lst,h.uf,h.tells,h.small⟩
theorem qr{l:List Nat}{j:Nat}(h:j<l.length):(l.map vn)[j]? =some (vn (lb l j)):=by
 rw[bo]
 show(l[j]?).map vn=some (vn (l.getD j 0))
 rw[d9,bU h];rfl
theorem n9{a b:Nat}:decide (vn a=vn b)=decide (a=b):=by
 rw[ck,decide_eq_true_iff,decide_eq_true_iff]
 constructor
 ·intro h
  have:(a:Int)=(b:Int):=V.int.inj h
  omega
 ·rintro rfl;rfl
theorem k9{n j:Nat}(h:j<n):fK n (j:Int)=some j:=by
 unfold fK
 rw[if_pos (by omega),if_pos (by omega)]
 rfl
theorem ka{l:List Nat}{i v:Nat}:(l.map vn).set i (vn v)=(l.set i v).map vn:=by
 rw[EF]
section
variable{P:Program}{w:World}{K:aD}{mg:Str->Option Value}{base:Heap}{C CK:Addr}
def qt(C:Addr):Sp:=fun vs H Q _=>∃p dx x y,vs=[.ref p,x,y]/\H p=some (.ins C dx [])/\∀H',H' p=some (.ins C dx (cf x y))->(∀b o,H b=some o->b≠p->H' b=some o)->Q .non H'
theorem Jm:aZ ["self","leads","parts"] ["self","leads","parts"] (aQ uk):=fS
theorem Jn{fI:Addr}{fd:FuncData}(F:fV K "__init__" "Clusters.__init__" uk fI fd)(R:KC K CK):dB P w K mg base eT 1 fI fd ["self","leads","parts"] (qt CK):=by
 refine F.ok Jm (fun vs H Q E h=>?_) (fun cdv A outer s H vs Q E hr h=>?_)
 ·obtain⟨_,_,_,_,rfl,_⟩:=h
  rfl
 ·obtain⟨p,dx,x,y,rfl,hp,k⟩:=h
  refine⟨_,aG (dY (pv 0) (pv 1) rfl) (aI (dY (pv 0) (pv 2) rfl)),?_⟩
  refine⟨_,rfl,_,rfl,p,CK,dx,_,rfl,hp,R.cl,R.n1,(by show 0<1000;decide),?_⟩
  refine⟨_,rfl,_,rfl,p,CK,dx,_,rfl,aF,R.cl,R.n2,(by show 1<1000;decide),?_⟩
  refine k _ (aF.trans rfl) fun b o e hb=>?_
  rw[aP hb,aP hb];exact e
def wo(C:Addr):Sp:=fun vs H Q _=>∃q a dx l rt rk c p,vs=[.ref q,vn p]/\CL C q a dx H l rt rk c/\p<l.length/\∀l' H',l'.length=l.length->Fa a H H'->CL C q a dx H' l' rt rk c->Q (vn (rt p)) H'
theorem Bp:aZ ["self","point"] ["self","point"] (aQ um):=fS
theorem Jo(D:bZ K CK "leader" "Clusters.leader" um)(R:KC K CK):bE P w K mg base CK "leader" 1 ["self","point"] (wo CK):=by
 refine D.cal Bp (fun vs H Q E h=>?_) (fun fa cdv A outer s H vs Q E hr h=>?_)
 ·obtain⟨_,_,_,_,_,_,_,_,rfl,_⟩:=h
  rfl
 ·obtain⟨q,a,dx,l,rt,rk,c,p,rfl,hC,hp,k⟩:=h
  have nd:=Bp.nd
  refine⟨_,aG (iI PassesOwn.never (ao mh (aa az (aX (pv 0) rfl) (pv 1) (fun _ _=>rfl)) (pv 1) (ak _))
    (aG (jL (aa az (aX (pv 0) rfl) (aa az (aX (pv 0) rfl) (pv 1) (fun _ _=>rfl)) (fun _ _=>rfl)) (jK (aX (pv 0) rfl) (pv 1) set_list))
    (aI (aT (i:=1) nd rfl (aJ rfl) (aa az (aX (pv 0) rfl) (pv 1) (fun _ _=>rfl))))))
   (aI (aN (pv 1))),?_⟩
  refine⟨fun m σ H'=>∃p' l',m=rk p'/\σ=[some (.ref q),some (vn p')]/\p'<l.length/\rt p'=rt p/\l'.length=l.length/\Fa a H H'/\CL CK q a dx H' l' rt rk c,
   ⟨_,p,l,rfl,rfl,hp,rfl,rfl,Fa.refl _ _,hC⟩,?_⟩
  rintro m σ H' ⟨p',l',rfl,rfl,hp',hrt,hl',hF,hC'⟩
  have hpl:p'<l'.length:=by omega
  have s1:=hC'.uf.step p' hpl
  refine⟨_,rfl,q,CK,dx,_,_,rfl,hC'.ins,R.cl,R.n1,k6 _ _,_,rfl,a,_,(p':Int),vn (lb l' p'),rfl,rfl,aE.of hC'.lst,ah (qr hpl),?_⟩
  refine⟨_,rfl,rfl,_,rfl,?_⟩
  rw[n9]
  refine aU (fun e=>?_) (fun e=>?_)
  ·have e:lb l' p'≠p':=by simpa using e
   refine⟨fun σ' H3=>∃m',m'<rk p'/\∃p'' l'',m'=rk p''/\σ'=[some (.ref q),some (vn p'')]/\p''<l.length/\rt p''=rt p/\l''.length=l.length/\Fa a H H3/\CL CK q a dx H3 l'' rt rk c,fun _ _ h=>h,?_⟩
   have s2:=hC'.uf.step _ s1.1
   have hne:=hC'.qa
   refine⟨_,rfl,q,CK,dx,_,_,rfl,hC'.ins,R.cl,R.n1,k6 _ _,_,rfl,q,CK,dx,_,_,rfl,hC'.ins,R.cl,R.n1,k6 _ _,_,rfl,a,_,(p':Int),vn (lb l' p'),rfl,rfl,aE.of hC'.lst,ah (qr hpl),?_⟩
   refine⟨a,_,((lb l' p':Nat):Int),vn (lb l' (lb l' p')),rfl,rfl,aE.of hC'.lst,ah (qr s1.1),?_⟩
   refine⟨_,rfl,q,CK,dx,_,_,rfl,hC'.ins,R.cl,R.n1,k6 _ _,_,rfl,a,_,(p':Int),p',rfl,rfl,hC'.lst,k9 (by rw[aL];exact hpl),?_⟩
   rw[ka]
   have hC2:CL CK q a dx (L2.upd H' a (.lst ((l'.set p' (lb l' (lb l' p'))).map vn))) (l'.set p' (lb l' (lb l' p'))) rt rk c:=
    ⟨by rw[aP hne];exact hC'.ins,aF,hC'.uf.halve hpl e,hC'.tells.set,by rw[cP];exact hC'.small⟩
   have hpl2:p'<(l'.set p' (lb l' (lb l' p'))).length:=by rw[cP];exact hpl
   have r1:=hC'.uf.rank p' hpl e
   refine⟨_,rfl,q,CK,dx,_,_,rfl,hC2.ins,R.cl,R.n1,k6 _ _,_,rfl,a,_,(p':Int),vn (lb (l'.set p' (lb l' (lb l' p'))) p'),rfl,rfl,aE.of hC2.lst,ah (qr hpl2),?_⟩
   rw[MG.i7 hpl,if_pos rfl]
   refine⟨rk (lb l' (lb l' p')),?_,lb l' (lb l' p'),_,rfl,rfl,by omega,by rw[s2.2,s1.2,hrt],by rw[cP];exact hl',hF.trans Fa.upd,hC2⟩
   by_cases h:lb l' (lb l' p')=lb l' p'
   ·rw[h];exact r1
   ·exact Nat.lt_trans (hC'.uf.rank _ s1.1 h) r1
  ·have e:lb l' p'=p':=by simpa using e
   have e2:=hC'.uf.fix p' hpl e
   refine⟨_,rfl,?_⟩
   have:=k l' H' hl' hF hC'
   rw[<-hrt,e2] at this
   exact this
end
theorem Fq.tup{K:aD}{C q a dx:Addr}{H H':Hp}{l:List Nat}{rt rk:Nat->Nat}{c:Parts}{b:Addr}{xs:List V}(r:Fq q a H H')(k:CL C q a dx H l rt rk c)(h:aW K H b xs):aW K H' b xs:=by
 rcases h with(h|⟨ob,h⟩)|h
 ·exact .inl (.inl ((r _ (dG h k.ins (by intro e;cases e)) (dG h k.lst (by intro e;cases e))).trans h))
 ·exact .inl (.inr ⟨ob,(r _ (dG h k.ins (by intro e;cases e)) (dG h k.lst (by intro e;cases e))).trans h⟩)
 ·exact .inr h
theorem Fq.isP3{K:aD}{C q a dx:Addr}{H H':Hp}{l:List Nat}{rt rk:Nat->Nat}{c:Parts}{v:V}{e:Par}(r:Fq q a H H')(k:CL C q a dx H l rt rk c)(h:cZ K H v e):cZ K H' v e:=by
 obtain⟨b,rfl,h⟩:=h
 exact⟨b,rfl,r.tup k h⟩
section
variable{P:Program}{w:World}{K:aD}{mg:Str->Option Value}{base:Heap}{C CK:Addr}
def qu(C:Addr):Sp:=fun vs H Q _=>∃q a dx l rt rk c p o,vs=[.ref q,vn p,vn o]/\CL C q a dx H l rt rk c/\p<l.length/\o<l.length/\∀l' rt' rk' H',l'.length=l.length->Fq q a H H'->CL C q a dx H' l' rt' rk' (join p o c)->Q (.bl (!together p o c)) H'
theorem Bq:aZ ["self","point","other","leader","other_leader"] ["self","point","other"] (aQ uo):=fS
theorem Jp(D:bZ K CK "merge" "Clusters.merge" uo)(R:KC K CK)(M1:bE P w K mg base CK "leader" 1 ["self","point"] (wo CK)):bE P w K mg base CK "merge" 2 ["self","point","other"] (qu CK):=by
 refine D.cal Bq (fun vs H Q E h=>?_) (fun fa cdv A outer s H vs Q E hr h=>?_)
 ·obtain⟨_,_,_,_,_,_,_,_,_,rfl,_⟩:=h
  rfl
 ·obtain⟨q,a,dx,l,rt,rk,c,p,o,rfl,hC,hp,ho,k⟩:=h
  have nd:=Bq.nd
  refine⟨_,aG (aT (i:=3) nd rfl (aJ rfl) (pm R.cl M1 hr (pv 0) (aB (pv 1) aC)))
   (aG (aT (i:=4) nd rfl (aJ rfl) (pm R.cl M1 hr (pv 0) (aB (pv 2) aC)))
   (aG (aj (ao iJ (pv 3) (pv 4) (ak _)) (aI (aN dj)) ay)
   (aG (jL (pv 4) (jK (aX (pv 0) rfl) (pv 3) set_list))
   (aG (GH (pv 0) aR GJ)
   (aI (aN dj)))))),?_⟩
  refine⟨_,rfl,q,dx,_,rfl,hC.ins,iT _ _ rfl rfl,_,rfl,q,a,dx,l,rt,rk,c,p,rfl,hC,hp,fun l1 H1 e1 f1 hC1=>?_⟩
  refine⟨_,rfl,q,dx,_,rfl,hC1.ins,iT _ _ rfl rfl,_,rfl,q,a,dx,l1,rt,rk,c,o,rfl,hC1,by omega,fun l2 H2 e2 f2 hC2=>?_⟩
  have f02:=f1.trans f2
  have hp2:p<l2.length:=by omega
  have ho2:o<l2.length:=by omega
  refine⟨_,rfl,_,rfl,rfl,_,rfl,?_⟩
  rw[n9]
  have htg:=hC2.tells.together hp2 ho2
  refine aU (fun e=>?_) (fun e=>?_)
  ·rw[htg,e] at k
   rw[MG.sE ((hC2.tells.iff p o hp2 ho2).mpr (of_decide_eq_true e))] at k
   exact k l2 rt rk H2 (by omega) f02.fq hC2
  ·have e1:rt p≠rt o:=fun z=>e (decide_eq_true z)
   rw[htg,decide_eq_false e1] at k
   have hl2:rt p<l2.length:=hC2.uf.lt p hp2
   have hne:=hC2.qa
   refine⟨_,rfl,_,rfl,q,CK,dx,_,_,rfl,hC2.ins,R.cl,R.n1,k6 _ _,_,rfl,a,_,((rt p:Nat):Int),rt p,rfl,rfl,hC2.lst,k9 (by rw[aL];exact hl2),?_⟩
   rw[ka]
   refine⟨_,rfl,q,CK,dx,_,_,rfl,(by rw[aP hne];exact hC2.ins),R.cl,R.n2,n8 _ _,?_⟩
   refine⟨_,_,rfl,rfl,dx,_,(by rw[aP hne];exact hC2.ins),(by show 2<1000;decide),?_⟩
   have hcnt:=MG.xu (c:=c) (hC2.len▸hp2) (hC2.len▸ho2) (fun z=>e1 ((hC2.tells.iff p o hp2 ho2).mp z))
   have ec:((countParts c:Nat):Int)-1=((countParts (join p o c):Nat):Int):=by omega
   refine k (l2.set (rt p) (rt o)) _ _ _ (by rw[cP];omega) (f02.fq.trans fun b h1 h2=>by rw[aP h1,aP h2]) ⟨aF.trans ?_,by rw[aP hne.symm];exact aF,hC2.uf.union hp2 ho2 e1,hC2.tells.union hp2 ho2 _ _,by rw[cP];exact hC2.small⟩
   show some (HO.ins CK dx (cf (.ref a) (.int (((countParts c:Nat):Int)-1))))=_
   rw[ec];rfl
def qv(K:aD)(C:Addr):Sp:=fun vs H Q _=>∃q a dx l rt rk c b zs es,vs=[.ref q,.ref b]/\CL C q a dx H l rt rk c/\H b=some (.lst zs)/\b≠a/\Paired (bj K H) zs es/\MG.aw l.length es/\∀l' rt' rk' H',l'.length=l.length->Fq q a H H'->CL C q a dx H' l' rt' rk' (takeEdges es (c,false)).1->Q (.bl (!(takeEdges es (c,false)).2)) H'
theorem Br:aZ ["self","edges","all_apart","point","other"] ["self","edges"] (aQ uq):=fS
theorem Jq(D:bZ K CK "merge_all" "Clusters.merge_all" uq)(R:KC K CK)(M1:bE P w K mg base CK "merge" 2 ["self","point","other"] (qu CK)):bE P w K mg base CK "merge_all" 3 ["self","edges"] (qv K CK):=by
 refine D.cal Br (fun vs H Q E h=>?_) (fun fa cdv A outer s H vs Q E hr h=>?_)
 ·obtain⟨_,_,_,_,_,_,_,_,_,_,rfl,_⟩:=h
  rfl
 ·obtain⟨q,a,dx,l,rt,rk,c,b,zs,es,rfl,hC,hb,hba,hzs,hfit,k⟩:=h
  have nd:=Br.nd
  have hbq:b≠q:=dG hb hC.ins (by intro e;cases e)
  refine⟨_,aG (aT (i:=2) nd rfl (aJ rfl) dj)
   (aG (dy (g:=lL K 2 (iH (eO 3) (iH (eO 4) lK))) PassesOwn.never rfl (c6 (pv 1)) (jJ rfl (dv (bN (i:=3) nd rfl (aJ rfl)) (dv (bN (i:=4) nd rfl (aJ rfl)) jI)))
    (aI (aj (dH (cA (pm R.cl M1 hr (pv 0) (aB (pv 3) (aB (pv 4) aC))))) (aI (aT (i:=2) nd rfl (aJ rfl) dj)) ay)))
   (aI (aN (pv 2)))),?_⟩
  have hzl:=hzs.length
  refine⟨_,rfl,b,rfl,⟨_,aE.of hb⟩,gY (K:=K) (a:=b) (xs:=zs) (fun i σ H'=>∃(x1 x2:Option V) (l':List Nat) (rt' rk':Nat->Nat),σ=[some (.ref q),some (.ref b),some (.bl (!(takeEdges (es.take i) (c,false)).2)),x1,x2]/\l'.length=l.length/\Fq q a H H'/\CL CK q a dx H' l' rt' rk' (takeEdges (es.take i) (c,false)).1)
   ⟨none,none,l,rt,rk,rfl,rfl,Fq.refl _ _ _,hC⟩ ?_ ?_ ?_⟩
  ·rintro i σ H' _ ⟨_,_,_,_,_,_,_,f,_⟩
   exact aE.of ((f b hbq hba).trans hb)
  ·rintro i x σ H' hx ⟨x1,x2,l',rt',rk',rfl,el,f,hC'⟩
   obtain⟨e,he,v,rfl,hv⟩:=bw hzs hx
   have hv':=f.tup hC hv
   have hem:=cv he
   have hfe:=hfit e hem
   refine⟨v,_,rfl,hv',rfl,_,_,rfl,_,_,rfl,rfl,?_⟩
   refine⟨_,rfl,q,dx,_,rfl,hC'.ins,iT _ _ rfl rfl,_,rfl,_,rfl,q,a,dx,l',rt',rk',_,e.1,e.2,rfl,hC',by omega,by omega,fun l2 rt2 rk2 H2 el2 f2 hC2=>?_⟩
   have et:takeEdges (es.take (i+1)) (c,false)=(join e.1 e.2 (takeEdges (es.take i) (c,false)).1,(takeEdges (es.take i) (c,false)).2||together e.1 e.2 (takeEdges (es.take i) (c,false)).1):=by
    rw[take_snoc he,MG.take_append];rfl
   refine⟨_,rfl,?_⟩
   refine aU (fun z=>?_) (fun z=>?_)<;>rw[mE] at z
   ·refine⟨some (vn e.1),some (vn e.2),l2,rt2,rk2,?_,el2.trans el,f.trans f2,by rw[et];exact hC2⟩
    rw[et]
    show _=[_,_,some (V.bl (!(_||_))),_,_]
    rw[z,oU];rfl
   ·have z:=dI.mpr z
    refine⟨some (vn e.1),some (vn e.2),l2,rt2,rk2,?_,el2.trans el,f.trans f2,by rw[et];exact hC2⟩
    rw[et]
    show _=[_,_,some (V.bl (!(_||_))),_,_]
    rw[z,kD];rfl
  ·rintro σ H' ⟨x1,x2,l',rt',rk',rfl,el,f,hC'⟩
   rw[hzl,cQ] at hC'⊢
   exact⟨_,rfl,k l' rt' rk' H' el f hC'⟩
end
theorem Bs:∀(us:List V) (vs:List Value),us.length=vs.length->(∀(j:Nat) (v:Value),vs[j]? =some v->∃u,us[j]? =some u/\RelV u v)->ab us vs
 |[],[],_,_=>.nil
 |[],_::_,h,_=>nomatch h
 |_::_,[],h,_=>nomatch h
 |u::us,v::vs,hl,h=>by
  obtain⟨u',e,r⟩:=h 0 v rfl
  cases e
  exact .cons r (Bs us vs (Nat.succ.inj hl) fun j v' q=>h (j+1) v' q)
def Jr(ta:TA):TE:=fun σ H Q=>ta σ H fun vs H1=>∃n:Nat,vs=[vn n]/\n<=100000/\∀l,H1 l=none->Q (.ref l) (upd H1 l (.lst ((bJ n).map vn)))
theorem Js{X:Cx}{a:Expr}{ta:TA}{p1 p2 pos pos2:Pos}(hc:X.calm=true)(ha:PA X [a] ta)(hg:Gl X "list")(hm:X.mg "list"=none)(hg2:Gl X "range")(hm2:X.mg "range"=none)
  (hs:starEach [a] X.env=[(false,eval a X.env)]:=by rfl)(he:starEach [.Call (.Name "range" p2) [a] [] pos2] X.env=[(false,eval (.Call (.Name "range" p2) [a] [] pos2) X.env)]:=by rfl):
  PE X (.Call (.Name "list" p1) [.Call (.Name "range" p2) [a] [] pos2] [] pos) (Jr ta):=by
 intro pins s σ H Q I h
 refine wpAny_Call_Name_kw (j8 I hg hm boot_list ?_)
 refine mC ?_ he rfl
 rw[he]
 show wpAny _ _ (spliced [(false,eval (.Call (.Name "range" p2) [a] [] pos2) X.env)]) _ _ s
 refine Calls.spliced_cons (Call_ (j8 I hg2 hm2 boot_range (mC (af (ha pos2 pins s σ H _ I h) fun us s1 ⟨vs,H1,I1,r1,q1⟩=>?_) hs rfl)))
 obtain⟨n,e,hn,q⟩:=q1
 subst e
 cases r1 with
 |cons r rr=>
  cases rr
  obtain⟨t,rfl⟩:=r
  refine call_range_1 (Calls.spliced_nil ?_)
  refine call_list_range (I1.ok.hd hc) (IsRange.new ..) (small_one (by omega) (by omega) (by omega) (by omega)) (n:=n) (by rw[rangeSize_one];split<;>omega) (by omega) fun h' tk acc' c' hk hS' hacc=>?_
  have hk1:∀b u,s1.heap.get? b=some u->h'.get? b=some u:=fun b u e=>hk b u (Heap.get?_push_of_some _ e)
  have hsz:s1.heap.objs.size<=(s1.heap.push {cls:=.type "range",data:=.fields #[.int 0 s1.toks,.int n t,.int 1 (s1.toks+1)]}).objs.size:=by rw[Heap.size_push];omega
  refine⟨.ref _,_,I1.laid (t':=tk) hk1 hsz (show dO X.prog X.w _ h' _ (.lst ((bJ n).map vn)) from⟨?_,acc'.toList,c',?_,hS'⟩),rfl,q _ (I1.hok.fresh hsz)⟩
  ·rw[aL,cS,sizeLine_eq];omega
  ·refine Bs _ _ (by rw[aL,cS,oN,hacc.1]) fun j v hv=>?_
   have hv':acc'[j]? =some v:=by simpa using hv
   have hj:j<n:=by
    have:=(Array.getElem?_eq_some_iff.mp hv').1
    rw[hacc.1] at this;exact this
   obtain⟨tk,rfl⟩:=hacc.2 j v hv'
   refine⟨vn j,by rw[bo,jy hj];rfl,?_⟩
   have:(0:Int)+(j:Nat)*1=(j:Nat):=by omega
   rw[this]
   exact⟨_,rfl⟩
section
variable{P:Program}{w:World}{K:aD}{mg:Str->Option Value}{base:Heap}{C CK:Addr}
def qw(C:Addr):Sp:=fun vs H Q _=>∃n,vs=[vn n]/\n<=100000/\∀q a dx H',aA H H'->H q=none->H a=none->CL C q a dx H' (bJ n) (fun z=>z) (fun _=>0) (bJ n)->Q (.ref q) H'
theorem Jt:aZ ["count"] ["count"] (aQ uu):=fS
theorem Ju(D:aO K mg "lone_points" uu)(T:cY K mg)(hrange:mg "range"=none)(MK:eE P w K mg base "Clusters" CK 1 ["self","leads","parts"] (qt CK)):aK P w K mg base "lone_points" 3 ["count"] (qw CK):=by
 refine D.cal Jt (fun vs H Q E h=>?_) (fun fa cdv A outer s H vs Q E hr h=>?_)
 ·obtain⟨_,rfl,_⟩:=h
  rfl
 ·obtain⟨n,rfl,hn,k⟩:=h
  refine⟨_,aI (aN (pk MK hr (aB (Js rfl (aB (pv 0) aC) (by rfl) T.list (by rfl) hrange) (aB (pv 0) aC)))),?_⟩
  refine⟨_,rfl,n,rfl,hn,fun a ha=>⟨_,rfl,fun q dx hq hdx hne=>?_⟩⟩
  refine⟨q,dx,_,_,rfl,aF,fun H7 hg7 k7=>⟨rfl,?_⟩⟩
  have s0:aA H (upd H a (.lst ((bJ n).map vn))):=aA.upd ha
  have s7:aA (upd H a (.lst ((bJ n).map vn))) H7:=fun b o ho=>k7 b o (by rw[aP (ae ho hq),aP (ae ho hdx)];exact ho) (ae ho hq)
  refine k q a dx H7 (s0.trans s7) (s0.free hq) ha ⟨?_,s7 _ _ aF,Uf.lone n,Tells.lone n,by rw[cS];exact hn⟩
  rw[hg7,MG.E8]
def Bt(C:Addr):Sp:=fun vs H Q _=>∃q a dx l rt rk c,vs=[.ref q]/\CL C q a dx H l rt rk c/\∀q' a' dx' H',aA H H'->H q'=none->H a'=none->CL C q' a' dx' H' l rt rk c->Q (.ref q') H'
theorem Jv:aZ ["self"] ["self"] (aQ ur):=fS
theorem Jw(D:bZ K CK "another" "Clusters.another" ur)(T:cY K mg)(R:KC K CK)(MK:eE P w K mg base "Clusters" CK 1 ["self","leads","parts"] (qt CK)):bE P w K mg base CK "another" 3 ["self"] (Bt CK):=by
 refine D.cal Jv (fun vs H Q E h=>?_) (fun fa cdv A outer s H vs Q E hr h=>?_)
 ·obtain⟨_,_,_,_,_,_,_,rfl,_⟩:=h
  rfl
 ·obtain⟨q0,a0,dx0,l,rt,rk,c,rfl,hC,k⟩:=h
  refine⟨_,aI (aN (pk MK hr (aB (gZ jf (by rfl) T.list boot_list (aB (aX (pv 0) rfl) aC)) (aB (aX (pv 0) rfl) aC)))),?_⟩
  refine⟨_,rfl,q0,CK,dx0,_,_,rfl,hC.ins,R.cl,R.n1,k6 _ _,a0,_,rfl,.inl (aE.of hC.lst),fun a ha=>?_⟩
  have s0:aA H (upd H a (.lst (l.map vn))):=aA.upd ha
  refine⟨_,rfl,q0,CK,dx0,_,_,rfl,s0 _ _ hC.ins,R.cl,R.n2,n8 _ _,fun q dx hq hdx hne=>?_⟩
  refine⟨q,dx,_,_,rfl,aF,fun H7 hg7 k7=>⟨rfl,?_⟩⟩
  have s7:aA (upd H a (.lst (l.map vn))) H7:=fun b o ho=>k7 b o (by rw[aP (ae ho hq),aP (ae ho hdx)];exact ho) (ae ho hq)
  exact k q a dx H7 (s0.trans s7) (s0.free hq) ha ⟨hg7,s7 _ _ aF,hC.uf,hC.tells,hC.small⟩
end
open Vanetc (Parts join together countParts takeEdges Edge Par parEdges)
open MG (lb Uf Tells aw cC)
theorem Fq.same{q a:Addr}{H0 H H':Hp}(f:Fq q a H H')(s:aA H0 H)(hq:H0 q=none)(ha:H0 a=none):aA H0 H':=fun b o e=>(f b (ae e hq) (ae e ha)).trans (s b o e)
theorem qx{n:Nat}{es fs:List Edge}(h:aw n es)(h':aw n fs):aw n (es++fs):=fun e he=>(dD.mp he).elim (h e) (h' e)
theorem wq{n:Nat}{ps:List Par}{w:List Bool}(h:cC n ps):aw n (parEdges ps w):=by
 intro e he
 obtain⟨⟨p,b⟩,hm,rfl⟩:=cT.mp he
 have:=h p (oO hm).1
 refine⟨this.1,?_⟩
 show(if b=true then p.2.2 else p.2.1)<n
 split
 ·exact this.2.2
 ·exact this.2.1
structure qy (n:Nat) (es:List Edge) (ps:List Par):Prop where
 fit:aw n es
 fitp:cC n ps
 n:n<=100000
 e:es.length<=100000
 p:ps.length<=100000
section
variable{P:Program}{w:World}{K:aD}{mg:Str->Option Value}{base:Heap}{C CK CG:Addr}
def wu(K:aD)(CG:Addr):Sp:=fun vs H Q _=>∃g n es ps a w,vs=[.ref g,.ref a]/\jt K CG H g n es ps/\qy n es ps/\aE K H a (w.map fun b:Bool=>V.int (if b then 1 else 0))/\w.length=ps.length/\
 ∀b H',aA H H'->H b=none->H' b=some (.lst [.int (if(takeEdges (es++parEdges ps w) (bJ n,false)).2=true then 1 else 0),vn (countParts (takeEdges (es++parEdges ps w) (bJ n,false)).1)])->Q (.ref b) H'
theorem Bu:aZ ["graph","switching","clusters","without_circle"] ["graph","switching"] (aQ uv):=fS
theorem Jx(D:aO K mg "switched" uv)(RG:GC K CG)(R:KC K CK)(C1:aK P w K mg base "lone_points" 3 ["count"] (qw CK))(M1:bE P w K mg base CK "merge_all" 3 ["self","edges"] (qv K CK))
  (M2:bE P w K mg base CG "par_edges" 1 ["self","switching"] (Bm K CG)):aK P w K mg base "switched" 4 ["graph","switching"] (wu K CG):=by
 refine D.cal Bu (fun vs H Q E h=>?_) (fun fa cdv A outer s H vs Q E hr h=>?_)
 ·obtain⟨_,_,_,_,_,_,rfl,_⟩:=h
  rfl
 ·obtain⟨g,n,es,ps,a,wl,rfl,hG,hok,ha,hwl,k⟩:=h
  have nd:=Bu.nd
  refine⟨_,aG (aT (i:=2) nd rfl (aJ rfl) (pc C1 hr (aB (aX (pv 0) rfl) aC)))
   (aG (aT (i:=3) nd rfl (aJ rfl) (pm R.cl M1 hr (pv 2) (aB (bH c8 (aX (pv 0) rfl) (pm RG.cl M2 (hr.mono (show 1<=3 by decide)) (pv 0) (aB (pv 1) aC))) aC)))
   (aI (aN (au (aB (iG (cA (pv 3)) aR aR) (aB (aX (pv 2) rfl) aC)))))),?_⟩
  obtain⟨dx,b,c,zs,ys,h1,h2,h3,h4,h5⟩:=id hG.ex
  have hsl:=sizeLine_eq
  refine⟨_,rfl,g,CG,dx,_,_,rfl,h1,RG.cl,RG.n1,wd _ _ _,n,rfl,hok.n,fun q u dq H1 s1 hq hu hC1=>?_⟩
  refine⟨_,rfl,q,dq,_,rfl,hC1.ins,iT _ _ rfl rfl,?_⟩
  refine⟨_,rfl,g,CG,dx,_,_,rfl,s1 _ _ h1,RG.cl,RG.n2,we _ _ _,?_⟩
  refine⟨_,rfl,g,dx,_,rfl,s1 _ _ h1,Jg _ _ _ rfl rfl rfl,_,rfl,g,n,es,ps,a,wl,rfl,hG.same s1,aA.seq s1 ha,hwl,hok.p,fun b2 z2 H2 s2 hb2n hb2 hz2=>?_⟩
  have s02:=s1.trans s2
  have hzl:=h3.length
  have hz2l:=hz2.length
  have hpl:(parEdges ps wl).length=ps.length:=by unfold parEdges;rw[aL,rb];omega
  have he:=hok.e
  have hp:=hok.p
  refine⟨b,b2,zs,z2,rfl,rfl,s02 _ _ h2,hb2,by omega,fun d hd=>?_⟩
  have s3:aA H2 (upd H2 d (.lst (zs++z2))):=aA.upd hd
  have hd3:(upd H2 d (.lst (zs++z2))) d=some (.lst (zs++z2)):=aF
  generalize upd H2 d (.lst (zs++z2))=H3 at s3 hd3⊢
  have s03:=s02.trans s3
  have hC3:=(hC1.same s2).same s3
  have hud:d≠u:=fun e=>by rw[e] at hd;have:=s2 _ _ hC1.lst;rw[hd] at this;cases this
  refine⟨q,u,dq,_,_,_,_,d,zs++z2,es++parEdges ps wl,rfl,hC3,hd3,hud,iR (Paired.mono (fun _ _ z=>z.same s03) h3) (Paired.mono (fun _ _ z=>z.same s3) hz2),by rw[cS];exact qx hok.fit (wq hok.fitp),fun l' rt' rk' H4 el f4 hC4=>?_⟩
  have s04:=f4.same s03 hq hu
  refine⟨_,rfl,_,rfl,?_⟩
  have key:∀z:Int,z=(if(takeEdges (es++parEdges ps wl) (bJ n,false)).2=true then 1 else 0)->cO (kR K (ax 2) "parts") cK [some (.ref g),some (.ref a),some (.ref q),some (.bl (!(takeEdges (es++parEdges ps wl) (bJ n,false)).2))] H4 fun xs H5=>(V.int z::xs).length<=sizeLine/\∀p,H5 p=none->Q (.ref p) (upd H5 p (.lst (V.int z::xs))):=fun z hz=>by
   refine⟨_,rfl,q,CK,dq,_,_,rfl,hC4.ins,R.cl,R.n2,n8 _ _,(by show 2<=sizeLine;omega),fun r hr=>?_⟩
   exact k r _ (s04.trans (aA.upd hr)) (s04.free hr) (aF.trans (by rw[hz]))
  refine aU (fun e=>?_) (fun e=>?_)
  ·refine key 0 ?_
   have e:(takeEdges (es++parEdges ps wl) (bJ n,false)).2=false:=by simpa using e
   rw[e];rfl
  ·refine key 1 ?_
   have e:(takeEdges (es++parEdges ps wl) (bJ n,false)).2=true:=by simpa using e
   rw[e];rfl
end
open MG (lb Uf Tells aw cC fb dM)
def cI(b:Bool):V:=V.int (if b then 1 else 0)
def kb(c:Parts)(p:Par)(rest:List Par)(b:Bool):Prop:=together p.1 (dM p b) c=false/\fb (join p.1 (dM p b) c) rest=none
theorem Jy{c:Parts}{p:Par}{rest:List Par}{b:Bool}(h:b=true->kb c p rest false)(e:together p.1 (dM p b) c=true):fb c (p::rest)=some (b::gy rest.length false):=by
 cases b with
 |false=>exact if_pos e
 |true=>
  obtain⟨h1,h2⟩:=h rfl
  have h1:together p.1 p.2.1 c=false:=h1
  have h2:fb (join p.1 p.2.1 c) rest=none:=h2
  show(if together p.1 p.2.1 c=true then _ else _)=_
  rw[h1,if_neg (by decide),h2]
  exact if_pos e
theorem Jz{c:Parts}{p:Par}{rest:List Par}{b:Bool}{w:List Bool}(h:b=true->kb c p rest false)(e:together p.1 (dM p b) c=false)(hw:fb (join p.1 (dM p b) c) rest=some w):fb c (p::rest)=some (b::w):=by
 cases b with
 |false=>
  have e:together p.1 p.2.1 c=false:=e
  have hw:fb (join p.1 p.2.1 c) rest=some w:=hw
  show(if together p.1 p.2.1 c=true then _ else _)=_
  rw[e,if_neg (by decide),hw]
 |true=>
  obtain⟨h1,h2⟩:=h rfl
  have h1:together p.1 p.2.1 c=false:=h1
  have h2:fb (join p.1 p.2.1 c) rest=none:=h2
  have e:together p.1 p.2.2 c=false:=e
  have hw:fb (join p.1 p.2.2 c) rest=some w:=hw
  show(if together p.1 p.2.1 c=true then _ else _)=_
  rw[h1,if_neg (by decide),h2]
  show(if together p.1 p.2.2 c=true then _ else _)=_
  rw[e,if_neg (by decide),hw];rfl
theorem KA{c:Parts}{p:Par}{rest:List Par}(h:kb c p rest false)(g:kb c p rest true):fb c (p::rest)=none:=by
 obtain⟨h1,h2⟩:=h
 obtain⟨g1,g2⟩:=g
 have h1:together p.1 p.2.1 c=false:=h1
 have h2:fb (join p.1 p.2.1 c) rest=none:=h2
 have e:together p.1 p.2.2 c=false:=g1
 have hw:fb (join p.1 p.2.2 c) rest=none:=g2
 show(if together p.1 p.2.1 c=true then _ else _)=_
 rw[h1,if_neg (by decide),h2]
 show(if together p.1 p.2.2 c=true then _ else _)=_
 rw[e,if_neg (by decide),hw];rfl
section
variable{P:Program}{w:World}{K:aD}{mg:Str->Option Value}{base:Heap}{C CK CG:Addr}
def wx(K:aD)(CK:Addr)(r:Nat):Sp:=fun vs H Q _=>∃q a dx l rt rk c b ys ps d ch,vs=[.ref q,.ref b,.ref d]/\CL CK q a dx H l rt rk c/\H b=some (.lst ys)/\Paired (cZ K H) ys ps/\H d=some (.lst (ch.map cI))/\ch.length+r=ps.length/\cC l.length ps/\ps.length<=100000/\
 (fb c (ps.drop ch.length)=none->∀H',aA H H'->Q .non H')/\(∀wl,fb c (ps.drop ch.length)=some wl->∀e H',aA H H'->H' e=some (.lst ((ch++wl).map cI))->Q (.ref e) H')
theorem qz:aZ ["clusters","pars","chosen","par","side","trial","longer","found","other"] ["clusters","pars","chosen"] (aQ nL):=fS
theorem KB(D:aO K mg "first_bad_from" nL)(R:KC K CK)(T:cY K mg):aK P w K mg base "first_bad_from" 4 ["clusters","pars","chosen"] (wx K CK 0):=by
 refine D.cal qz (fun vs H Q E h=>?_) (fun fa cdv A outer s H vs Q E hr h=>?_)
 ·obtain⟨_,_,_,_,_,_,_,_,_,_,_,_,rfl,_⟩:=h
  rfl
 ·obtain⟨q,a,dx,l,rt,rk,c,b,ys,ps,d,ch,rfl,hC,hb,hys,hd,hlen,hfit,hpl,k1,k2⟩:=h
  have nd:=qz.nd
  refine⟨_,aG (aj (ao iJ (bD bI (by rfl) T.len bM (aB (pv 2) aC)) (bD bI (by rfl) T.len bM (aB (pv 1) aC)) (ak _))
    (aI (aN (iG (ao iJ (aX (pv 0) rfl) aR (ak _)) bu (pv 2)))) ay) yn,?_⟩
  have hyl:=hys.length
  have hlen:ch.length=ps.length:=by omega
  rw[List.drop_of_length_le (by omega)] at k1 k2
  refine⟨_,rfl,d,_,rfl,.inl (aE.of hd),_,rfl,b,_,rfl,.inl (aE.of hb),rfl,_,rfl,?_⟩
  refine aU (fun e=>?_) (fun e=>?_)
  ·refine⟨_,rfl,q,CK,dx,_,_,rfl,hC.ins,R.cl,R.n2,n8 _ _,rfl,_,rfl,?_⟩
   have ev:decide (vn (countParts c)=V.int 1)=decide (countParts c=1):=n9 (b:=1)
   rw[ev]
   refine aU (fun e=>?_) (fun e=>?_)
   ·exact k1 (if_pos (of_decide_eq_true e)) H (aA.refl H)
   ·refine⟨_,rfl,k2 [] (if_neg (fun z=>e (decide_eq_true z))) d H (aA.refl H) ?_⟩
    rw[d8];exact hd
  ·refine absurd (decide_eq_true ?_) e
   rw[aL,hlen,hyl]
end
section
variable{P:Program}{w:World}{K:aD}{mg:Str->Option Value}{base:Heap}{C CK CG:Addr}
theorem Bv(D:aO K mg "first_bad_from" nL)(R:KC K CK)(T:cY K mg)(M1:bE P w K mg base CK "another" 3 ["self"] (Bt CK))(M2:bE P w K mg base CK "merge" 2 ["self","point","other"] (qu CK)):
  ∀r,aK P w K mg base "first_bad_from" (r+4) ["clusters","pars","chosen"] (wx K CK r)
 |0=>KB D R T
 |r+1=>by
  have C0:=Bv D R T M1 M2 r
  refine D.cal (k:=r+4) qz (fun vs H Q E h=>?_) (fun fa cdv A outer s H vs Q E hr h=>?_)
  ·obtain⟨_,_,_,_,_,_,_,_,_,_,_,_,rfl,_⟩:=h
   rfl
  ·obtain⟨q,a,dx,l,rt,rk,c,b,ys,ps,d,ch,rfl,hC,hb,hys,hd,hlen,hfit,hpl,k1,k2⟩:=h
   have nd:=qz.nd
   have hr3:=hr.mono (show 3<=r+4 by omega)
   have hr2:=hr.mono (show 2<=r+4 by omega)
   refine⟨_,aG (aj (ao iJ (bD bI (by rfl) T.len bM (aB (pv 2) aC)) (bD bI (by rfl) T.len bM (aB (pv 1) aC)) (ak _))
     yn ay)
    (aG (aT (i:=3) nd rfl (aJ rfl) (aa az (pv 1) (bD bI (by rfl) T.len bM (aB (pv 2) aC)) (fun _ _=>rfl)))
    (aG (dy PassesOwn.never rfl (Fj (eQ (aB aR (aB aR aC)))) (bN (i:=4) nd rfl (aJ rfl))
     (aG (aT (i:=5) nd rfl (aJ rfl) (d4 R.cl M1 hr3 (pv 0)))
     (aG (aT (i:=6) nd rfl (aJ rfl) (bH c8 (pv 2) (au (aB (pv 4) aC))))
     (aG (aj (dH (cA (pm R.cl M2 hr2 (pv 5) (aB (aa cX (pv 3) aR (fun _ _=>rfl)) (aB (aa cX (pv 3) (bH e9 aR (pv 4)) (fun _ _=>rfl)) aC)))))
      (aI (aN (bH c8 (pv 6) (eS (own:=[("other",8)]) rfl nd (c6 (gD iL (pv 1) (dz (bD bI (by rfl) T.len bM (aB (pv 6) aC))) je)) (dc (N:=["clusters","pars","chosen","par","side","trial","longer","found","other"]) (sc:=aQ nL) (by decide+kernel)) (fun _ _ _ _ _=>bN (i:=8) nd rfl (aJ rfl)) (fun _ _ _ _ _=>eR) (fun _ _ _ _ _=>aR))))) ay)
     (aG (aT (i:=7) nd rfl (aJ rfl) (pc C0 hr (aB (pv 5) (aB (pv 1) (aB (pv 6) aC)))))
     (aI (aj (ao t5 (pv 7) bu (ak _)) (aI (aN (pv 7))) ay)))))))
    (aI (aN bu)))),?_⟩
   have hyl:=hys.length
   have hlt:ch.length<ps.length:=by omega
   obtain⟨p,hp⟩:∃p,ps[ch.length]? =some p:=⟨_,bU hlt⟩
   have hdrop:ps.drop ch.length=p::ps.drop (ch.length+1):=by
    rw[fg hlt]
    rw[bU hlt] at hp
    cases hp;rfl
   rw[hdrop] at k1 k2
   have hfp:=hfit p (cv hp)
   obtain⟨yv,hyv⟩:∃yv,ys[ch.length]? =some yv:=⟨_,bU (by omega)⟩
   obtain⟨p',hp',va,rfl,hva⟩:=bw hys hyv
   rw[hp] at hp'
   cases hp'
   have hsl:=sizeLine_eq
   refine⟨_,rfl,d,_,rfl,.inl (aE.of hd),_,rfl,b,_,rfl,.inl (aE.of hb),rfl,_,rfl,?_⟩
   refine aU (fun e=>?_) (fun e=>?_)
   ·have e:=of_decide_eq_true e
    have e:((ch.map cI).length:Int)=(ys.length:Int):=V.int.inj e
    rw[aL] at e
    omega
   refine⟨_,rfl,_,rfl,d,_,rfl,.inl (aE.of hd),b,_,_,.ref va,rfl,rfl,aE.of hb,at_of (j:=ch.length) (by rw[aL]) hyv,?_⟩
   refine⟨(by show 2<=sizeLine;omega),fun tt htt=>?_⟩
   have st:aA H (upd H tt (.tup [.int 0,.int 1])):=aA.upd htt
   have htt1:aW K (upd H tt (.tup [.int 0,.int 1])) tt [.int 0,.int 1]:=aW.of aF
   generalize upd H tt (.tup [.int 0,.int 1])=H0 at st htt1⊢
   refine⟨tt,rfl,⟨_,htt1⟩,Fl (K:=K) (a:=tt) (xs:=[.int 0,.int 1]) (fun i σ H'=>∃(x1 x2 x3 x4 x5:Option V),σ=[some (.ref q),some (.ref b),some (.ref d),some (.ref va),x1,x2,x3,x4,x5]/\aA H0 H'/\(1<=i->kb c p (ps.drop (ch.length+1)) false)/\(2<=i->kb c p (ps.drop (ch.length+1)) true))
    ⟨none,none,none,none,none,rfl,aA.refl _,fun h=>by omega,fun h=>by omega⟩ ?_ ?_ ?_⟩
   ·rintro i σ H' _ ⟨_,_,_,_,_,_,s,_⟩
    exact aA.tup s htt1
   ·rintro i x σ H' hx ⟨x1,x2,x3,x4,x5,rfl,s1,g1,g2⟩
    have s01:=st.trans s1
    have hi:i<2:=(bC.mp hx).1
    obtain⟨bb,rfl,rfl⟩:∃bb:Bool,cI bb=x/\i=(if bb then 1 else 0):=by
     match i,hi,hx with
     |0,_,hx=>exact⟨false,bL hx,rfl⟩
     |1,_,hx=>exact⟨true,bL hx,rfl⟩
    have gb:bb=true->kb c p (ps.drop (ch.length+1)) false:=fun z=>g1 (by rw[z];decide)
    have hCx:=hC.same s01
    refine⟨_,rfl,q,dx,_,rfl,hCx.ins,iT _ _ rfl rfl,q,a,dx,l,rt,rk,c,rfl,hCx,fun tq ta tdx H2 s2 htq hta hCt=>?_⟩
    have s02:=s01.trans s2
    refine⟨_,rfl,_,rfl,(by show 1<=sizeLine;omega),fun u1 hu1=>?_⟩
    have s3:aA H2 (upd H2 u1 (.lst [cI bb])):=aA.upd hu1
    have hu3:(upd H2 u1 (.lst [cI bb])) u1=some (.lst [cI bb]):=aF
    generalize upd H2 u1 (.lst [cI bb])=H3 at s3 hu3⊢
    have s03:=s02.trans s3
    refine⟨d,u1,_,_,rfl,rfl,s03 _ _ hd,hu3,(by rw[aL];show ch.length+1<=_;omega),fun lo hlo=>?_⟩
    have s4:aA H3 (upd H3 lo (.lst (ch.map cI++[cI bb]))):=aA.upd hlo
    have hlo4:(upd H3 lo (.lst (ch.map cI++[cI bb]))) lo=some (.lst ((ch++[bb]).map cI)):=aF.trans (by rw[bO];rfl)
    generalize upd H3 lo (.lst (ch.map cI++[cI bb]))=H4 at s4 hlo4⊢
    have s04:=s03.trans s4
    have hCt4:=(hCt.same s3).same s4
    have hva4:=aA.tup s04 hva
    refine⟨_,rfl,tq,tdx,_,rfl,hCt4.ins,iT _ _ rfl rfl,?_⟩
    refine⟨_,rfl,va,_,_,_,rfl,rfl,hva4,ah (j:=0) rfl,_,rfl,_,rfl,_,_,rfl,rfl,va,_,_,vn (dM p bb),rfl,rfl,hva4,?_,?_⟩
    ·cases bb
     ·exact at_of (j:=1) (by rfl) rfl
     ·exact at_of (j:=2) (by rfl) rfl
    have hsd:dM p bb<l.length:=by unfold dM;split;exact hfp.2.2;exact hfp.2.1
    refine⟨tq,ta,tdx,l,rt,rk,c,p.1,dM p bb,rfl,hCt4,hfp.1,hsd,fun l5 rt5 rk5 H5 el5 f5 hC5=>?_⟩
    have htq0:=s01.free htq
    have hta0:=s01.free hta
    have s05:=f5.same s04 htq0 hta0
    have s15:aA H' H5:=f5.same ((s2.trans s3).trans s4) htq hta
    have hlo5:H5 lo=some (.lst ((ch++[bb]).map cI)):=(f5 lo (fun e=>by rw[e] at hlo;have:=s3 _ _ hCt.ins;rw[hlo] at this;cases this) (fun e=>by rw[e] at hlo;have:=s3 _ _ hCt.lst;rw[hlo] at this;cases this)).trans hlo4
    refine⟨_,rfl,?_⟩
    refine aU (fun z=>?_) (fun z=>?_)<;>rw[mE] at z
    ·have hb5:=s05 _ _ hb
     refine⟨_,rfl,_,rfl,⟨_,rfl,lo,_,rfl,.inl (aE.of hlo5),_,rfl,b,ys,rfl,aE.of hb5,fun cu hcu=>?_⟩⟩
     have hcl:(cW ys (some (((ch++[bb]).map cI).length:Int)) none).length=(ps.drop (ch.length+1)).length:=by
      unfold cW
      rw[HT.gC,aL,aS]
      show((ys.drop (min (ch.length+1) ys.length)).take (ys.length-min (ch.length+1) ys.length)).length=_
      rw[cM,di,di];omega
     generalize cW ys (some (((ch++[bb]).map cI).length:Int)) none=cs at hcl⊢
     have s6:aA H5 (upd H5 cu (.lst cs)):=aA.upd hcu
     have hcu6:(upd H5 cu (.lst cs)) cu=some (.lst cs):=aF
     generalize upd H5 cu (.lst cs)=H6 at s6 hcu6⊢
     refine⟨cu,rfl,⟨_,aE.of hcu6⟩,fun D1 hD1=>?_⟩
     rw[di] at hcl
     refine fT (K:=K) (a:=cu) (xs:=cs) (fun i H''=>aA H6 H''/\H'' D1=some (.lst (gy i (V.int 0)))) ⟨aA.upd hD1,aF⟩ ?_ ?_ ?_
     ·rintro i H'' _ ⟨s7,_⟩
      exact aE.of (s7 _ _ hcu6)
     ·rintro i x H'' hx ⟨s7,h7⟩
      have hil:=(bC.mp hx).1
      refine⟨rfl,_,h7,by rw[oR];omega,aA.upd2 s7 hD1,?_⟩
      rw[aF,ED]
     ·rintro H'' ⟨s7,h7⟩
      have s07:=(s05.trans s6).trans s7
      refine⟨lo,D1,_,_,rfl,rfl,s7 _ _ (s6 _ _ hlo5),h7,(by rw[aL,aS,oR];show ch.length+1+_<=_;omega),fun e he=>?_⟩
      refine k2 _ (Jy gb z) e _ (s07.trans (aA.upd he)) (aF.trans ?_)
      rw[hcl,di,bO,bO,dh,bg,bg,EE];rfl
    ·have z:=dI.mpr z
     have hb5:=s05 _ _ hb
     refine⟨_,rfl,_,rfl,_,rfl,tq,ta,tdx,l5,rt5,rk5,_,b,ys,ps,lo,ch++[bb],rfl,hC5,hb5,Paired.mono (fun _ _ q=>q.same s05) hys,hlo5,?_,by rw[el5];exact hfit,hpl,fun hn H6 s6=>?_,fun wl hw e H6 s6 he=>?_⟩
     ·rw[aS];show ch.length+1+r=_;omega
     ·rw[aS] at hn
      refine⟨_,rfl,rfl,_,rfl,ir ?_⟩
      refine⟨some (cI bb),some (.ref tq),some (.ref lo),some .non,x5,rfl,(s1.trans s15).trans s6,fun hi1=>?_,fun hi2=>?_⟩
      ·cases bb with
       |false=>exact⟨z,hn⟩
       |true=>exact g1 (by decide)
      ·cases bb with
       |false=>exact absurd hi2 (by decide)
       |true=>exact⟨z,hn⟩
     ·rw[aS] at hw
      refine⟨_,rfl,rfl,_,rfl,kW ?_⟩
      refine⟨_,rfl,k2 _ (Jz gb z hw) e _ (s05.trans s6) ?_⟩
      rw[he,dh];rfl
   ·rintro σ H' ⟨x1,x2,x3,x4,x5,rfl,s1,g1,g2⟩
    exact k1 (KA (g1 (by decide)) (g2 (by decide))) H' (st.trans s1)
end
open MG (lb Uf Tells aw cC fb dM vd)
theorem KD{X:Cx}{a:Expr}{ta:TE}{pos:Pos}(ha:PE X a ta):PE X (.UnaryOp .Not a pos) (fun σ H Q=>ta σ H fun x H'=>∃k,t6 X.K x H' k/\Q (.bl (!k)) H'):=by
 intro pins s σ H Q I h
 refine UnaryOp_ (af (ha pins s σ H _ I h) fun v s1 ⟨x,H1,I1,r1,q1⟩=>?_)
 refine not_of (af (zH pins s1 σ H1 x v (fun k H'=>Q (.bl (!k)) H') I1 r1 q1) fun k s2 ⟨H2,I2,q2⟩=>?_)
 exact⟨.bl (!k),H2,I2,rfl,q2⟩
def nc(n:Nat)(es:List Edge)(ps:List Par):Option (List Bool):=if(takeEdges es (bJ n,false)).2=true then some (gy ps.length false) else fb (takeEdges es (bJ n,false)).1 ps
def ng(n:Nat)(es:List Edge)(ps:List Par):Bool:=if(takeEdges es (bJ n,false)).2=true then false else vd ps.length ps (takeEdges es (bJ n,false)).1
section
variable{P:Program}{w:World}{K:aD}{mg:Str->Option Value}{base:Heap}{C CK CG:Addr}
def wy(K:aD)(CG:Addr):Sp:=fun vs H Q _=>∃g n es ps,vs=[.ref g]/\jt K CG H g n es ps/\qy n es ps/\ps.length<=10/\
 (nc n es ps=none->∀H',aA H H'->Q .non H')/\(∀wl,nc n es ps=some wl->∀e H',aA H H'->H' e=some (.lst (wl.map cI))->Q (.ref e) H')
theorem Bw:aZ ["graph","clusters","par"] ["graph"] (aQ qN):=fS
theorem KF(D:aO K mg "first_bad" qN)(RG:GC K CG)(R:KC K CK)(C1:aK P w K mg base "lone_points" 3 ["count"] (qw CK))(M1:bE P w K mg base CK "merge_all" 3 ["self","edges"] (qv K CK))
  (C2:∀r,aK P w K mg base "first_bad_from" (r+4) ["clusters","pars","chosen"] (wx K CK r)):aK P w K mg base "first_bad" 15 ["graph"] (wy K CG):=by
 refine D.cal Bw (fun vs H Q E h=>?_) (fun fa cdv A outer s H vs Q E hr h=>?_)
 ·obtain⟨_,_,_,_,rfl,_⟩:=h
  rfl
 ·obtain⟨g,n,es,ps,rfl,hG,hok,hp10,k1,k2⟩:=h
  have nd:=Bw.nd
  have hr3:=hr.mono (show 3<=14 by decide)
  have hrp:=hr.mono (show ps.length+4<=14 by omega)
  refine⟨_,aG (aT (i:=1) nd rfl (aJ rfl) (pc C1 hr3 (aB (aX (pv 0) rfl) aC)))
   (aG (aj (dH (cA (pm R.cl M1 hr3 (pv 1) (aB (aX (pv 0) rfl) aC))))
    (aI (aN (eS (own:=[("par",2)]) rfl nd (c6 (aX (pv 0) rfl)) (dc (N:=["graph","clusters","par"]) (sc:=aQ qN) (by decide+kernel)) (fun _ _ _ _ _=>bN (i:=2) nd rfl (aJ rfl)) (fun _ _ _ _ _=>eR) (fun _ _ _ _ _=>aR)))) ay)
   (aI (aN (pc (C2 ps.length) hrp (aB (pv 1) (aB (aX (pv 0) rfl) (aB (au aC) aC))))))),?_⟩
  obtain⟨dx,b,c,zs,ys,h1,h2,h3,h4,h5⟩:=id hG.ex
  have hsl:=sizeLine_eq
  have hyl:=h5.length
  refine⟨_,rfl,g,CG,dx,_,_,rfl,h1,RG.cl,RG.n1,wd _ _ _,n,rfl,hok.n,fun q u dq H1 s1 hq hu hC1=>?_⟩
  refine⟨_,rfl,q,dq,_,rfl,hC1.ins,iT _ _ rfl rfl,?_⟩
  refine⟨_,rfl,g,CG,dx,_,_,rfl,s1 _ _ h1,RG.cl,RG.n2,we _ _ _,?_⟩
  have hbu:b≠u:=ae h2 hu
  refine⟨q,u,dq,_,_,_,_,b,zs,es,rfl,hC1,s1 _ _ h2,hbu,Paired.mono (fun _ _ z=>z.same s1) h3,by rw[cS];exact hok.fit,fun l' rt' rk' H4 el f4 hC4=>?_⟩
  rw[cS] at el
  have s04:=f4.same s1 hq hu
  refine⟨_,rfl,?_⟩
  refine aU (fun z=>?_) (fun z=>?_)<;>rw[mE] at z
  ·refine⟨_,rfl,g,CG,dx,_,_,rfl,s04 _ _ h1,RG.cl,RG.n3,k5 _ _ _,c,rfl,⟨_,aE.of (s04 _ _ h4)⟩,fun D1 hD1=>?_⟩
   refine fT (K:=K) (a:=c) (xs:=ys) (fun i H''=>aA H4 H''/\H'' D1=some (.lst (gy i (V.int 0)))) ⟨aA.upd hD1,aF⟩ ?_ ?_ ?_
   ·rintro i H'' _ ⟨s7,_⟩
    exact aE.of (s7 _ _ (s04 _ _ h4))
   ·rintro i x H'' hx ⟨s7,h7⟩
    have hil:=(bC.mp hx).1
    refine⟨rfl,_,h7,by rw[oR];omega,aA.upd2 s7 hD1,?_⟩
    rw[aF,ED]
   ·rintro H'' ⟨s7,h7⟩
    refine k2 _ (if_pos z) D1 _ (s04.trans s7) ?_
    rw[h7,hyl,EE];rfl
  ·have efb:nc n es ps=fb (takeEdges es (bJ n,false)).1 ps:=if_neg z
   rw[efb] at k1 k2
   refine⟨_,rfl,_,rfl,g,CG,dx,_,_,rfl,s04 _ _ h1,RG.cl,RG.n3,k5 _ _ _,bF _,fun d hd=>?_⟩
   have s5:aA H4 (upd H4 d (.lst [])):=aA.upd hd
   have hd5:(upd H4 d (.lst [])) d=some (.lst []):=aF
   generalize upd H4 d (.lst [])=H5 at s5 hd5⊢
   have s05:=s04.trans s5
   exact⟨q,u,dq,l',rt',rk',_,c,ys,ps,d,[],rfl,hC4.same s5,s05 _ _ h4,Paired.mono (fun _ _ z=>z.same s05) h5,hd5,by show 0+ps.length=_;omega,by rw[el];exact hok.fitp,hok.p,fun hn H6 s6=>k1 hn _ (s05.trans s6),fun wl hw e H6 s6 he=>k2 wl hw e _ (s05.trans s6) he⟩
end
section
variable{P:Program}{w:World}{K:aD}{mg:Str->Option Value}{base:Heap}{C CK CG:Addr}
def Bx(K:aD)(CG:Addr):Sp:=fun vs H Q _=>∃g n es ps,vs=[.ref g]/\jt K CG H g n es ps/\qy n es ps/\∀H',aA H H'->Q (.bl (ng n es ps)) H'
theorem By:aZ ["graph","clusters","waiting","taken","left","par"] ["graph"] (aQ uw):=fS
theorem KG(D:aO K mg "draws_together" uw)(RG:GC K CG)(R:KC K CK)(T:cY K mg)(C1:aK P w K mg base "lone_points" 3 ["count"] (qw CK))(M1:bE P w K mg base CK "merge_all" 3 ["self","edges"] (qv K CK))
  (M2:bE P w K mg base CK "leader" 1 ["self","point"] (wo CK))(M3:bE P w K mg base CK "merge" 2 ["self","point","other"] (qu CK)):aK P w K mg base "draws_together" 4 ["graph"] (Bx K CG):=by
 refine D.cal By (fun vs H Q E h=>?_) (fun fa cdv A outer s H vs Q E hr h=>?_)
 ·obtain⟨_,_,_,_,rfl,_⟩:=h
  rfl
 ·obtain⟨g,n,es,ps,rfl,hG,hok,k⟩:=h
  have nd:=By.nd
  have hr1:=hr.mono (show 1<=3 by decide)
  have hr2:=hr.mono (show 2<=3 by decide)
  refine⟨_,aG (aT (i:=1) nd rfl (aJ rfl) (pc C1 hr (aB (aX (pv 0) rfl) aC)))
   (aG (aj (dH (cA (pm R.cl M1 hr (pv 1) (aB (aX (pv 0) rfl) aC)))) (aI (aN dj)) ay)
   (aG (aT (i:=2) nd rfl (aJ rfl) (aX (pv 0) rfl))
   (aG (aT (i:=3) nd rfl (aJ rfl) dj)
   (aG (iI PassesOwn.never (cA (pv 3))
    (aG (aT (i:=4) nd rfl (aJ rfl) (au aC))
    (aG (dy PassesOwn.never rfl (c6 (pv 2)) (bN (i:=5) nd rfl (aJ rfl))
     (aI (aj (ao mh (pm R.cl M2 hr1 (pv 1) (aB (aa cX (pv 5) aR (fun _ _=>rfl)) aC)) (pm R.cl M2 hr1 (pv 1) (aB (aa cX (pv 5) aR (fun _ _=>rfl)) aC)) (ak _))
      (aI (bV (cG bR cw cy c7 (pv 4) (aB (pv 5) aC))))
      (aI (aj (dH (cA (pm R.cl M3 hr2 (pv 1) (aB (aa cX (pv 5) aR (fun _ _=>rfl)) (aB (aa cX (pv 5) aR (fun _ _=>rfl)) aC))))) (aI (aN dj)) ay)))))
    (aG (aT (i:=3) nd rfl (aJ rfl) (il jb (bD bI (by rfl) T.len bM (aB (pv 4) aC)) (bD bI (by rfl) T.len bM (aB (pv 2) aC)) (ak _)))
    (aI (aT (i:=2) nd rfl (aJ rfl) (pv 4)))))))
   (aI (aN (lJ (il iJ (aX (pv 1) rfl) aR (ak _)) (lI (KD (pv 2)))))))))),?_⟩
  obtain⟨dx,b,c,zs,ys,h1,h2,h3,h4,h5⟩:=id hG.ex
  have hsl:=sizeLine_eq
  have hyl:=h5.length
  refine⟨_,rfl,g,CG,dx,_,_,rfl,h1,RG.cl,RG.n1,wd _ _ _,n,rfl,hok.n,fun q u dq H1 s1 hq hu hC1=>?_⟩
  refine⟨_,rfl,q,dq,_,rfl,hC1.ins,iT _ _ rfl rfl,?_⟩
  refine⟨_,rfl,g,CG,dx,_,_,rfl,s1 _ _ h1,RG.cl,RG.n2,we _ _ _,?_⟩
  have hbu:b≠u:=ae h2 hu
  refine⟨q,u,dq,_,_,_,_,b,zs,es,rfl,hC1,s1 _ _ h2,hbu,Paired.mono (fun _ _ z=>z.same s1) h3,by rw[cS];exact hok.fit,fun l' rt' rk' H4 el f4 hC4=>?_⟩
  rw[cS] at el
  have s04:=f4.same s1 hq hu
  refine⟨_,rfl,?_⟩
  refine aU (fun z=>?_) (fun z=>?_)<;>rw[mE] at z
  ·have e:ng n es ps=false:=if_pos z
   rw[e] at k
   exact k H4 s04
  have ev:ng n es ps=vd ps.length ps (takeEdges es (bJ n,false)).1:=if_neg z
  rw[ev] at k
  generalize vd ps.length ps (takeEdges es (bJ n,false)).1=vv at k ev
  have hcu:c≠u:=ae h4 hu
  refine⟨_,rfl,g,CG,dx,_,_,rfl,s04 _ _ h1,RG.cl,RG.n3,k5 _ _ _,?_⟩
  refine⟨fun m σ H'=>∃(wa:Addr) (ws:List V) (wt:List Par) (t:Bool) (x1 x2:Option V) (l1:List Nat) (rt1 rk1:Nat->Nat) (c1:Parts),m=(if t then wt.length+1 else 0)/\σ=[some (.ref g),some (.ref q),some (.ref wa),some (.bl t),x1,x2]/\aA H H'/\CL CK q u dq H' l1 rt1 rk1 c1/\l1.length=n/\H' wa=some (.lst ws)/\wa≠u/\
    Paired (cZ K H') ws wt/\cC n wt/\wt.length<=100000/\vd wt.length wt c1=vv/\(t=false->∀p∈wt,together p.2.1 p.2.2 c1=false),
   ⟨_,c,ys,ps,true,none,none,l',rt',rk',_,rfl,rfl,s04,hC4,el,s04 _ _ h4,hcu,Paired.mono (fun _ _ z=>z.same s04) h5,hok.fitp,hok.p,?_,fun h=>nomatch h⟩,?_⟩
  ·rw[<-ev];exact(if_neg z).symm
  rintro m σ H' ⟨wa,ws,wt,t,x1,x2,l1,rt1,rk1,c1,rfl,rfl,sH,hCl,el1,hwa,hwu,hws,hfw,hwl,hvd,hft⟩
  refine⟨_,rfl,_,rfl,?_⟩
  refine aU (fun e=>?_) (fun e=>?_)
  ·cases e
   refine⟨_,fun _ _ h=>h,bF _,fun ld hld=>?_⟩
   have s5:aA H' (upd H' ld (.lst [])):=aA.upd hld
   have hld5:(upd H' ld (.lst [])) ld=some (.lst []):=aF
   have hld0:=sH.free hld
   have hlu:ld≠u:=fun e=>by rw[e,hCl.lst] at hld;cases hld
   have hlq:ld≠q:=fun e=>by rw[e,hCl.ins] at hld;cases hld
   have hwld:wa≠ld:=ae hwa hld
   have hwq:wa≠q:=dG hwa hCl.ins (by intro e;cases e)
   have hwsl:=hws.length
   generalize upd H' ld (.lst [])=H5 at s5 hld5⊢
   refine⟨_,rfl,wa,rfl,⟨_,aE.of (s5 _ _ hwa)⟩,gY (K:=K) (a:=wa) (xs:=ws) (fun i σ H2=>∃(x:Option V) (Lv:List V) (L:List Par) (l2:List Nat) (rt2 rk2:Nat->Nat) (c2:Parts),σ=[some (.ref g),some (.ref q),some (.ref wa),some (.bl true),some (.ref ld),x]/\aA H H2/\CL CK q u dq H2 l2 rt2 rk2 c2/\l2.length=n/\H2 wa=some (.lst ws)/\
     Paired (cZ K H2) ws wt/\H2 ld=some (.lst Lv)/\Paired (cZ K H2) Lv L/\cC n L/\L.length<=i/\vd (L++wt.drop i).length (L++wt.drop i) c2=vv/\(L.length=i->c2=c1/\∀p∈L,together p.2.1 p.2.2 c1=false))
    ⟨x2,[],[],l1,rt1,rk1,c1,rfl,sH.trans s5,hCl.same s5,el1,s5 _ _ hwa,Paired.mono (fun _ _ z=>z.same s5) hws,hld5,.nil,(fun _ h=>nomatch h),bF _,hvd,fun _=>⟨rfl,fun _ h=>nomatch h⟩⟩ ?_ ?_ ?_⟩
   ·rintro i σ H2 _ ⟨_,_,_,_,_,_,_,_,_,_,_,h,_⟩
    exact aE.of h
   ·rintro i x σ H2 hx ⟨x0,Lv,L,l2,rt2,rk2,c2,rfl,sH2,hC2,el2,hwa2,hws2,hld2,hLv,hfL,hLi,hvd2,hsame⟩
    obtain⟨p,hp,va,rfl,hva⟩:=bw hws2 hx
    have hfp:=hfw p (cv hp)
    have hiw:i<wt.length:=(bC.mp hp).1
    have hdrop:wt.drop i=p::wt.drop (i+1):=by
     rw[fg hiw]
     rw[bU hiw] at hp
     cases hp;rfl
    have hfd:cC n (wt.drop (i+1)):=fun p' hp'=>hfw p' (oH hp')
    rw[hdrop] at hvd2
    have hLl:=hLv.length
    refine⟨_,rfl,q,dq,_,rfl,hC2.ins,iT _ _ rfl rfl,?_⟩
    refine⟨_,rfl,va,_,_,_,rfl,rfl,hva,ah (j:=1) rfl,?_⟩
    refine⟨q,u,dq,l2,rt2,rk2,c2,p.2.1,rfl,hC2,by omega,fun l3 H3 el3 f3 hC3=>?_⟩
    have hva3:=(Fa.fq (q:=q) f3).tup hC2 hva
    refine⟨_,rfl,q,dq,_,rfl,hC3.ins,iT _ _ rfl rfl,?_⟩
    refine⟨_,rfl,va,_,_,_,rfl,rfl,hva3,ah (j:=2) rfl,?_⟩
    refine⟨q,u,dq,l3,rt2,rk2,c2,p.2.2,rfl,hC3,by omega,fun l4 H6 el6 f6 hC6=>?_⟩
    have f26:=(f3.trans f6).fq (q:=q)
    have hva6:=f26.tup hC2 hva
    have sH6:=f26.same sH2 hq hu
    have hwa6:H6 wa=some (.lst ws):=(f26 wa hwq hwu).trans hwa2
    have hld6:H6 ld=some (.lst Lv):=(f26 ld hlq hlu).trans hld2
    have hws6:Paired (cZ K H6) ws wt:=Paired.mono (fun _ _ z=>f26.isP3 hC2 z) hws2
    have hLv6:Paired (cZ K H6) Lv L:=Paired.mono (fun _ _ z=>f26.isP3 hC2 z) hLv
    have htg:=hC6.tells.together (a:=p.2.1) (b:=p.2.2) (by omega) (by omega)
    refine⟨rfl,_,rfl,?_⟩
    rw[n9,<-htg]
    refine aU (fun e=>?_) (fun e=>?_)
    ·have e:together p.2.1 p.2.2 c2=false:=by simpa using e
     refine⟨_,rfl,.inl ⟨rfl,_,aE.of hld6⟩,_,rfl,ld,_,_,rfl,rfl,hld6,by omega,?_⟩
     refine⟨some (.ref va),Lv++[.ref va],L++[p],l4,rt2,rk2,c2,rfl,aA.upd2 sH6 hld0,⟨by rw[aP hlq.symm];exact hC6.ins,by rw[aP hlu.symm];exact hC6.lst,hC6.uf,hC6.tells,hC6.small⟩,by omega,by rw[aP hwld];exact hwa6,Paired.mono (fun _ _ z=>z.upd hld6) hws6,aF,Paired.snoc (Paired.mono (fun _ _ z=>z.upd hld6) hLv6) (cZ.upd ⟨va,rfl,hva6⟩ hld6),?_,?_,?_,?_⟩
     ·intro p' hp'
      rcases dD.mp hp' with z|z
      ·exact hfL p' z
      ·rw[gO.mp z];exact hfp
     ·rw[aS];show L.length+1<=i+1;omega
     ·rw[dh];exact hvd2
     ·intro z
      rw[aS] at z
      have z:L.length+1=i+1:=z
      obtain⟨q1,q2⟩:=hsame (by omega)
      refine⟨q1,fun p' hp'=>?_⟩
      rcases dD.mp hp' with z|z
      ·exact q2 p' z
      ·rw[gO.mp z,<-q1];exact e
    ·have e:together p.2.1 p.2.2 c2=true:=by simpa using e
     have hc2:c2.length=n:=by rw[hC2.len];exact el2
     have hfa:cC c2.length (L++p::wt.drop (i+1)):=by
      rw[hc2]
      intro p' hp'
      rcases dD.mp hp' with z|z
      ·exact hfL p' z
      ·rcases bc.mp z with z|z
       ·rw[z];exact hfp
       ·exact hfd p' z
     rw[MG.Ef hfa e] at hvd2
     refine⟨_,rfl,q,dq,_,rfl,hC6.ins,iT _ _ rfl rfl,?_⟩
     refine⟨_,rfl,va,_,_,_,rfl,rfl,hva6,ah (j:=0) rfl,_,rfl,va,_,_,_,rfl,rfl,hva6,ah (j:=1) rfl,?_⟩
     refine⟨q,u,dq,l4,rt2,rk2,c2,p.1,p.2.1,rfl,hC6,by omega,by omega,fun l7 rt7 rk7 H7 el7 f7 hC7=>?_⟩
     refine⟨_,rfl,?_⟩
     refine aU (fun z=>?_) (fun z=>?_)<;>rw[mE] at z
     ·rw[z,if_pos rfl] at hvd2
      rw[<-hvd2] at k
      exact k H7 (f7.same sH6 hq hu)
     ·rw[if_neg z] at hvd2
      refine⟨some (.ref va),Lv,L,l7,rt7,rk7,_,rfl,f7.same sH6 hq hu,hC7,by omega,(f7 wa hwq hwu).trans hwa6,Paired.mono (fun _ _ z=>f7.isP3 hC6 z) hws6,(f7 ld hlq hlu).trans hld6,Paired.mono (fun _ _ z=>f7.isP3 hC6 z) hLv6,hfL,by omega,hvd2,fun z=>by omega⟩
   ·rintro σ H2 ⟨x0,Lv,L,l2,rt2,rk2,c2,rfl,sH2,hC2,el2,hwa2,hws2,hld2,hLv,hfL,hLi,hvd2,hsame⟩
    have hLl:=hLv.length
    rw[hwsl,xk,d8] at hvd2
    rw[hwsl] at hsame hLi
    refine⟨_,rfl,ld,_,rfl,.inl (aE.of hld2),_,rfl,wa,_,rfl,.inl (aE.of hwa2),_,_,rfl,rfl,?_⟩
    refine⟨_,rfl,_,?_,ld,Lv,L,decide ((Lv.length:Int)<(ws.length:Int)),some (.ref ld),x0,l2,rt2,rk2,c2,rfl,rfl,sH2,hC2,el2,hld2,hlu,hLv,hfL,by omega,hvd2,fun z=>?_⟩
    ·by_cases z:(Lv.length:Int)<(ws.length:Int)
     ·rw[decide_eq_true z,if_pos rfl,if_pos rfl];omega
     ·rw[decide_eq_false z,if_neg (by decide),if_pos rfl];omega
    ·have z:=of_decide_eq_false z
     obtain⟨q1,q2⟩:=hsame (by omega)
     rw[q1];exact q2
  ·have e:t=false:=by simpa using e
   rw[MG.sQ (hft e)] at hvd
   refine⟨_,rfl,q,CK,dq,_,_,rfl,hCl.ins,R.cl,R.n2,n8 _ _,rfl,_,rfl,?_⟩
   have ev:decide (vn (countParts c1)=V.int 1)=decide (countParts c1=1):=n9 (b:=1)
   rw[ev]
   have hwsl:=hws.length
   refine aU (fun z=>?_) (fun z=>?_)
   ·refine⟨_,rfl,!ws.isEmpty,.inl ⟨_,aE.of hwa,rfl⟩,?_⟩
    have e1:vv=ws.isEmpty:=by
     rw[<-hvd,of_decide_eq_true z]
     cases ws<;>cases wt<;>first|rfl|cases hwsl
    rw[mE,<-e1]
    exact k H' sH
   ·have e1:vv=false:=by
     rw[<-hvd]
     have:¬countParts c1=1:=fun y=>z (decide_eq_true y)
     rw[beq_false_of_ne this,xb]
    rw[<-e1]
    exact k H' sH
end
open Vanetc (Net Parts join together countParts takeEdges Edge Par parEdges formulas points pars edges tensorEdges linkEdges cutEdges apart firstBad isNet draws graph switchings rootsFrom)
open MG (lb Uf Tells aw cC fb dM vd Eqv eK)
theorem KH{to:List Nat}(h:∀j∈to,j<to.length):∀x∈lks to,x.1<to.length/\x.2<to.length:=fun x hx=>by
 unfold lks at hx
 obtain⟨y,hy,e⟩:=rX.mp hx
 split at e
 ·cases e
  have:=oO hy
  exact⟨fN.mp this.1,h _ this.2⟩
 ·cases e
theorem Bz{l:List Nat}{n i:Nat}(h:∀x∈l,x<n)(hi:i<l.length):l.getD i 0<n:=by
 rw[d9,bU hi]
 exact h _ (Lq hi)
theorem CA{s:Net}(h:bQ s):aw (points s).length (fD s):=by
 have hg:=h.good
 have hpl:=nZ hg
 have hlp:∀x∈dA 0 (aM (formulas s)),x<(aM (formulas s)).length:=fun x hx=>by have:=(MGr.yb _ 0 x hx).2;omega
 have hle:=h.leaves
 have hln:=qj h.lnk
 rw[hpl]
 refine qx (qx ?_ ?_) ?_
 ·rw[nY s hg]
  intro e he
  obtain⟨x,hx,rfl⟩:=cT.mp he
  have:=KH hln x hx
  exact⟨Bz hlp (by omega),Bz hlp (by omega)⟩
 ·intro e he
  have hm:=MGr.ye he
  have r:∀x∈(rootsFrom 0 (formulas s)).drop s.concl.length,x<(aM (formulas s)).length:=fun x hx=>by
   have:=(MGr.yc hg 0 x (oH hx)).2;omega
  exact⟨r _ hm.1,r _ hm.2⟩
 ·show aw _ (tensorEdges (Mi 0 (formulas s)))
  rw[MGr.tM hg]
  intro e he
  obtain⟨x,hx,hm⟩:=fh.mp he
  have hl:=wk hg x hx
  split at hm
  ·rcases bc.mp hm with rfl|hm
   ·exact⟨hl.1,hl.2.1⟩
   ·rw[gO.mp hm];exact⟨hl.1,hl.2.2⟩
  ·cases hm
theorem rA{s:Net}(h:bQ s):cC (points s).length (pars s):=by
 have hg:=h.good
 rw[nZ hg,wj s hg]
 intro p hp
 exact wk hg p (kf.mp hp).1
theorem CB(ns:List (List UInt8)):∀fs:List (Nat×Nat×Nat),(gW ns fs).length<=2*fs.length
 |[]=>bF _
 |x::r=>by
  have:=CB ns r
  unfold gW at this⊢
  rw[kh,aS,aV]
  split
  ·show 2+_<=_;omega
  ·show 0+_<=_;omega
theorem rB{s:Net}(h:bQ s):qy (points s).length (fD s) (pars s):=by
 have hg:=h.good
 have hsm:=h.small
 have hfl:=w9 0 (formulas s) hg
 refine⟨CA h,rA h,by rw[nZ hg];omega,?_,?_⟩
 ·unfold fD
  rw[aS,aS]
  have h1:(linkEdges (points s) s.to).length<=120:=by
   rw[nY s hg,aL];have:=lU s.to;have:=h.l120;omega
  have h2:(cutEdges s).length<=20:=by rw[qp,aL,cS];exact h.d20
  have h3:(tensorEdges (points s)).length<=2*(fk 0 (formulas s)).length:=by
   show(tensorEdges (Mi 0 (formulas s))).length<=_
   rw[MGr.tM hg];exact CB _ _
  omega
 ·rw[wj s hg]
  refine bW (oC _ _) ?_
  omega
theorem CC{s:Net}(h:bQ s):aw (apart s).length (edges s):=by
 have:(apart s).length=(points s).length:=cS
 rw[this]
 intro e he
 exact CA h e ((wg s).mem_iff.mp he)
theorem CD{s:Net}(h:bQ s):Eqv (takeEdges (edges s) (apart s,false)).1 (takeEdges (fD s) (apart s,false)).1/\(takeEdges (edges s) (apart s,false)).2=(takeEdges (fD s) (apart s,false)).2:=MG.yA (wg s) (CC h)
theorem CF{s:Net}(h:bQ s)(w:List Bool):graph s w=((takeEdges (fD s++parEdges (pars s) w) (bJ (points s).length,false)).2,countParts (takeEdges (fD s++parEdges (pars s) w) (bJ (points s).length,false)).1):=by
 have hp:(edges s++parEdges (pars s) w).Perm (fD s++parEdges (pars s) w):=(wg s).append_right _
 have hf:aw (apart s).length (edges s++parEdges (pars s) w):=qx (CC h) (wq (by rw[show(apart s).length=(points s).length from cS];exact rA h))
 obtain⟨h1,h2⟩:=MG.yA hp hf
 unfold graph
 show((takeEdges _ (apart s,false)).2,countParts (takeEdges _ (apart s,false)).1)=_
 rw[h2,h1.count];rfl
theorem KI{s:Net}(w:List Bool)(hc:(takeEdges (edges s) (apart s,false)).2=false):(!rg s w)=eK (takeEdges (edges s) (apart s,false)).1 (pars s) w:=by
 have e:takeEdges (edges s++parEdges (pars s) w) (apart s,false)=takeEdges (parEdges (pars s) w) ((takeEdges (edges s) (apart s,false)).1,false):=by
  have:takeEdges (edges s) (apart s,false)=((takeEdges (edges s) (apart s,false)).1,false):=Prod.ext rfl hc
  rw[MG.take_append,this]
 unfold rg graph eK
 show(!(!(takeEdges (edges s++parEdges (pars s) w) (apart s,false)).2&&countParts (takeEdges (edges s++parEdges (pars s) w) (apart s,false)).1==1))=_
 rw[e,Bool.not_and,mE]
 rfl
theorem KJ{s:Net}(w:List Bool)(hc:(takeEdges (edges s) (apart s,false)).2=true):(!rg s w)=true:=by
 have e:(takeEdges (edges s++parEdges (pars s) w) (apart s,false)).2=true:=by
  rw[MG.take_append]
  have:takeEdges (edges s) (apart s,false)=((takeEdges (edges s) (apart s,false)).1,true):=Prod.ext rfl hc
  rw[this,MG.oo]
 unfold rg graph
 show(!(!(takeEdges (edges s++parEdges (pars s) w) (apart s,false)).2&&_))=true
 rw[e];rfl
theorem CI{α:Type}{f g:α->Bool}:∀{l:List α},(∀x∈l,f x=g x)->l.find? f=l.find? g
 |[],_=>rfl
 |x::r,h=>by
  rw[oF,oF,h x bY,CI fun y hy=>h y (ba _ hy)]
theorem rC{s:Net}(h:bQ s):nc (points s).length (fD s) (pars s)=firstBad s:=by
 obtain⟨h1,h2⟩:=CD h
 unfold nc firstBad
 show(if(takeEdges (fD s) (apart s,false)).2=true then _ else fb (takeEdges (fD s) (apart s,false)).1 (pars s))=_
 rw[<-h2]
 split
 ·rename_i hc
  exact(MG.sM _ fun w _=>KJ w hc).symm
 ·rename_i hc
  have hc:=dI.mpr hc
  rw[MG.sN]
  refine CI fun w _=>?_
  rw[KI w hc]
  refine(MG.Ea h1 (wq ?_)).symm
  rw[MG.take_length,show(apart s).length=(points s).length from cS]
  exact rA h
theorem KL{s:Net}(h:bQ s):ng (points s).length (fD s) (pars s)=draws s:=by
 obtain⟨h1,h2⟩:=CD h
 rw[MG.Eg]
 unfold ng
 show(if(takeEdges (fD s) (apart s,false)).2=true then _ else vd _ _ (takeEdges (fD s) (apart s,false)).1)=_
 rw[<-h2]
 split
 ·rfl
 ·refine(MG.Ee h1 ?_).symm
  rw[MG.take_length,show(apart s).length=(points s).length from cS]
  exact rA h
theorem KM(s:Net):isNet s=(firstBad s).isNone:=by
 unfold isNet firstBad
 rw[ck,cJ,Option.isNone_iff_eq_none,MC]
 constructor
 ·intro h w hw;rw[h w hw];decide
 ·intro h w hw
  have:=h w hw
  cases e:rg s w
  ·rw[e] at this;exact absurd rfl this
  ·rfl
open Vaneta (Formula dual leaves Name isName two nodes signs atoms)
open Vanetc (Net Par formulas points pars pointsFrom Point linked allLeaves fitting tensors)
open MGr (fk dA gW iD zA zs pE)
theorem KN{t:Bool}{a:Name}{c:UInt8}(hc:c=42\/c=124)(h:isName a=true):bG (t,a)≠[c]:=by
 have:=MF.gR (t:=t) h
 unfold bP at this
 rw[ag] at this
 rcases hc with rfl|rfl
 ·intro e;rw[e] at this;exact absurd this.1 (by decide)
 ·intro e;rw[e] at this;exact absurd this.2 (by decide)
theorem nh{c:UInt8}(hc:c=42\/c=124):∀{A:Formula},good A=true->(nl A).count [c]=signs c A
 |.atom t a,h=>by
  show EI [c] [bG (t,a)]=0
  rw[List.count_singleton]
  have:bG (t,a)≠[c]:=KN hc h
  rw[beq_false_of_ne this];rfl
 |.tensor A B,h=>by
  have h':=MF.bS.mp h
  show EI [c] ([42]::(nl A++nl B))=(if c=42 then 1 else 0)+signs c A+signs c B
  rw[EJ,EK,nh hc h'.1,nh hc h'.2]
  rcases hc with rfl|rfl
  ·rw[if_pos rfl,if_pos (by decide)];omega
  ·rw[if_neg (by decide),if_neg (by decide)];omega
 |.par A B,h=>by
  have h':=MF.bS.mp h
  show EI [c] ([124]::(nl A++nl B))=(if c=124 then 1 else 0)+signs c A+signs c B
  rw[EJ,EK,nh hc h'.1,nh hc h'.2]
  rcases hc with rfl|rfl
  ·rw[if_neg (by decide),if_neg (by decide)];omega
  ·rw[if_pos rfl,if_pos (by decide)];omega
 |.wth A B,h=>nomatch h
 |.plus A B,h=>nomatch h
 |.ofc A,h=>nomatch h
 |.whn A,h=>nomatch h
theorem foldl_add:∀(l:List Nat) (n:Nat),l.foldl (·+·) n=n+l.sum
 |[],n=>by simp
 |x::r,n=>by
  rw[List.foldl_cons,foldl_add r,ki];omega
theorem wz{c:UInt8}(hc:c=42\/c=124):∀{fs:List Formula},fs.all good=true->(aM fs).count [c]=(fs.map (signs c)).sum
 |[],_=>rfl
 |A::r,h=>by
  have h':=MF.dX.mp h
  rw[MF.cD,EK,nh hc h'.1,wz hc h'.2];rfl
theorem KO{s:Net}(h:bQ s):tensors s=(aM (formulas s)).count [42]:=by
 rw[wz (aJ rfl) h.good]
 unfold tensors
 rw[foldl_add];omega
theorem nk:∀{A:Formula},good A=true->∀o,((zA o A).filterMap pE).length=signs 124 A
 |.atom t a,h,o=>rfl
 |.tensor A B,h,o=>by
  have h':=MF.bS.mp h
  have e:zA o (.tensor A B)=(o,.tensor (o+1) (o+1+nodes A))::(zA (o+1) A++zA (o+1+nodes A) B):=rfl
  rw[e,List.filterMap_cons_none rfl,xo,aS,nk h'.1,nk h'.2]
  show _=(if(124:UInt8)=42 then 1 else 0)+signs 124 A+signs 124 B
  rw[if_neg (by decide)];omega
 |.par A B,h,o=>by
  have h':=MF.bS.mp h
  have e:zA o (.par A B)=(o,.par (o+1) (o+1+nodes A))::(zA (o+1) A++zA (o+1+nodes A) B):=rfl
  rw[e,List.filterMap_cons_some (b:=(o,o+1,o+1+nodes A)) (show pE (o,Point.par (o+1) (o+1+nodes A))=some _ from rfl),aV,xo,aS,nk h'.1,nk h'.2]
  show _=(if(124:UInt8)=124 then 1 else 0)+signs 124 A+signs 124 B
  rw[if_pos rfl];omega
 |.wth A B,h,_=>nomatch h
 |.plus A B,h,_=>nomatch h
 |.ofc A,h,_=>nomatch h
 |.whn A,h,_=>nomatch h
theorem CJ:∀{fs:List Formula},fs.all good=true->∀o,((zs o fs).filterMap pE).length=(fs.map (signs 124)).sum
 |[],_,_=>rfl
 |A::r,h,o=>by
  have h':=MF.dX.mp h
  have e:zs o (A::r)=zA o A++zs (o+nodes A) r:=rfl
  rw[e,xo,aS,nk h'.1,CJ h'.2];rfl
theorem KP{s:Net}(h:bQ s):(pars s).length=(aM (formulas s)).count [124]:=by
 rw[wz (gQ rfl) h.good,<-CJ h.good 0,<-MGr.pF h.good]
 rfl
structure gn (L:List (Bool×Name)) (to:List Nat):Prop where
 len:to.length=L.length
 st:∀(i j:Nat),to[i]? =some j->to[j]? =some i/\∃x y,L[i]? =some x/\L[j]? =some y/\fitting x y=true
theorem lW{L:List (Bool×Name)}{to:List Nat}:linked L to=true↔gn L to:=by
 unfold linked
 rw[ag,beq_iff_eq,cJ]
 constructor
 ·rintro⟨h1,h2⟩
  refine⟨h1,fun i j e=>?_⟩
  have hi:=(bC.mp e).1
  have q:=h2 i (fN.mpr hi)
  rw[e] at q
  have q:(to[j]? ==some i&&_)=true:=q
  rw[ag,beq_iff_eq] at q
  refine⟨q.1,?_⟩
  have q2:=q.2
  split at q2
  ·rename_i x y hx hy
   exact⟨x,y,hx,hy,q2⟩
  ·cases q2
 ·rintro⟨h1,h2⟩
  refine⟨h1,fun i hi=>?_⟩
  have hi:=fN.mp hi
  have e:=bU hi
  rw[e]
  obtain⟨q1,x,y,q2,q3,q4⟩:=h2 i _ e
  show(to[to[i]]? ==some i&&_)=true
  rw[q1,q2,q3,ag]
  exact⟨beq_self_eq_true _,q4⟩
theorem xA(x:Bool×Name):fitting x x=false:=by
 unfold fitting
 rw[bne_self_eq_false,xb]
theorem gn.ne{L:List (Bool×Name)}{to:List Nat}(h:gn L to){i j:Nat}(e:to[i]? =some j):i≠j:=by
 rintro rfl
 obtain⟨_,x,y,q2,q3,q4⟩:=h.st i i e
 rw[q2] at q3
 cases q3
 rw[xA] at q4;cases q4
def ju(to:List Nat):List Nat:=(bJ to.length).filter fun i=>decide (i<to.getD i 0)
def nr(to:List Nat):List Nat:=(bJ to.length).filter fun i=> !decide (i<to.getD i 0)
theorem CM{α:Type}(f:α->Bool):∀l:List α,(l.filter f).length+(l.filter fun x=> !f x).length=l.length
 |[]=>rfl
 |x::r=>by
  have:=CM f r
  cases e:f x
  ·rw[EL (by rw[e];decide),EM (by rw[e];rfl),aV,aV];omega
  ·rw[EM e,EL (by rw[e];decide),aV,aV];omega
theorem gn.inj{L:List (Bool×Name)}{to:List Nat}(h:gn L to){i j k:Nat}(e:to[i]? =some k)(e':to[j]? =some k):i=j:=by
 have h1:=(h.st i k e).1
 rw[(h.st j k e').1] at h1
 exact(bL h1).symm
theorem getD_get{to:List Nat}{i:Nat}(h:i<to.length):to[i]? =some (to.getD i 0):=by
 rw[d9,bU h];rfl
theorem xB{f:Nat->Nat}:∀{l:List Nat},l.Nodup->(∀i∈l,∀j∈l,f i=f j->i=j)->(l.map f).Nodup
 |[],_,_=>rN
 |x::r,hn,h=>by
  rw[bg,jS]
  have hn:=jS.mp hn
  refine⟨fun hm=>?_,xB hn.2 fun i hi j hj=>h i (ba _ hi) j (ba _ hj)⟩
  obtain⟨y,hy,e⟩:=cT.mp hm
  exact hn.1 (h y (ba _ hy) x bY e▸hy)
theorem gn.half{L:List (Bool×Name)}{to:List Nat}(h:gn L to):2*(ju to).length=to.length:=by
 have hs:(ju to).length+(nr to).length=to.length:=by
  have:=CM (fun i=>decide (i<to.getD i 0)) (bJ to.length)
  rw[cS] at this;exact this
 have nu:(ju to).Nodup:=List.nodup_range.filter _
 have ndn:(nr to).Nodup:=List.nodup_range.filter _
 have inj:∀i,i<to.length->∀j,j<to.length->to.getD i 0=to.getD j 0->i=j:=fun i hi j hj e=>h.inj (getD_get hi) (by rw[e];exact getD_get hj)
 have mu:∀i∈ju to,i<to.length/\i<to.getD i 0:=fun i hi=>by
  have:=kf.mp hi
  exact⟨fN.mp this.1,of_decide_eq_true this.2⟩
 have md:∀i∈nr to,i<to.length/\¬i<to.getD i 0:=fun i hi=>by
  have:=kf.mp hi
  refine⟨fN.mp this.1,fun z=>?_⟩
  have q:=this.2
  rw[decide_eq_true z] at q;cases q
 have back:∀i,i<to.length->to.getD i 0<to.length/\to.getD (to.getD i 0) 0=i:=fun i hi=>by
  have q:=(h.st i _ (getD_get hi)).1
  refine⟨(bC.mp q).1,?_⟩
  rw[d9 (l:=to) (i:=to.getD i 0),q];rfl
 have l1:(ju to).length<=(nr to).length:=by
  rw[<-aL (f:=fun i=>to.getD i 0)]
  refine MG.kx _ _ (xB nu fun i hi j hj e=>inj i (mu i hi).1 j (mu j hj).1 e) fun x hx=>?_
  obtain⟨i,hi,rfl⟩:=cT.mp hx
  have⟨a1,a2⟩:=mu i hi
  have⟨b1,b2⟩:=back i a1
  refine kf.mpr ⟨fN.mpr b1,?_⟩
  rw[b2,decide_eq_false (by omega)];rfl
 have l2:(nr to).length<=(ju to).length:=by
  rw[<-aL (f:=fun i=>to.getD i 0)]
  refine MG.kx _ _ (xB ndn fun i hi j hj e=>inj i (md i hi).1 j (md j hj).1 e) fun x hx=>?_
  obtain⟨i,hi,rfl⟩:=cT.mp hx
  have⟨a1,a2⟩:=md i hi
  have⟨b1,b2⟩:=back i a1
  have:=h.ne (getD_get a1)
  refine kf.mpr ⟨fN.mpr b1,?_⟩
  rw[b2];exact decide_eq_true (by omega)
 omega
theorem KQ:∀to:List Nat,(lks to).length=(ju to).length:=by
 intro to
 have key:∀(m:List Nat),(∀i∈m,i<to.length)->((m.map fun i=>(i,to.getD i 0)).filterMap fun x=>if x.1<x.2 then some x else none).length=(m.filter fun i=>decide (i<to.getD i 0)).length:=by
  intro m
  induction m with
  |nil=>intro _;rfl
  |cons i r ih=>
   intro h
   have ih:=ih fun j hj=>h j (ba _ hj)
   rw[bg]
   by_cases e:i<to.getD i 0
   ·rw[oM,show(if(i,to.getD i 0).1<(i,to.getD i 0).2 then some (i,to.getD i 0) else none)=some (i,to.getD i 0) from if_pos e]
    show(_::_).length=_
    rw[EM (p:=fun i=>decide (i<to.getD i 0)) (decide_eq_true e),aV,aV,ih]
   ·rw[oM,show(if(i,to.getD i 0).1<(i,to.getD i 0).2 then some (i,to.getD i 0) else none)=none from if_neg e]
    rw[EL (by rw[decide_eq_false e];decide),ih]
 have ez:(bJ to.length).zip to=(bJ to.length).map fun i=>(i,to.getD i 0):=by
  apply rV
  intro i
  rw[bo]
  by_cases hi:i<to.length
  ·rw[jy hi]
   exact(Mh (z:=(i,to.getD i 0))).mpr ⟨jy hi,getD_get hi⟩
  ·rw[iW (by rw[rb,cS];omega),iW (by rw[cS];omega)];rfl
 unfold lks ju
 rw[ez]
 exact key _ fun i hi=>fN.mp hi
theorem KR{s:Net}(h:bQ s):(lks s.to).length=s.to.length/2:=by
 have:=(lW.mp h.lnk).half
 rw[KQ];omega
open Vaneta (Formula dual leaves Name isName two nodes signs atoms deep inBounds)
open Vanetc (Net formulas linked allLeaves fitting withSwap placed rotated)
theorem KS{A B:Formula}(h:inBounds (.par A B)=true):inBounds A=true/\inBounds B=true:=by
 unfold inBounds at h⊢
 rw[ag,ag,decide_eq_true_iff,decide_eq_true_iff,decide_eq_true_iff] at h
 obtain⟨h1,h2,h3⟩:=h
 have h1:atoms A+atoms B<=60:=h1
 have h2:1+nodes A+nodes B<=200:=h2
 have h3:1+max (deep A) (deep B)<=40:=h3
 have:=Nat.le_max_left (deep A) (deep B)
 have:=Nat.le_max_right (deep A) (deep B)
 constructor<;>rw[ag,ag,decide_eq_true_iff,decide_eq_true_iff,decide_eq_true_iff]<;>refine⟨by omega,by omega,by omega⟩
theorem bQ.same_leaves{s t:Net}(h:bQ s)(e:allLeaves t=allLeaves s)(et:t.to=s.to)(c20:t.concl.length<=20)(d20:t.cuts.length<=20)(cb:∀A∈t.concl,MP.good A=true/\inBounds A=true)(db:∀A∈t.cuts,MP.good A=true/\inBounds A=true):bQ t:=
 ⟨c20,d20,cb,db,by rw[et];exact h.l120,by rw[et,e];exact h.tol,by rw[et,e];exact h.lnk⟩
theorem CN{l new:List Formula}{i n:Nat}{A:Formula}(h:A∈placed l i n new):A∈l\/A∈new:=by
 unfold rh at h
 rcases dD.mp h with h|h
 ·exact .inl (List.mem_of_mem_take h)
 ·rcases dD.mp h with h|h
  ·exact .inr h
  ·exact .inl (oH h)
theorem CO{l new old:List Formula}{i n:Nat}(h:l=l.take i++(old++l.drop (i+n)))(e:new.flatMap leaves=old.flatMap leaves):(placed l i n new).flatMap leaves=l.flatMap leaves:=by
 unfold rh
 conv=>rhs;rw[h]
 rw[ff,ff,ff,ff,e]
theorem KU{l:List Formula}{i:Nat}{A:Formula}(h:l[i]? =some A):l=l.take i++([A]++l.drop (i+1)):=by
 have hi:=(bC.mp h).1
 have e:=(bC.mp h).2
 conv=>lhs;rw[<-ly i l]
 rw[fg hi,e];rfl
theorem CP{s:Net}{c:List Formula}(h:c.flatMap leaves=s.concl.flatMap leaves):allLeaves {s with concl:=c}=allLeaves s:=by
 show(c++_).flatMap leaves=(s.concl++_).flatMap leaves
 rw[ff,ff,h]
theorem KW{s:Net}(h:bQ s){i:Nat}{A B:Formula}(hi:s.concl[i]? =some (.par A B))(hl:s.concl.length<20):bQ {s with concl:=placed s.concl i 1 [A,B]}:=by
 have hm:=h.cb _ (cv hi)
 have hb:=KS hm.2
 have hg:=MF.bS.mp hm.1
 have hil:=(bC.mp hi).1
 refine h.same_leaves (CP (CO (KU hi) (by simp[leaves]))) rfl ?_ h.d20 (fun C hC=>?_) h.db
 ·show(placed s.concl i 1 [A,B]).length<=20
  unfold rh
  rw[aS,aS,cM,di]
  show _+(2+_)<=20
  omega
 ·rcases CN hC with q|q
  ·exact h.cb C q
  ·rcases bc.mp q with rfl|q
   ·exact⟨hg.1,hb.1⟩
   ·rw[gO.mp q];exact⟨hg.2,hb.2⟩
theorem KY{s:Net}(h:bQ s){i:Nat}{A B:Formula}{r:List Formula}(hd:s.concl.drop i=A::B::r)(hb:inBounds (.par A B)=true):bQ {s with concl:=placed s.concl i 2 [.par A B]}:=by
 have hA:A∈s.concl:=oH (by rw[hd];exact bY)
 have hB:B∈s.concl:=oH (i:=i) (by rw[hd];exact ba _ bY)
 have hsp:s.concl=s.concl.take i++([A,B]++s.concl.drop (i+2)):=by
  conv=>lhs;rw[<-ly i s.concl]
  rw[<-rS,hd];rfl
 have c20:=h.c20
 refine h.same_leaves (CP (CO hsp (by simp[leaves]))) rfl ?_ h.d20 (fun C hC=>?_) h.db
 ·show(placed s.concl i 2 [.par A B]).length<=20
  have e:=congrArg rR hsp
  unfold rh
  rw[aS,aS] at e⊢
  have e:s.concl.length=(s.concl.take i).length+(2+(s.concl.drop (i+2)).length):=e
  show _+(1+_)<=20
  omega
 ·rcases CN hC with q|q
  ·exact h.cb C q
  ·rw[gO.mp q]
   exact⟨MF.bS.mpr ⟨(h.cb A hA).1,(h.cb B hB).1⟩,hb⟩
theorem eV{A:Formula}(h:good A=true):good (dual A)=true:=by
 induction A with
 |atom t a=>exact h
 |tensor A B iA iB=>have h':=MF.bS.mp h;exact MF.bS.mpr ⟨iA h'.1,iB h'.2⟩
 |par A B iA iB=>have h':=MF.bS.mp h;exact MF.bS.mpr ⟨iA h'.1,iB h'.2⟩
 |_=>cases h
theorem KZ{s:Net}(h:bQ s){A:Formula}{r:List Formula}(hc:s.cuts=A::r)(hb:inBounds (.tensor A (dual A))=true)(hl:s.concl.length<20):bQ {s with concl:=s.concl++[.tensor A (dual A)],cuts:=r}:=by
 have hA:=h.db A (by rw[hc];exact bY)
 have d20:=h.d20
 refine h.same_leaves ?_ rfl ?_ ?_ (fun C hC=>?_) fun C hC=>h.db C (by rw[hc];exact ba _ hC)
 ·show((s.concl++[Formula.tensor A (dual A)])++r.flatMap fun A=>[A,dual A]).flatMap leaves=(s.concl++s.cuts.flatMap fun A=>[A,dual A]).flatMap leaves
  rw[hc]
  simp[leaves]
 ·show(s.concl++[_]).length<=20
  rw[aS];show _+1<=20;omega
 ·show r.length<=20
  rw[hc] at d20
  have:r.length+1<=20:=d20
  omega
 ·rcases dD.mp hC with q|q
  ·exact h.cb C q
  ·rw[gO.mp q]
   exact⟨MF.bS.mpr ⟨hA.1,eV hA.1⟩,hb⟩
theorem bQ.relinked{s:Net}(h:bQ s){to:List Nat}(hl:gn (allLeaves s) to):bQ {s with to:=to}:=by
 have e:to.length=s.to.length:=by rw[hl.len,h.tol]
 exact⟨h.c20,h.d20,h.cb,h.db,by rw[show({s with to:=to}:Net).to=to from rfl,e];exact h.l120,hl.len,lW.mpr hl⟩
theorem K0{L:List (Bool×Name)}{to:List Nat}(h:gn L to){i j a b:Nat}(hij:i≠j)(hi:to[i]? =some a)(hj:to[j]? =some b)(he:L[i]? =L[j]?):gn L ((((to.set i b).set j a).set a j).set b i):=by
 obtain⟨ha,x,y,hx,hy,hxy⟩:=h.st i a hi
 obtain⟨hb,x',y',hx',hy',hxy'⟩:=h.st j b hj
 have eL:x=x':=by rw[he,hx'] at hx;exact(bL hx).symm
 subst eL
 have nai:i≠a:=h.ne hi
 have nbj:j≠b:=h.ne hj
 have nfit:fitting x x≠true:=by rw[xA];decide
 have naj:a≠j:=by
  rintro rfl
  rw[hx'] at hy
  cases hy
  exact nfit hxy
 have nbi:b≠i:=by
  rintro rfl
  rw[hx] at hy'
  cases hy'
  exact nfit hxy'
 have nab:a≠b:=by
  rintro rfl
  exact hij (h.inj hi hj)
 have li:=(bC.mp hi).1
 have lj:=(bC.mp hj).1
 have la:=(bC.mp ha).1
 have lb':=(bC.mp hb).1
 have G:∀k:Nat,((((to.set i b).set j a).set a j).set b i)[k]? =if k=b then some i else if k=a then some j else if k=j then some a else if k=i then some b else to[k]? :=by
  intro k
  rw[l8,l8,l8,l8]
  simp only[cP]
  by_cases k1:b=k
  ·subst k1;rw[if_pos rfl,if_pos lb',if_pos rfl]
  have k1':¬k=b:=fun q=>k1 q.symm
  rw[if_neg k1,if_neg k1']
  by_cases k2:a=k
  ·subst k2;rw[if_pos rfl,if_pos la,if_pos rfl]
  have k2':¬k=a:=fun q=>k2 q.symm
  rw[if_neg k2,if_neg k2']
  by_cases k3:j=k
  ·subst k3;rw[if_pos rfl,if_pos lj,if_pos rfl]
  have k3':¬k=j:=fun q=>k3 q.symm
  rw[if_neg k3,if_neg k3']
  by_cases k4:i=k
  ·subst k4;rw[if_pos rfl,if_pos li,if_pos rfl]
  have k4':¬k=i:=fun q=>k4 q.symm
  rw[if_neg k4,if_neg k4']
 refine⟨by simp only[cP];exact h.len,fun k m e=>?_⟩
 rw[G] at e
 rw[G]
 have xy':=hxy'
 have fc:=ML.y6
 by_cases k1:k=b
 ·rw[if_pos k1] at e;cases e
  subst k1
  refine⟨?_,y',x,hy',hx,by rw[fc];exact hxy'⟩
  rw[if_neg nbi.symm,if_neg nai,if_neg hij,if_pos rfl]
 rw[if_neg k1] at e
 by_cases k2:k=a
 ·rw[if_pos k2] at e;cases e
  subst k2
  refine⟨?_,y,x,hy,hx',by rw[fc];exact hxy⟩
  rw[if_neg nbj,if_neg naj.symm,if_pos rfl]
 rw[if_neg k2] at e
 by_cases k3:k=j
 ·rw[if_pos k3] at e;cases e
  subst k3
  refine⟨?_,x,y,hx',hy,hxy⟩
  rw[if_neg nab,if_pos rfl]
 rw[if_neg k3] at e
 by_cases k4:k=i
 ·rw[if_pos k4] at e;cases e
  subst k4
  refine⟨?_,x,y',hx,hy',hxy'⟩
  rw[if_pos rfl]
 rw[if_neg k4] at e
 obtain⟨q1,x1,y1,q2,q3,q4⟩:=h.st k m e
 refine⟨?_,x1,y1,q2,q3,q4⟩
 have m1:m≠b:=by
  rintro rfl
  rw[hb] at q1;exact k3 (bL q1).symm
 have m2:m≠a:=by
  rintro rfl
  rw[ha] at q1;exact k4 (bL q1).symm
 have m3:m≠j:=by
  rintro rfl
  rw[hj] at q1;exact k1 (bL q1).symm
 have m4:m≠i:=by
  rintro rfl
  rw[hi] at q1;exact k2 (bL q1).symm
 rw[if_neg m1,if_neg m2,if_neg m3,if_neg m4];exact q1
theorem K1{s:Net}(h:bQ s){i j:Nat}(hi:i<s.to.length)(hj:j<s.to.length)(he:(allLeaves s)[i]? =(allLeaves s)[j]?):bQ (withSwap s i j):=by
 unfold withSwap
 show bQ (if i=j then s else _)
 split
 ·exact h
 ·rename_i n
  exact h.relinked (K0 (lW.mp h.lnk) n (getD_get hi) (getD_get hj) he)
open Vanetc (Net formulas linked allLeaves fitting rotated)
def c9(k m i:Nat):Nat:=if i<k then i+m else if i<k+m then i-k else i
def cq(k m j:Nat):Nat:=if j<m then j+k else if j<m+k then j-m else j
theorem xC(k m i:Nat):cq k m (c9 k m i)=i:=by
 unfold cq c9
 split
 ·rw[if_neg (by omega),if_pos (by omega)];omega
 ·split
  ·rw[if_pos (by omega)];omega
  ·rw[if_neg (by omega),if_neg (by omega)]
theorem CQ(k m i:Nat):c9 k m (cq k m i)=i:=by
 unfold cq c9
 split
 ·rw[if_neg (by omega),if_pos (by omega)];omega
 ·split
  ·rw[if_pos (by omega)];omega
  ·rw[if_neg (by omega),if_neg (by omega)]
theorem CS{k m n j:Nat}(h:k+m<=n)(hj:j<n):cq k m j<n:=by
 unfold cq
 split
 ·omega
 ·split<;>omega
theorem CT{k m n j:Nat}(h:k+m<=n)(hj:j<n):c9 k m j<n:=by
 unfold c9
 split
 ·omega
 ·split<;>omega
theorem CU{α:Type}(A R C:List α)(j:Nat):(R++(A++C))[j]? =(A++(R++C))[cq A.length R.length j]? :=by
 unfold cq
 split
 ·rename_i h
  rw[oQ h,oP (by omega),oQ (by omega)]
  congr 1;omega
 ·rename_i h
  rw[oP (by omega)]
  split
  ·rename_i h2
   rw[oQ (by omega),oQ (by omega)]
  ·rename_i h2
   rw[oP (by omega),oP (by omega),oP (by omega)]
   congr 1;omega
theorem xD:∀r:List Formula,(r.flatMap leaves).length=(r.map atoms).sum
 |[]=>rfl
 |A::r=>by rw[kh,aS,MF.fQ,xD r];rfl
theorem K2{A R C:List (Bool×Name)}{to:List Nat}(h:gn (A++(R++C)) to):gn (R++(A++C)) ((bJ to.length).map fun j=>c9 A.length R.length (to.getD (cq A.length R.length j) 0)):=by
 have hl:=h.len
 rw[aS,aS] at hl
 have hkm:A.length+R.length<=to.length:=by omega
 have G:∀j,j<to.length->((bJ to.length).map fun j=>c9 A.length R.length (to.getD (cq A.length R.length j) 0))[j]? =some (c9 A.length R.length (to.getD (cq A.length R.length j) 0)):=fun j hj=>by
  rw[bo,jy hj];rfl
 refine⟨by rw[aL,cS,aS,aS];omega,fun j j' e=>?_⟩
 have hj:j<to.length:=by
  have:=(bC.mp e).1
  rw[aL,cS] at this;exact this
 rw[G j hj] at e
 cases e
 have hg:=CS hkm hj
 have q:=getD_get hg
 obtain⟨q1,x,y,q2,q3,q4⟩:=h.st _ _ q
 have hb:=(bC.mp q1).1
 refine⟨?_,x,y,?_,?_,q4⟩
 ·rw[G _ (CT hkm hb),xC]
  have:to.getD (to.getD (cq A.length R.length j) 0) 0=cq A.length R.length j:=by
   rw[d9 (l:=to) (i:=to.getD (cq A.length R.length j) 0),q1];rfl
  rw[this,CQ]
 ·rw[CU];exact q2
 ·rw[CU,xC];exact q3
theorem rD{s:Net}{A:Formula}{r:List Formula}(hc:s.concl=A::r):rotated s={concl:=r++[A],cuts:=s.cuts,to:=(bJ s.to.length).map fun j=>c9 (leaves A).length (r.flatMap leaves).length (s.to.getD (cq (leaves A).length (r.flatMap leaves).length j) 0)}:=by
 have em:(r.map atoms).foldl (·+·) 0=(r.flatMap leaves).length:=by rw[foldl_add,xD];omega
 have ek:atoms A=(leaves A).length:=(MF.fQ A).symm
 unfold rotated
 rw[hc]
 show({concl:=r++[A],cuts:=s.cuts,to:=(bJ s.to.length).map fun j=>c9 (atoms A) ((r.map atoms).foldl (·+·) 0) (s.to.getD (cq (atoms A) ((r.map atoms).foldl (·+·) 0) j) 0)}:Net)=_
 rw[em,ek]
theorem K3{s:Net}(h:bQ s){A:Formula}{r:List Formula}(hc:s.concl=A::r):bQ (rotated s):=by
 have er:=rD hc
 have e1:allLeaves s=leaves A++(r.flatMap leaves++(s.cuts.flatMap fun A=>[A,dual A]).flatMap leaves):=by
  unfold allLeaves formulas
  rw[hc,ff,kh,dh]
 have e2:allLeaves (rotated s)=r.flatMap leaves++(leaves A++(s.cuts.flatMap fun A=>[A,dual A]).flatMap leaves):=by
  rw[er]
  show((r++[A])++_).flatMap leaves=_
  rw[ff,ff,dh]
  simp
 have hl:=lW.mp h.lnk
 rw[e1] at hl
 have hL:=K2 hl
 rw[<-e2] at hL
 have c20:=h.c20
 rw[hc] at c20
 have hto:(rotated s).to=(bJ s.to.length).map fun j=>c9 (leaves A).length (r.flatMap leaves).length (s.to.getD (cq (leaves A).length (r.flatMap leaves).length j) 0):=by rw[er]
 have hco:(rotated s).concl=r++[A]:=by rw[er]
 have hcu:(rotated s).cuts=s.cuts:=by rw[er]
 rw[<-hto] at hL
 refine⟨?_,by rw[hcu];exact h.d20,fun C hC=>?_,by rw[hcu];exact h.db,?_,hL.len,lW.mpr hL⟩
 ·rw[hco,aS]
  have:r.length+1<=20:=c20
  show _+1<=20;omega
 ·rw[hco] at hC
  refine h.cb C ?_
  rw[hc]
  rcases dD.mp hC with q|q
  ·exact ba _ q
  ·rw[gO.mp q];exact bY
 ·rw[hto,aL,cS];exact h.l120
open Vanetc (Net decimal linksText formOf formulas points pars)
theorem K4:∀{A:Formula},MP.good A=true->(form A).length+5<=18*oW A:=fun{A} h=>by
 induction A with
 |atom t a=>
  have:=gh h (bG (t,a)) (by simp[nl])
  show(bG (t,a)).length+5<=18
  omega
 |tensor A B iA iB=>
  obtain⟨gA,gB⟩:=MF.bS.mp h
  have e:=MF.mQ (c:=42) (.inl rfl) gA gB
  have e:form (.tensor A B)=_:=e
  have h1:=iA gA
  have h2:=iB gB
  have l1:=MF.mR (MF.hd A) (form A)
  have l2:=MF.mS (MF.hd B) [42] (form B)
  rw[e,aS,aS]
  show _+(1+_)+5<=18*(oW A+oW B)
  omega
 |par A B iA iB=>
  obtain⟨gA,gB⟩:=MF.bS.mp h
  have e:=MF.mQ (c:=124) (.inr rfl) gA gB
  have e:form (.par A B)=_:=e
  have h1:=iA gA
  have h2:=iB gB
  have l1:=MF.mR (MF.hd A) (form A)
  have l2:=MF.mS (MF.hd B) [124] (form B)
  rw[e,aS,aS]
  show _+(1+_)+5<=18*(oW A+oW B)
  omega
 |_=>cases h
theorem CV{n:Net}(h5:bQ n):(formOf n).length<=50000:=by
 have fl:∀{fs:List Formula},(∀A∈fs,MP.good A=true/\oV A=true)->fs.length<=20->(sequentForm fs).length<=22000:=fun{fs} hb hl=>by
  rw[qi]
  have:=qm (n:=[44,32]) (ts:=fs.map form) (m:=1075) (fun t ht=>by
   obtain⟨A1,hA,rfl⟩:=cT.mp ht
   have g:=hb A1 hA
   have q:=K4 g.1
   have b:=g.2
   rw[MF.yH g.1,ag,decide_eq_true_iff] at b
   have:=b.1
   omega)
  rw[aL] at this
  refine bW this ?_
  have:fs.length*(1075+[44,32].length)<=20*1077:=kq hl (aY _)
  omega
 have f1:=fl h5.cb h5.c20
 have f2:=fl h5.db h5.d20
 have llt:=w8 (qj h5.lnk)
 have lll:=lU n.to
 have h120:=h5.l120
 have f3:(linksText n.to).length<=1000:=by
  rw[w6]
  have:=qm (n:=[32]) (ts:=(lks n.to).map fun x=>decimal x.1++45::decimal x.2) (m:=7) fun t ht=>by
   obtain⟨z,hz,rfl⟩:=cT.mp ht
   have hx:=llt z hz
   have a1:=k0 z.1 (by omega)
   have a2:=k0 z.2 (by omega)
   rw[aS,aV];omega
  rw[aL] at this
  refine bW this ?_
  have:(lks n.to).length*(7+[32].length)<=120*8:=kq (by omega) (aY _)
  omega
 unfold formOf
 simp only[aS,aV,jU]
 omega
structure HC (K:aD) (C:Addr):Prop where
 cl:eP K C
 n1:dk K C "structure"
def hf(x:V):List (Str×V):=[("structure",x)]
theorem eG(x:V):(hf x).lookup ("structure":Str)=some x:=rfl
structure d6 (K:aD) (CH C:Addr) (H:Hp) (h:Addr) (s:Net):Prop where
 ex:∃dx q,H h=some (.ins CH dx (hf (.ref q)))/\cR K C H q s
theorem d6.same{K:aD}{CH C:Addr}{H H':Hp}{h:Addr}{s:Net}(x:d6 K CH C H h s)(e:aA H H'):d6 K CH C H' h s:=by
 obtain⟨dx,q,h1,h2⟩:=x.ex
 exact⟨dx,q,e _ _ h1,h2.same e⟩
structure fe (mg:Str->Option Value):Prop where
 len:mg "len"=none
 all:mg "all"=none
 mpars:dC mg "MOST_PARS" 10
 mleaves:dC mg "MOST_LEAVES" 120
 kind:dC mg "NOT_OF_ITS_KIND" (-1)
 fit:dC mg "NOT_FITTING" (-3)
 there:dC mg "NOT_THERE" (-4)
 many:dC mg "TOO_MANY" (-5)
 bounds:dC mg "NOT_IN_BOUNDS" (-6)
 mpar:dC mg "TOO_MANY_PARS" (-7)
def d7(c:fE)(s:Net):List Int:=Ly (eI s c).2
def iU(K:aD)(CH C:Addr)(c:fE):Sp:=fun vs H Q _=>∃h g s,vs=[.ref h,g]/\d6 K CH C H h s/\∀b H',aA H H'->H b=none->H' b=some (.lst ((d7 c s).map V.int))->Q (.ref b) H'
section
variable{P:Program}{w:World}{K:aD}{mg:Str->Option Value}{base:Heap}{C CK CG CH:Addr}
theorem CW:aZ ["holder","given","text"] ["holder","given"] (aQ vZ):=fS
theorem K5(D:aO K mg "tell_form" vZ)(RH:HC K CH)(T4:fe mg)(C1:aK P w K mg base "written_structure" 5 ["structure"] (Bb K C)):aK P w K mg base "tell_form" 6 ["holder","given"] (iU K CH C .form):=by
 refine D.cal CW (fun vs H Q E h=>?_) (fun fa cdv A outer s H vs Q E hr h=>?_)
 ·obtain⟨_,_,_,rfl,_⟩:=h
  rfl
 ·obtain⟨h,g,n,rfl,hh,k⟩:=h
  have nd:=CW.nd
  refine⟨_,aG (aT (i:=2) nd rfl (aJ rfl) (pc C1 hr (aB (aX (pv 0) rfl) aC)))
   (aI (aN (bH c8 (au (aB (bD bI (by rfl) T4.len bM (aB (pv 2) aC)) aC)) (pv 2)))),?_⟩
  obtain⟨dx,q,h1,h2⟩:=id hh.ex
  have hfb:=CV h2.ok
  have hsl:=sizeLine_eq
  refine⟨_,rfl,h,CH,dx,_,_,rfl,h1,RH.cl,RH.n1,eG _,q,n,rfl,h2,fun b H1 s1 hbn hb=>?_⟩
  refine⟨_,rfl,b,_,rfl,.inl (aE.of hb),(by show 1<=sizeLine;omega),fun u hu=>?_⟩
  have s2:aA H1 (upd H1 u (.lst [.int (((formOf n).map vb).length:Nat)])):=aA.upd hu
  have hu2:(upd H1 u (.lst [.int (((formOf n).map vb).length:Nat)])) u=some (.lst [.int (((formOf n).map vb).length:Nat)]):=aF
  generalize upd H1 u (.lst [.int (((formOf n).map vb).length:Nat)])=H2 at s2 hu2⊢
  refine⟨_,rfl,u,b,_,_,rfl,rfl,hu2,s2 _ _ hb,(by rw[aL];show 1+_<=_;omega),fun e he=>?_⟩
  have s02:=s1.trans s2
  refine k e _ (s02.trans (aA.upd he)) (s02.free he) (aF.trans ?_)
  have ea:d7 .form n=((formOf n).length::(formOf n).map fun b=>b.toNat).map jD:=rfl
  rw[ea,aL,bg,bg,jB,jB]
  rfl
theorem CY(ns:List (List UInt8))(m:List UInt8):(ns.map dN).countP (fun e=>PyData.eqv e (dN m))=ns.count m:=by
 induction ns with
 |nil=>rfl
 |cons a r ih=>
  rw[bg,EA,EJ,ih,vk]
  congr 1
  by_cases e:a=m
  ·subst e;rw[if_pos (decide_eq_true rfl),if_pos (beq_self_eq_true _)]
  ·rw[if_neg (fun z=>e (of_decide_eq_true z)),if_neg (fun z=>e (eq_of_beq z))]
theorem CZ(ns:List (List UInt8)):(ns.map dN).all SeqAt.shaped=true:=by
 rw[oS,cJ]
 exact fun n _=>eA n
theorem C6:aZ ["holder","given","structure","nodes","sequents","leaves"] ["holder","given"] (aQ v5):=fS
theorem K6(D:aO K mg "tell_size" v5)(RH:HC K CH)(R:SC K C)(T:cY K mg)(C1:aK P w K mg base "nodes_of" 1 ["formulas"] (qe K))(M1:bE P w K mg base C "formulas" 4 ["self"] (qk K C))(M2:bE P w K mg base C "links" 1 ["self"] (ql K C)):
  aK P w K mg base "tell_size" 5 ["holder","given"] (iU K CH C .size):=by
 refine D.cal C6 (fun vs H Q E h=>?_) (fun fa cdv A outer s H vs Q E hr h=>?_)
 ·obtain⟨_,_,_,rfl,_⟩:=h
  rfl
 ·obtain⟨h,g,n,rfl,hh,k⟩:=h
  have nd:=C6.nd
  have hr1:=hr.mono (show 1<=4 by decide)
  refine⟨_,aG (aT (i:=2) nd rfl (aJ rfl) (aX (pv 0) rfl))
   (aG (aT (i:=3) nd rfl (aJ rfl) (pc C1 hr1 (aB (d4 R.cl M1 hr (pv 2)) aC)))
   (aG (aT (i:=4) nd rfl (aJ rfl) (au (aB (bD bI (by rfl) T.len bM (aB (aX (pv 2) rfl) aC)) (aB (bD bI (by rfl) T.len bM (aB (aX (pv 2) rfl) aC)) aC))))
   (aG (aT (i:=5) nd rfl (aJ rfl) (au (aB (bD bI (by rfl) T.len bM (aB (aX (pv 2) rfl) aC)) (aB (bD bI (by rfl) T.len bM (aB (d4 R.cl M2 hr1 (pv 2)) aC)) aC))))
   (aI (aN (bH c8 (bH c8 (pv 4) (pv 5)) (au (aB (cG bR EB Mj (AR (Ah hr)) (pv 3) (aB (bT T.tensor) aC)) (aB (cG bR EB Mj (AR (Ah hr)) (pv 3) (aB (bT T.par) aC)) (aB (bD bI (by rfl) T.len bM (aB (pv 3) aC)) aC)))))))))),?_⟩
  obtain⟨dx,q,h1,h2⟩:=id hh.ex
  obtain⟨⟨dq,x,y,c,g1,⟨xa,xw,rfl,g2,g2'⟩,⟨ya,yw,rfl,g3,g3'⟩,g4⟩,hok⟩:=id h2
  have hsm:=hok.small
  have hlim:bz=1000000:=rfl
  have hsl:=sizeLine_eq
  have xl:=g2'.length
  have yl:=g3'.length
  refine⟨_,rfl,h,CH,dx,_,_,rfl,h1,RH.cl,RH.n1,eG _,?_⟩
  refine⟨_,rfl,q,dq,_,rfl,g1,lV _ _ _ rfl rfl rfl,q,n,rfl,h2,fun v H1 s1 hv=>?_⟩
  refine⟨v,_,rfl,hv,by omega,fun a ws H2 s2 han ha hwp=>?_⟩
  have s02:=s1.trans s2
  have wl:=hwp.length
  refine⟨_,rfl,q,C,dq,_,_,rfl,s02 _ _ g1,R.cl,R.n1,eF _ _ _,xa,xw,rfl,.inl (aE.of (s02 _ _ g2)),?_⟩
  refine⟨_,rfl,q,C,dq,_,_,rfl,s02 _ _ g1,R.cl,R.n2,iS _ _ _,ya,yw,rfl,.inl (aE.of (s02 _ _ g3)),(by show 2<=sizeLine;omega),fun u1 hu1=>?_⟩
  have s3:=aA.upd (o:=.lst [V.int (xw.length:Nat),V.int (yw.length:Nat)]) hu1
  have hu13:(upd H2 u1 (.lst [V.int (xw.length:Nat),V.int (yw.length:Nat)])) u1=_:=aF
  generalize upd H2 u1 (.lst [V.int (xw.length:Nat),V.int (yw.length:Nat)])=H3 at s3 hu13⊢
  have s03:=s02.trans s3
  refine⟨_,rfl,q,C,dq,_,_,rfl,s03 _ _ g1,R.cl,R.n3,gk _ _ _,c,_,rfl,.inl (aE.of (s03 _ _ g4)),?_⟩
  refine⟨_,rfl,q,dq,_,rfl,s03 _ _ g1,lV _ _ _ rfl rfl rfl,q,n,rfl,h2.same s03,fun lb zs H4 s4 hlbn hlb hzp=>?_⟩
  have s04:=s03.trans s4
  have zl:=hzp.length
  refine⟨lb,zs,rfl,.inl (aE.of hlb),(by show 2<=sizeLine;omega),fun u2 hu2=>?_⟩
  have s5:=aA.upd (o:=.lst [V.int ((n.to.map vn).length:Nat),V.int (zs.length:Nat)]) hu2
  have hu25:(upd H4 u2 (.lst [V.int ((n.to.map vn).length:Nat),V.int (zs.length:Nat)])) u2=_:=aF
  generalize upd H4 u2 (.lst [V.int ((n.to.map vn).length:Nat),V.int (zs.length:Nat)])=H5 at s5 hu25⊢
  have s05:=s04.trans s5
  have hu15:=s5 _ _ (s4 _ _ hu13)
  refine⟨_,rfl,_,rfl,u1,u2,_,_,rfl,rfl,hu15,hu25,(by show 4<=sizeLine;omega),fun u3 hu3=>?_⟩
  have s6:=aA.upd (o:=.lst ([V.int (xw.length:Nat),V.int (yw.length:Nat)]++[V.int ((n.to.map vn).length:Nat),V.int (zs.length:Nat)])) hu3
  have hu36:(upd H5 u3 (.lst ([V.int (xw.length:Nat),V.int (yw.length:Nat)]++[V.int ((n.to.map vn).length:Nat),V.int (zs.length:Nat)]))) u3=_:=aF
  generalize upd H5 u3 (.lst ([V.int (xw.length:Nat),V.int (yw.length:Nat)]++[V.int ((n.to.map vn).length:Nat),V.int (zs.length:Nat)]))=H6 at s6 hu36⊢
  have s26:=((s3.trans s4).trans s5).trans s6
  have ha6:=s26 _ _ ha
  have hwp6:=eC hwp s26
  refine⟨_,rfl,.inl ⟨rfl,_,aE.of ha6⟩,fun v1 hv1=>?_⟩
  refine⟨a,ws,v1,dN [42],_,rfl,rfl,aE.of ha6,(hv1 H6).dp,qb hwp6,eA _,CZ _,?_⟩
  refine⟨_,rfl,.inl ⟨rfl,_,aE.of ha6⟩,fun v2 hv2=>?_⟩
  refine⟨a,ws,v2,dN [124],_,rfl,rfl,aE.of ha6,(hv2 H6).dp,qb hwp6,eA _,CZ _,?_⟩
  refine⟨_,rfl,a,ws,rfl,.inl (aE.of ha6),(by show 3<=sizeLine;omega),fun u4 hu4=>?_⟩
  have s7:=aA.upd (o:=.lst [V.int (((aM (formulas n)).map dN).countP (fun e=>PyData.eqv e (dN [42])):Nat),V.int (((aM (formulas n)).map dN).countP (fun e=>PyData.eqv e (dN [124])):Nat),V.int (ws.length:Nat)]) hu4
  refine⟨u3,u4,_,_,rfl,rfl,s7 _ _ hu36,aF,(by show 7<=sizeLine;omega),fun u5 hu5=>?_⟩
  have s07:=(s05.trans s6).trans s7
  refine k u5 _ (s07.trans (aA.upd hu5)) (s07.free hu5) (aF.trans ?_)
  have ea:d7 .size n=[jD n.concl.length,jD n.cuts.length,jD n.to.length,jD (n.to.length/2),jD (Vanetc.tensors n),jD (pars n).length,jD (points n).length]:=rfl
  rw[ea,CY,CY,KO hok,KP hok,nZ hok.good,<-KR hok,xl,yl,zl,wl,aL]
  rfl
end
open Vanetc (Net formulas points pars firstBad isNet draws graph)
section
variable{P:Program}{w:World}{K:aD}{mg:Str->Option Value}{base:Heap}{C CK CG CH:Addr}
theorem lX{c:fE}{n m:Net}{l:List Nat}(h:cB n c=.ok (m,l)):d7 c n=l.map jD:=by
 unfold d7 eI
 rw[h];rfl
theorem ke{c:fE}{n:Net}{k:Nat}(h:cB n c=.error k):d7 c n=[-(k:Int)]:=by
 unfold d7 eI
 rw[h];rfl
theorem K7(n:Net):d7 .test n=if(pars n).length<=10 then[if(firstBad n).isNone then 1 else 0] else[-7]:=by
 by_cases h:(pars n).length<=10
 ·rw[if_pos h,lX (show cB n .test=.ok (n,[mF (isNet n)]) from if_pos h),KM]
  cases(firstBad n).isNone<;>rfl
 ·rw[if_neg h,ke (show cB n .test=.error 7 from if_neg h)];rfl
theorem C7:aZ ["holder","given","graph"] ["holder","given"] (aQ v7):=fS
theorem K8(D:aO K mg "tell_test" v7)(RH:HC K CH)(RG:GC K CG)(T4:fe mg)(C1:aK P w K mg base "graph_of" 5 ["structure"] (n6 K C CG))(C2:aK P w K mg base "first_bad" 15 ["graph"] (wy K CG)):aK P w K mg base "tell_test" 16 ["holder","given"] (iU K CH C .test):=by
 refine D.cal C7 (fun vs H Q E h=>?_) (fun fa cdv A outer s H vs Q E hr h=>?_)
 ·obtain⟨_,_,_,rfl,_⟩:=h
  rfl
 ·obtain⟨h,g0,n,rfl,hh,k⟩:=h
  have nd:=C7.nd
  refine⟨_,aG (aT (i:=2) nd rfl (aJ rfl) (pc C1 (hr.mono (show 5<=15 by decide)) (aB (aX (pv 0) rfl) aC)))
   (aG (aj (ao ik (bD bI (by rfl) T4.len bM (aB (aX (pv 2) rfl) aC)) (bX T4.mpars) (ak _)) (aI (aN (au (aB (bX T4.mpar) aC)))) ay)
   (aI (aN (au (aB (iG (ao kN (pc C2 hr (aB (pv 2) aC)) bu (ak _)) aR aR) aC))))),?_⟩
  obtain⟨dx,q,h1,h2⟩:=id hh.ex
  have hok:=rB h2.ok
  have hsl:=sizeLine_eq
  refine⟨_,rfl,h,CH,dx,_,_,rfl,h1,RH.cl,RH.n1,eG _,q,n,rfl,h2,fun g H1 s1 hgn hG=>?_⟩
  obtain⟨dg,b,c,zs,ys,g1,g2,g3,g4,g5⟩:=id hG.ex
  have yl:=g5.length
  refine⟨_,rfl,g,CG,dg,_,_,rfl,g1,RG.cl,RG.n3,k5 _ _ _,c,ys,rfl,.inl (aE.of g4),_,_,rfl,rfl,_,rfl,?_⟩
  rw[K7] at k
  refine aU (fun e=>?_) (fun e=>?_)
  ·have e:=of_decide_eq_true e
   rw[if_neg (by omega)] at k
   exact⟨(by show 1<=sizeLine;omega),fun u hu=>k u _ (s1.trans (aA.upd hu)) (s1.free hu) aF⟩
  ·have e:¬((10:Int)<(ys.length:Int)):=fun z=>e (decide_eq_true z)
   have hp10:(pars n).length<=10:=by omega
   rw[if_pos hp10] at k
   refine⟨_,rfl,g,_,_,_,rfl,hG,hok,hp10,fun hf H2 s2=>?_,fun wl hf e2 H2 s2 he2=>?_⟩
   ·rw[rC h2.ok] at hf
    rw[hf] at k
    refine⟨rfl,_,rfl,kW ⟨(by show 1<=sizeLine;omega),fun u hu=>k u _ ((s1.trans s2).trans (aA.upd hu)) ((s1.trans s2).free hu) aF⟩⟩
   ·rw[rC h2.ok] at hf
    rw[hf] at k
    refine⟨rfl,_,rfl,ir ⟨(by show 1<=sizeLine;omega),fun u hu=>k u _ ((s1.trans s2).trans (aA.upd hu)) ((s1.trans s2).free hu) aF⟩⟩
theorem K9(n:Net):d7 .draw n=[if draws n then 1 else 0]:=by
 show[jD (mF (draws n))]=_
 cases draws n<;>rfl
theorem Ka:aZ ["holder","given"] ["holder","given"] (aQ v9):=fS
theorem Kb(D:aO K mg "tell_draw" v9)(RH:HC K CH)(C1:aK P w K mg base "graph_of" 5 ["structure"] (n6 K C CG))(C2:aK P w K mg base "draws_together" 4 ["graph"] (Bx K CG)):aK P w K mg base "tell_draw" 6 ["holder","given"] (iU K CH C .draw):=by
 refine D.cal Ka (fun vs H Q E h=>?_) (fun fa cdv A outer s H vs Q E hr h=>?_)
 ·obtain⟨_,_,_,rfl,_⟩:=h
  rfl
 ·obtain⟨h,g0,n,rfl,hh,k⟩:=h
  refine⟨_,aI (aN (au (aB (iG (cA (pc C2 (hr.mono (show 4<=5 by decide)) (aB (pc C1 hr (aB (aX (pv 0) rfl) aC)) aC))) aR aR) aC))),?_⟩
  obtain⟨dx,q,h1,h2⟩:=id hh.ex
  have hsl:=sizeLine_eq
  refine⟨_,rfl,h,CH,dx,_,_,rfl,h1,RH.cl,RH.n1,eG _,q,n,rfl,h2,fun g H1 s1 hgn hG=>?_⟩
  refine⟨g,_,_,_,rfl,hG,rB h2.ok,fun H2 s2=>⟨_,rfl,?_⟩⟩
  rw[KL h2.ok]
  rw[K9] at k
  refine aU (fun e=>?_) (fun e=>?_)
  ·rw[e] at k
   exact⟨(by show 1<=sizeLine;omega),fun u hu=>k u _ ((s1.trans s2).trans (aA.upd hu)) ((s1.trans s2).free hu) aF⟩
  ·rw[dI.mpr e] at k
   exact⟨(by show 1<=sizeLine;omega),fun u hu=>k u _ ((s1.trans s2).trans (aA.upd hu)) ((s1.trans s2).free hu) aF⟩
end
open Vanetc (Net formulas points pars firstBad isNet draws graph switchings)
theorem rE:∀{n:Nat} {w:List Bool},w∈switchings n->w.length=n
 |0,w,h=>by rw[gO.mp h];rfl
 |n+1,w,h=>by
  rcases dD.mp h with h|h
  ·obtain⟨v,hv,rfl⟩:=cT.mp h
   rw[aV,rE hv]
  ·obtain⟨v,hv,rfl⟩:=cT.mp h
   rw[aV,rE hv]
theorem Kc{n:Net}{w:List Bool}(h:firstBad n=some w):w.length=(pars n).length:=rE (Dh h)
def gI(x:Bool×Nat):List Int:=[if x.1=true then 1 else 0,(x.2:Nat)]
theorem C8(x:Bool×Nat):(EN x).map jD=gI x:=by
 obtain⟨b,n⟩:=x
 cases b<;>rfl
theorem Ke(n:Net):d7 .bad n=if(pars n).length<=10 then(match firstBad n with|none=>[-4]|some w=>(w.length:Int)::(w.map (fun b:Bool=>if b then(1:Int) else 0)++gI (graph n w))) else[-7]:=by
 by_cases h:(pars n).length<=10
 ·rw[if_pos h]
  cases hf:firstBad n with
  |none=>
   have e:cB n .bad=.error 4:=by
    show(if(pars n).length<=10 then EO (firstBad n) 4 _ else .error 7)=_
    rw[if_pos h,hf];rfl
   rw[ke e];rfl
  |some w=>
   have e:cB n .bad=.ok (n,w.length::(w.map mF++EN (graph n w))):=by
    show(if(pars n).length<=10 then EO (firstBad n) 4 _ else .error 7)=_
    rw[if_pos h,hf];rfl
   rw[lX e,bg,bO,C8,jB]
   congr 2
   refine oK fun b _=>?_
   cases b<;>rfl
 ·rw[if_neg h,ke (show cB n .bad=.error 7 from if_neg h)];rfl
section
variable{P:Program}{w:World}{K:aD}{mg:Str->Option Value}{base:Heap}{C CK CG CH:Addr}
theorem C9:aZ ["holder","given","graph","switching"] ["holder","given"] (aQ v8):=fS
theorem Kf(D:aO K mg "tell_bad" v8)(RH:HC K CH)(RG:GC K CG)(T4:fe mg)(C1:aK P w K mg base "graph_of" 5 ["structure"] (n6 K C CG))(C2:aK P w K mg base "first_bad" 15 ["graph"] (wy K CG))(C3:aK P w K mg base "switched" 4 ["graph","switching"] (wu K CG)):aK P w K mg base "tell_bad" 16 ["holder","given"] (iU K CH C .bad):=by
 refine D.cal C9 (fun vs H Q E h=>?_) (fun fa cdv A outer s H vs Q E hr h=>?_)
 ·obtain⟨_,_,_,rfl,_⟩:=h
  rfl
 ·obtain⟨h,g0,n,rfl,hh,k⟩:=h
  have nd:=C9.nd
  refine⟨_,aG (aT (i:=2) nd rfl (aJ rfl) (pc C1 (hr.mono (show 5<=15 by decide)) (aB (aX (pv 0) rfl) aC)))
   (aG (aj (ao ik (bD bI (by rfl) T4.len bM (aB (aX (pv 2) rfl) aC)) (bX T4.mpars) (ak _)) (aI (aN (au (aB (bX T4.mpar) aC)))) ay)
   (aG (aT (i:=3) nd rfl (aJ rfl) (pc C2 hr (aB (pv 2) aC)))
   (aG (aj (ao kN (pv 3) bu (ak _)) (aI (aN (au (aB (bX T4.there) aC)))) ay)
   (aI (aN (bH c8 (bH c8 (au (aB (bD bI (by rfl) T4.len bM (aB (pv 3) aC)) aC)) (pv 3)) (pc C3 (hr.mono (show 4<=15 by decide)) (aB (pv 2) (aB (pv 3) aC))))))))),?_⟩
  obtain⟨dx,q,h1,h2⟩:=id hh.ex
  have hok:=rB h2.ok
  have hsl:=sizeLine_eq
  refine⟨_,rfl,h,CH,dx,_,_,rfl,h1,RH.cl,RH.n1,eG _,q,n,rfl,h2,fun g H1 s1 hgn hG=>?_⟩
  obtain⟨dg,b,c,zs,ys,g1,g2,g3,g4,g5⟩:=id hG.ex
  have yl:=g5.length
  refine⟨_,rfl,g,CG,dg,_,_,rfl,g1,RG.cl,RG.n3,k5 _ _ _,c,ys,rfl,.inl (aE.of g4),_,_,rfl,rfl,_,rfl,?_⟩
  rw[Ke] at k
  refine aU (fun e=>?_) (fun e=>?_)
  ·have e:=of_decide_eq_true e
   rw[if_neg (by omega)] at k
   exact⟨(by show 1<=sizeLine;omega),fun u hu=>k u _ (s1.trans (aA.upd hu)) (s1.free hu) aF⟩
  ·have e:¬((10:Int)<(ys.length:Int)):=fun z=>e (decide_eq_true z)
   have hp10:(pars n).length<=10:=by omega
   rw[if_pos hp10] at k
   refine⟨_,rfl,g,_,_,_,rfl,hG,hok,hp10,fun hf H2 s2=>?_,fun wl hf e2 H2 s2 he2=>?_⟩
   ·rw[rC h2.ok] at hf
    rw[hf] at k
    refine⟨_,rfl,rfl,_,rfl,kW ⟨(by show 1<=sizeLine;omega),fun u hu=>k u _ ((s1.trans s2).trans (aA.upd hu)) ((s1.trans s2).free hu) aF⟩⟩
   ·rw[rC h2.ok] at hf
    rw[hf] at k
    have hwl:=Kc hf
    have s02:=s1.trans s2
    refine⟨_,rfl,rfl,_,rfl,ir ?_⟩
    refine⟨_,rfl,e2,_,rfl,.inl (aE.of he2),(by show 1<=sizeLine;omega),fun u hu=>?_⟩
    have s3:=aA.upd (o:=.lst [V.int ((wl.map cI).length:Nat)]) hu
    have hu3:(upd H2 u (.lst [V.int ((wl.map cI).length:Nat)])) u=_:=aF
    generalize upd H2 u (.lst [V.int ((wl.map cI).length:Nat)])=H3 at s3 hu3⊢
    refine⟨_,rfl,u,e2,_,_,rfl,rfl,hu3,s3 _ _ he2,(by rw[aL];show 1+wl.length<=_;omega),fun u2 hu2=>?_⟩
    have s4:=aA.upd (o:=.lst ([V.int ((wl.map cI).length:Nat)]++wl.map cI)) hu2
    have hu4:(upd H3 u2 (.lst ([V.int ((wl.map cI).length:Nat)]++wl.map cI))) u2=_:=aF
    generalize upd H3 u2 (.lst ([V.int ((wl.map cI).length:Nat)]++wl.map cI))=H4 at s4 hu4⊢
    have s24:=(s2.trans s3).trans s4
    have s04:=s1.trans s24
    refine⟨_,rfl,_,rfl,g,_,_,_,e2,wl,rfl,hG.same s24,hok,aE.of ((s3.trans s4) _ _ he2),hwl,fun u5 H5 s5 hu5n hu5=>?_⟩
    refine⟨u2,u5,_,_,rfl,rfl,s5 _ _ hu4,hu5,(by rw[aS,aL];show 1+wl.length+2<=_;omega),fun u6 hu6=>?_⟩
    have s05:=s04.trans s5
    refine k u6 _ (s05.trans (aA.upd hu6)) (s05.free hu6) (aF.trans ?_)
    show some (HO.lst (([V.int ((wl.map cI).length:Nat)]++wl.map cI)++[_,_]))=some (HO.lst (List.map V.int ((wl.length:Int)::(wl.map (fun b:Bool=>if b then(1:Int) else 0)++gI (graph n wl)))))
    rw[CF h2.ok wl,aL,bg,bO,jB]
    rfl
end
def zo(z:Int):Bool:=z==0||z==1
theorem Kg(l:List Int)(n:Net):d7 (.switch l) n=if(l.length==(pars n).length&&l.all zo)=true then gI (graph n (l.map fun z=>z==1)) else[-1]:=by
 by_cases h:(l.length==(pars n).length&&l.all zo)=true
 ·rw[if_pos h,lX (show cB n (.switch l)=.ok (n,EN (graph n (l.map fun z=>z==1))) from if_pos h),C8]
 ·rw[if_neg h,ke (show cB n (.switch l)=.error 1 from if_neg h)];rfl
theorem Kh{l:List Int}(h:l.all zo=true):l.map V.int=(l.map fun z=>z==1).map cI:=by
 rw[jB]
 refine oK fun z hz=>?_
 have q:=cJ.mp h z hz
 unfold zo at q
 rw[xf,beq_iff_eq,beq_iff_eq] at q
 rcases q with rfl|rfl<;>rfl
def Ca(K:aD)(CH C:Addr):Sp:=fun vs H Q _=>∃h a l s,vs=[.ref h,.ref a]/\aE K H a (l.map V.int)/\l.length<=100000/\d6 K CH C H h s/\∀b H',aA H H'->H b=none->H' b=some (.lst ((d7 (.switch l) s).map V.int))->Q (.ref b) H'
section
variable{P:Program}{w:World}{K:aD}{mg:Str->Option Value}{base:Heap}{C CK CG CH:Addr}
theorem Cb:aZ ["holder","switching","graph","side"] ["holder","switching"] (aQ qR):=fS
theorem Ki(D:aO K mg "tell_switch" qR)(RH:HC K CH)(RG:GC K CG)(T4:fe mg)(C1:aK P w K mg base "graph_of" 5 ["structure"] (n6 K C CG))(C3:aK P w K mg base "switched" 4 ["graph","switching"] (wu K CG)):aK P w K mg base "tell_switch" 6 ["holder","switching"] (Ca K CH C):=by
 refine D.cal Cb (fun vs H Q E h=>?_) (fun fa cdv A outer s H vs Q E hr h=>?_)
 ·obtain⟨_,_,_,_,rfl,_⟩:=h
  rfl
 ·obtain⟨h,a,wl,n,rfl,ha,hal,hh,k⟩:=h
  have nd:=Cb.nd
  refine⟨_,aG (aT (i:=2) nd rfl (aJ rfl) (pc C1 hr (aB (aX (pv 0) rfl) aC)))
   (aG (aj (ao mh (bD bI (by rfl) T4.len bM (aB (pv 1) aC)) (bD bI (by rfl) T4.len bM (aB (aX (pv 2) rfl) aC)) (ak _)) (aI (aN (au (aB (bX T4.kind) aC)))) ay)
   (aG (aj (dH (cA (bD (pW rfl) (by rfl) T4.all boot_all (aB (eS (own:=[("side",3)]) (te:=cE (za K false) (ax 3) (mn (cO (tC (.int 0)) (cO (tC (.int 1)) cK)))) rfl nd (c6 (pv 1)) (dc (N:=["holder","switching","graph","side"]) (sc:=aQ qR) (by decide+kernel)) (fun _ _ _ _ _=>bN (i:=3) nd rfl (aJ rfl)) (fun _ _ _ _ _=>eR) (fun _ _ _ _ _=>il mw (pv 3) (eQ (aB aR (aB aR aC))) rfl)) aC)))) (aI (aN (au (aB (bX T4.kind) aC)))) ay)
   (aI (aN (pc C3 (hr.mono (show 4<=5 by decide)) (aB (pv 2) (aB (pv 1) aC))))))),?_⟩
  obtain⟨dx,q,h1,h2⟩:=id hh.ex
  have hok:=rB h2.ok
  have hsl:=sizeLine_eq
  refine⟨_,rfl,h,CH,dx,_,_,rfl,h1,RH.cl,RH.n1,eG _,q,n,rfl,h2,fun g H1 s1 hgn hG=>?_⟩
  obtain⟨dg,b,c,zs,ys,g1,g2,g3,g4,g5⟩:=id hG.ex
  have yl:=g5.length
  refine⟨_,rfl,a,_,rfl,.inl (aA.seq s1 ha),_,rfl,g,CG,dg,_,_,rfl,g1,RG.cl,RG.n3,k5 _ _ _,c,ys,rfl,.inl (aE.of g4),rfl,_,rfl,?_⟩
  rw[Kg] at k
  rw[aL]
  refine aU (fun e=>?_) (fun e=>?_)
  ·have e:¬(wl.length=ys.length):=by
    intro z
    rw[z,decide_eq_true rfl] at e
    cases e
   rw[if_neg (by rw[beq_false_of_ne (by omega),lu];decide)] at k
   exact⟨(by show 1<=sizeLine;omega),fun u hu=>k u _ (s1.trans (aA.upd hu)) (s1.free hu) aF⟩
  ·have e:wl.length=(pars n).length:=by
    by_cases z:wl.length=ys.length
    ·omega
    ·refine absurd ?_ e
     rw[decide_eq_false];rfl
     intro y
     have y:(wl.length:Int)=(ys.length:Int):=V.int.inj y
     omega
   rw[e,beq_self_eq_true,gz] at k
   have ha1:=aA.seq s1 ha
   refine⟨_,rfl,a,rfl,⟨_,ha1⟩,fun D1 hD1=>?_⟩
   refine fT (K:=K) (a:=a) (xs:=wl.map V.int) (fun i H'=>aA H1 H'/\H' D1=some (.lst ((wl.take i).map fun z=>V.bl (zo z)))) ⟨aA.upd hD1,aF⟩ ?_ ?_ ?_
   ·rintro i H' _ ⟨s2,_⟩
    exact aA.seq s2 ha1
   ·rintro i x H' hx ⟨s2,hz⟩
    rw[bo] at hx
    obtain⟨z,hc,rfl⟩:∃z,wl[i]? =some z/\V.int z=x:=by
     cases q:wl[i]? with
     |none=>rw[q] at hx;cases hx
     |some z=>rw[q] at hx;exact⟨z,rfl,bL hx⟩
    have hil:i<wl.length:=(bC.mp hc).1
    refine⟨rfl,_,rfl,(by show 2<=sizeLine;omega),fun T hT=>?_⟩
    have sT:=aA.upd (o:=.tup [V.int 0,V.int 1]) hT
    refine⟨T,[V.int 0,V.int 1],rfl,.inr (aW.of aF),rfl,rfl,_,sT _ _ hz,by rw[aL,cM];omega,aA.upd2 (s2.trans sT) hD1,?_⟩
    rw[aF,take_snoc hc,bO]
    have ez:fL (V.int z) [V.int 0,V.int 1]=zo z:=by
     show(((0:Int)==z)||(((1:Int)==z)||false))=(z==0||z==1)
     rw[kD,show((0:Int)==z)=(z==0) from BEq.comm,show((1:Int)==z)=(z==1) from BEq.comm]
    rw[if_neg (by decide),ez];rfl
   ·rintro H2 ⟨s2,hz⟩
    rw[aL,cQ,show(wl.map fun z=>V.bl (zo z))=(wl.map zo).map V.bl by rw[jB];rfl] at hz
    refine⟨D1,_,rfl,aE.of hz,_,rfl,?_⟩
    have eall:(wl.map zo).all id=wl.all zo:=by rw[oS];rfl
    rw[eall]
    have s02:=s1.trans s2
    refine aU (fun y=>?_) (fun y=>?_)
    ·have y:¬(wl.all zo=true):=by
      intro z;rw[z] at y;cases y
     rw[if_neg y] at k
     exact⟨(by show 1<=sizeLine;omega),fun u hu=>k u _ (s02.trans (aA.upd hu)) (s02.free hu) aF⟩
    ·have y:wl.all zo=true:=by simpa using y
     rw[if_pos y] at k
     refine⟨_,rfl,_,rfl,g,_,_,_,a,wl.map fun z=>z==1,rfl,hG.same s2,hok,?_,by rw[aL];exact e,fun b' H3 s3 hb' hb3=>?_⟩
     ·have:=aA.seq s2 ha1
      rw[Kh y] at this
      exact this
     ·refine k b' H3 (s02.trans s3) (s02.free hb') ?_
      rw[hb3,CF h2.ok];rfl
end
open Vaneta (Formula dual leaves Name isName allOf atoms inBounds cutAt)
open Vanetc (Net formulas allLeaves linked partnersOf oncePairs partsOf pairsOf pairOf)
open MR (gV c5)
open ML (right)
theorem Kj{t:List UInt8}{x:Nat×Nat}(h:pairOf t=some x):x.1<x.2:=by
 unfold pairOf at h
 split at h
 ·rename_i a b _
  cases ha:Ml a with
  |none=>rw[ha] at h;cases h
  |some i=>
   cases hb:Ml b with
   |none=>rw[ha,hb] at h;cases h
   |some j=>
    rw[ha,hb] at h
    have h:(if i<j then some (i,j) else none)=some x:=h
    split at h
    ·cases h;assumption
    ·cases h
 ·cases h
theorem Kk{t:List UInt8}{l:List (Nat×Nat)}(h:pairsOf t=some l):∀x∈l,x.1<x.2:=by
 unfold Vanetc.pairsOf at h
 split at h
 ·cases h;intro x hx;cases hx
 ·cases ha:allOf ((cutAt 32 (ER t)).map pairOf) with
  |none=>rw[ha] at h;cases h
  |some m=>
   rw[ha] at h
   have h:(if Vanetc.risingFirst m=true then some m else none)=some l:=h
   split at h
   ·cases h
    have hn:none∉(cutAt 32 (ER t)).map pairOf:=fun z=>by rw[MR.kG z] at ha;cases ha
    obtain⟨fs,e1,e2⟩:=MR.lE hn
    rw[e1] at ha
    cases ha
    intro x hx
    have:some x∈(cutAt 32 (ER t)).map pairOf:=by rw[e2];exact cT.mpr ⟨x,hx,rfl⟩
    obtain⟨w,_,hw⟩:=cT.mp this
    exact Kj hw
   ·cases h
theorem Cc{t:List UInt8}{x y:List Formula}{z:List (Nat×Nat)}(h:gV t=some (x,y,z)):x.length<=20/\y.length<=20/\x.all MP.good=true/\y.all MP.good=true/\∀p∈z,p.1<p.2:=by
 unfold gV at h
 split at h
 ·rename_i a b c _
  cases ha:c5 a with
  |none=>rw[ha] at h;cases h
  |some x'=>
   cases hb:c5 b with
   |none=>rw[ha,hb] at h;cases h
   |some y'=>
    cases hc:pairsOf c with
    |none=>rw[ha,hb,hc] at h;cases h
    |some z'=>
     rw[ha,hb,hc] at h
     have h:some (x',y',z')=some (x,y,z):=h
     cases h
     exact⟨MR.yW ha,MR.yW hb,MR.yV ha,MR.yV hb,Kk hc⟩
 ·cases h
def iw(x y:List Formula)(z:List (Nat×Nat)):Net:={concl:=x,cuts:=y,to:=partnersOf ((x++y.flatMap fun A=>[A,dual A]).flatMap leaves).length z}
theorem Kl(s:Net){t:List UInt8}{x y:List Formula}{z:List (Nat×Nat)}(h:gV t=some (x,y,z)):cB s (.set t)=
  if(x++y).all inBounds=true then(if((x++y.flatMap fun A=>[A,dual A]).flatMap leaves).length<=120 then(if right ((x++y.flatMap fun A=>[A,dual A]).flatMap leaves) z=true then .ok (iw x y z,[((x++y.flatMap fun A=>[A,dual A]).flatMap leaves).length]) else .error 3) else .error 5) else .error 6:=by
 show mG t=_
 unfold mG
 rw[<-MR.yX,h]
 show(Vanetc.theNet (x,y,z) fun s=>Except.ok (s,[s.to.length]))=_
 unfold Vanetc.theNet
 have e:((x++y.flatMap fun A=>[A,dual A]).map atoms).foldl (·+·) 0=((x++y.flatMap fun A=>[A,dual A]).flatMap leaves).length:=by
  rw[foldl_add,xD];omega
 dsimp only
 rw[e]
 show(if(x++y).all inBounds=true then(if decide (_<=120)=true then(if(oncePairs _ z&&linked (allLeaves (iw x y z)) (iw x y z).to)=true then Except.ok (iw x y z,[(iw x y z).to.length]) else Except.error 3) else .error 5) else .error 6)=_
 have el:allLeaves (iw x y z)=(x++y.flatMap fun A=>[A,dual A]).flatMap leaves:=rfl
 have et:(iw x y z).to.length=((x++y.flatMap fun A=>[A,dual A]).flatMap leaves).length:=ML.pD _ _
 rw[el,et]
 refine ite_congr rfl (fun _=>?_) (fun _=>rfl)
 by_cases h5:((x++y.flatMap fun A=>[A,dual A]).flatMap leaves).length<=120
 ·rw[if_pos h5];exact(if_pos (decide_eq_true h5)).trans rfl
 ·rw[if_neg h5];exact if_neg (fun z=>h5 (of_decide_eq_true z))
theorem Km(s:Net){t:List UInt8}(h:gV t=none):cB s (.set t)=.error 1:=by
 show mG t=_
 unfold mG
 rw[<-MR.yX,h];rfl
theorem Kn{t:List UInt8}{x y:List Formula}{z:List (Nat×Nat)}(h:gV t=some (x,y,z))(hb:(x++y).all inBounds=true)(hl:((x++y.flatMap fun A=>[A,dual A]).flatMap leaves).length<=120)(hr:right ((x++y.flatMap fun A=>[A,dual A]).flatMap leaves) z=true):bQ (iw x y z):=by
 obtain⟨h1,h2,h3,h4,h5⟩:=Cc h
 rw[jA,ag] at hb
 unfold right at hr
 rw[ag] at hr
 have et:(iw x y z).to.length=((x++y.flatMap fun A=>[A,dual A]).flatMap leaves).length:=ML.pD _ _
 exact⟨h1,h2,fun A hA=>⟨cJ.mp h3 A hA,cJ.mp hb.1 A hA⟩,fun A hA=>⟨cJ.mp h4 A hA,cJ.mp hb.2 A hA⟩,by rw[et];exact hl,et,hr.2⟩
theorem Cd{A:Formula}(h:MP.good A=true):∀x∈leaves A,isName x.2=true:=by
 induction A with
 |atom t a=>intro x hx;rw[gO.mp hx];exact h
 |tensor A B iA iB=>
  have h':=MF.bS.mp h
  intro x hx
  rcases dD.mp hx with q|q
  ·exact iA h'.1 x q
  ·exact iB h'.2 x q
 |par A B iA iB=>
  have h':=MF.bS.mp h
  intro x hx
  rcases dD.mp hx with q|q
  ·exact iA h'.1 x q
  ·exact iB h'.2 x q
 |_=>cases h
theorem Ko{x y:List Formula}(h3:x.all MP.good=true)(h4:y.all MP.good=true):(x++y.flatMap fun A=>[A,dual A]).all MP.good=true:=by
 rw[jA,ag]
 refine⟨h3,cJ.mpr fun A hA=>?_⟩
 obtain⟨B,hB,hm⟩:=fh.mp hA
 have:A=B\/A=dual B:=by simpa using hm
 have hg:=cJ.mp h4 B hB
 rcases this with rfl|rfl
 ·exact hg
 ·rw[MP.eV];exact hg
theorem Kp{x y:List Formula}(h1:x.length<=20)(h2:y.length<=20)(h3:x.all MP.good=true)(h4:y.all MP.good=true)(hb:(x++y).all inBounds=true):(aM (x++y.flatMap fun A=>[A,dual A])).length<=12000:=by
 rw[jA,ag] at hb
 have hb:∀A∈x++y.flatMap fun A=>[A,dual A],(nl A).length<=200:=fun A hA=>by
  rcases dD.mp hA with hA|hA
  ·exact gm (cJ.mp h3 A hA) (cJ.mp hb.1 A hA)
  ·obtain⟨B,hB,hm⟩:=fh.mp hA
   have:A=B\/A=dual B:=by simpa using hm
   have hg:=cJ.mp h4 B hB
   have hi:=cJ.mp hb.2 B hB
   rcases this with rfl|rfl
   ·exact gm hg hi
   ·rw[MS.mW hg];exact gm hg hi
 have e:=wc hb
 rw[aS,wW] at e
 have:(x.length+2*y.length)*200<=60*200:=kq (by omega) (aY _)
 omega
open Vanetc (Net formulas allLeaves linked partnersOf)
def bK(h:Addr)(H H':Hp):Prop:=∀b o,b≠h->H b=some o->H' b=some o
theorem bK.of_same{h:Addr}{H H':Hp}(e:aA H H'):bK h H H':=fun b o _ q=>e b o q
theorem bK.trans{h:Addr}{H H1 H2:Hp}(a:bK h H H1)(b:bK h H1 H2):bK h H H2:=fun c o n q=>b c o n (a c o n q)
theorem bK.upd{h:Addr}{H:Hp}{o:HO}:bK h H (L2.upd H h o):=fun b u n q=>by rw[aP n];exact q
def xE(K:aD)(CH C:Addr):Sp:=fun vs H Q _=>∃h a t s,vs=[.ref h,.ref a]/\aE K H a (t.map vb)/\t.length<=100000/\d6 K CH C H h s/\∀b H',bK h H H'->H b=none->H' b=some (.lst ((d7 (.set t) s).map V.int))->d6 K CH C H' h (eI s (.set t)).1->Q (.ref b) H'
theorem xF{c:fE}{n m:Net}{l:List Nat}(h:cB n c=.ok (m,l)):(eI n c).1=m:=by
 unfold eI
 rw[h]
theorem Ce{c:fE}{n:Net}{k:Nat}(h:cB n c=.error k):(eI n c).1=n:=by
 unfold eI
 rw[h]
theorem aA.isP{K:aD}{H H':Hp}{ws:List V}{ls:List (Nat×Nat)}(e:aA H H')(h:Paired (bj K H) ws ls):Paired (bj K H') ws ls:=Paired.mono (fun _ _ q=>q.same e) h
abbrev iy(o:Option HO):Prop:=(∀xs,o≠some (.lst xs))/\(∀xs,o≠some (.tup xs))/\∀ob xs,o≠some (.frz ob (.tup xs))
theorem lY{H:Hp}{h C d:Addr}{fs:List (Str×V)}(e:H h=some (.ins C d fs)):iy (H h):=by rw[e];exact⟨fun _ z=>(nomatch z),fun _ z=>(nomatch z),fun _ _ z=>(nomatch z)⟩
section
variable{K:aD}{C h:Addr}{H H':Hp}
theorem bK.tup{a:Addr}{xs:List V}(e:bK h H H')(hi:iy (H h))(q:aW K H a xs):aW K H' a xs:=by
 rcases q with(q|⟨ob,q⟩)|q
 ·exact .inl (.inl (e _ _ (fun z=>hi.2.1 xs (by rw[<-z];exact q)) q))
 ·exact .inl (.inr ⟨ob,e _ _ (fun z=>hi.2.2 ob xs (by rw[<-z];exact q)) q⟩)
 ·exact .inr q
theorem bK.lst{a:Addr}{xs:List V}(e:bK h H H')(hi:iy (H h))(q:H a=some (.lst xs)):H' a=some (.lst xs):=e _ _ (fun z=>hi.1 xs (by rw[<-z];exact q)) q
theorem bK.isN{v:V}{n:List UInt8}(e:bK h H H')(hi:iy (H h))(q:ai K H v n):ai K H' v n:=by
 obtain⟨a,rfl,q⟩:=q
 exact⟨a,rfl,e.tup hi q⟩
theorem bK.isG{v:V}{A:Formula}(e:bK h H H')(hi:iy (H h))(q:cH K H v A):cH K H' v A:=by
 obtain⟨g,rfl,⟨g1,vs,g2,g3⟩,g4⟩:=q
 exact⟨g,rfl,⟨g1,vs,e.lst hi g2,Paired.mono (fun _ _ z=>e.isN hi z) g3⟩,g4⟩
theorem bK.isGs{v:V}{fs:List Formula}(e:bK h H H')(hi:iy (H h))(q:dn K H v fs):dn K H' v fs:=by
 obtain⟨a,ws,rfl,g1,g2⟩:=q
 exact⟨a,ws,rfl,e.lst hi g1,Paired.mono (fun _ _ z=>e.isG hi z) g2⟩
theorem bK.sAt{g:Addr}{n:Net}(e:bK h H H')(hi:iy (H h))(hg:g≠h)(q:cR K C H g n):cR K C H' g n:=by
 obtain⟨⟨dx,x,y,c,h1,h2,h3,h4⟩,h5⟩:=q
 exact⟨⟨dx,x,y,c,e _ _ hg h1,e.isGs hi h2,e.isGs hi h3,e.lst hi h4⟩,h5⟩
end
section
variable{P:Program}{w:World}{K:aD}{mg:Str->Option Value}{base:Heap}{C CK CG CH:Addr}
theorem Cf:aZ ["holder","text","pieces","conclusions","cuts","leaves","partners","formula"] ["holder","text"] (aQ qQ):=fS
theorem Kq(D:aO K mg "set_text" qQ)(RH:HC K CH)(R:SC K C)(T4:fe mg)(C1:aK P w K mg base "read_pieces" 10 ["text"] (BR K))(C2:aK P w K mg base "in_bounds" 3 ["formula"] (qU K))(C3:aK P w K mg base "all_formulas" 3 ["conclusions","cuts"] (wV K))
  (C4:aK P w K mg base "leaves_of" 3 ["formulas"] (qf K))(C5:aK P w K mg base "partners_by" 2 ["links","leaves"] (BW K))(MS:eE P w K mg base "Structure" C 1 ["self","conclusions","cuts","partners"] (js C)):aK P w K mg base "set_text" 11 ["holder","text"] (xE K CH C):=by
 refine D.cal Cf (fun vs H Q E h=>?_) (fun fa cdv A outer s H vs Q E hr h=>?_)
 ·obtain⟨_,_,_,_,rfl,_⟩:=h
  rfl
 ·obtain⟨h,a,t,n,rfl,ha,hal,hh,k⟩:=h
  have nd:=Cf.nd
  have hr3:=hr.mono (show 3<=10 by decide)
  have hr2:=hr.mono (show 2<=10 by decide)
  refine⟨_,aG (aT (i:=2) nd rfl (aJ rfl) (pc C1 hr (aB (pv 1) aC)))
   (aG (aj (ao kN (pv 2) bu (ak _)) (aI (aN (au (aB (bX T4.kind) aC)))) ay)
   (aG (aT (i:=3) nd rfl (aJ rfl) (aa az (pv 2) aR (fun _ _=>rfl)))
   (aG (aT (i:=4) nd rfl (aJ rfl) (aa az (pv 2) aR (fun _ _=>rfl)))
   (aG (aj (dH (cA (bD (pW rfl) (by rfl) T4.all boot_all (aB (eS (own:=[("formula",7)]) rfl nd (c6 (bH c8 (pv 3) (pv 4))) (dc (N:=["holder","text","pieces","conclusions","cuts","leaves","partners","formula"]) (sc:=aQ qQ) (by decide+kernel)) (fun _ _ _ _ _=>bN (i:=7) nd rfl (aJ rfl)) (fun _ _ _ _ _=>eR) (fun _ _ _ _ _=>pc C2 hr3 (aB (pv 7) aC))) aC))))
    (aI (aN (au (aB (bX T4.bounds) aC)))) ay)
   (aG (aT (i:=5) nd rfl (aJ rfl) (pc C4 hr3 (aB (pc C3 hr3 (aB (pv 3) (aB (pv 4) aC))) aC)))
   (aG (aj (ao ik (bD bI (by rfl) T4.len bM (aB (pv 5) aC)) (bX T4.mleaves) (ak _)) (aI (aN (au (aB (bX T4.many) aC)))) ay)
   (aG (aT (i:=6) nd rfl (aJ rfl) (pc C5 hr2 (aB (aa az (pv 2) aR (fun _ _=>rfl)) (aB (pv 5) aC))))
   (aG (aj (ao kN (pv 6) bu (ak _)) (aI (aN (au (aB (bX T4.fit) aC)))) ay)
   (aG (dY (pv 0) (pk MS hr2 (aB (pv 3) (aB (pv 4) (aB (pv 6) aC)))) rfl)
   (aI (aN (au (aB (bD bI (by rfl) T4.len bM (aB (pv 5) aC)) aC))))))))))))),?_⟩
  have hsl:=sizeLine_eq
  have hlim:bz=1000000:=rfl
  have refuse:∀{kk:Nat} {i:Int} {H1:Hp},cB n (.set t)=.error kk->i= -(kk:Int)->aA H H1->(1<=sizeLine/\∀p,H1 p=none->Q (.ref p) (upd H1 p (.lst [V.int i]))):=fun{kk i H1} hd hi s1=>by
   refine⟨by omega,fun u hu=>k u _ (bK.of_same (s1.trans (aA.upd hu))) (s1.free hu) (aF.trans ?_) ?_⟩
   ·rw[ke hd,hi];rfl
   ·rw[Ce hd];exact hh.same (s1.trans (aA.upd hu))
  refine⟨_,rfl,.ref a,t,rfl,⟨a,rfl,ha⟩,by omega,fun x y z d H1 hP s1 hpc=>?_,fun hP H1 s1=>?_⟩
  case _=>
   obtain⟨d1,d2,d3,ws1,ws2,ws3,p0,p1,q1,p2,q2,p3,q3⟩:=hpc.ex
   obtain⟨hx20,hy20,hxg,hyg,hzl⟩:=Cc hP
   have hds:=Kl n hP
   have wl1:=q1.length
   have wl2:=q2.length
   refine⟨_,rfl,rfl,_,rfl,ir ?_⟩
   refine⟨_,rfl,d,_,_,_,rfl,rfl,aE.of p0,ah (j:=0) rfl,?_⟩
   refine⟨_,rfl,d,_,_,_,rfl,rfl,aE.of p0,ah (j:=1) rfl,?_⟩
   refine⟨_,rfl,_,rfl,d1,d2,ws1,ws2,rfl,rfl,p1,p2,by omega,fun u hu=>?_⟩
   have s2:=aA.upd (o:=.lst (ws1++ws2)) hu
   have hu2:(upd H1 u (.lst (ws1++ws2))) u=some (.lst (ws1++ws2)):=aF
   generalize upd H1 u (.lst (ws1++ws2))=H2 at s2 hu2⊢
   have s02:=s1.trans s2
   have hq:Paired (cH K H2) (ws1++ws2) (x++y):=iR (Paired.mono (fun _ _ z=>z.same s2) q1) (Paired.mono (fun _ _ z=>z.same s2) q2)
   have hql:=hq.length
   rw[aS,aS] at hql
   refine⟨u,rfl,⟨_,aE.of hu2⟩,fun D1 hD1=>?_⟩
   refine fT (K:=K) (a:=u) (xs:=ws1++ws2) (fun i H'=>aA H2 H'/\H' D1=some (.lst ((((x++y).take i).map inBounds).map V.bl))) ⟨aA.upd hD1,aF⟩ ?_ ?_ ?_
   ·rintro i H' _ ⟨s3,_⟩
    exact aE.of (s3 _ _ hu2)
   ·rintro i v H' hv ⟨s3,hz⟩
    obtain⟨F,hF,hG⟩:=bw hq hv
    have hil:=(bC.mp hv).1
    rw[aS] at hil
    have hG':=hG.same s3
    obtain⟨g,rfl,hFA,hFl⟩:=hG'
    refine⟨rfl,_,rfl,.ref g,F,rfl,hFA.isF hFl,fun H4 s4=>⟨_,s4 _ _ hz,by rw[aL,aL,cM,aS];omega,aA.upd2 (s3.trans s4) hD1,?_⟩⟩
    rw[aF,take_snoc hF,bO,bO];rfl
   ·rintro H3 ⟨s3,hz⟩
    rw[aS,hql,<-aS,cQ] at hz
    refine⟨D1,_,rfl,aE.of hz,_,rfl,?_⟩
    have eall:((x++y).map inBounds).all id=(x++y).all inBounds:=by rw[oS];rfl
    rw[eall]
    have s03:=s02.trans s3
    refine aU (fun e=>?_) (fun e=>?_)
    ·have e:¬((x++y).all inBounds=true):=by intro z;rw[z] at e;cases e
     rw[if_neg e] at hds
     exact refuse hds rfl s03
    have e:(x++y).all inBounds=true:=by simpa using e
    rw[if_pos e] at hds
    have s13:=s2.trans s3
    have hgs1:dn K H3 (.ref d1) x:=⟨d1,ws1,rfl,s13 _ _ p1,Paired.mono (fun _ _ z=>z.same s13) q1⟩
    have hgs2:dn K H3 (.ref d2) y:=⟨d2,ws2,rfl,s13 _ _ p2,Paired.mono (fun _ _ z=>z.same s13) q2⟩
    refine⟨_,rfl,_,rfl,.ref d1,.ref d2,x,y,rfl,hgs1,hgs2,by omega,fun v' H4 s4 hv'=>?_⟩
    have hfg:=Ko hxg hyg
    have hfs:=Kp hx20 hy20 hxg hyg e
    refine⟨v',_,rfl,hv',hfg,by omega,fun lb zs H5 s5 hlbn hlb hzs=>?_⟩
    have hzsl:=hzs.length
    rw[aL] at hzsl
    have s35:=s4.trans s5
    have s05:=s03.trans s35
    refine⟨_,rfl,lb,zs,rfl,.inl (aE.of hlb),_,_,rfl,rfl,_,rfl,?_⟩
    refine aU (fun e2=>?_) (fun e2=>?_)
    ·have e2:=of_decide_eq_true e2
     rw[if_neg (by omega)] at hds
     exact refuse hds rfl s05
    have e2:¬((120:Int)<(zs.length:Int)):=fun z=>e2 (decide_eq_true z)
    have hl120:((x++y.flatMap fun A=>[A,dual A]).flatMap leaves).length<=120:=by omega
    rw[if_pos hl120] at hds
    have s15:=s13.trans s35
    refine⟨_,rfl,d,_,_,_,rfl,rfl,aE.of (s15 _ _ p0),ah (j:=2) rfl,_,rfl,?_⟩
    refine⟨d3,lb,ws3,zs,z,(x++y.flatMap fun A=>[A,dual A]).flatMap leaves,rfl,s15 _ _ p3,aA.isP s15 q3,hlb,hzs,fun p hp=>?_,by omega,hzl,fun hri c H6 s6 hc=>?_,fun hri H6 s6=>?_⟩
    ·obtain⟨F,hF,hm⟩:=fh.mp hp
     exact Cd (cJ.mp hfg F hF) p hm
    ·rw[if_pos hri] at hds
     have hnet:=Kn hP e hl120 hri
     have s06:=s05.trans s6
     have s36:=s35.trans s6
     refine⟨_,rfl,rfl,_,rfl,ir ?_⟩
     refine⟨_,rfl,_,rfl,_,rfl,fun g dx' hgn hdxn hne=>?_⟩
     refine⟨g,dx',_,_,_,rfl,aF,fun H7 hg7 k7=>⟨rfl,?_⟩⟩
     have s7:aA H6 H7:=fun b o ho=>k7 b o (by rw[aP (ae ho hgn),aP (ae ho hdxn)];exact ho) (ae ho hgn)
     have s07:=s06.trans s7
     have s37:=s36.trans s7
     obtain⟨dxh,qh,hh1,hh2⟩:=hh.ex
     refine⟨_,rfl,h,CH,dxh,_,rfl,s07 _ _ hh1,RH.cl,RH.n1,(by show 1<1000;decide),?_⟩
     have hgh:g≠h:=fun e=>by rw[e] at hgn;have:=s06 _ _ hh1;rw[hgn] at this;cases this
     have eput:cn "structure" (.ref g) (hf (.ref qh))=hf (.ref g):=rfl
     rw[eput]
     have hSA7:cR K C H7 g (iw x y z):=⟨⟨dx',_,_,c,hg7,hgs1.same s37,hgs2.same s37,s7 _ _ hc⟩,hnet⟩
     have b8:bK h H7 (upd H7 h (.ins CH dxh (hf (.ref g)))):=bK.upd
     have hh8:(upd H7 h (.ins CH dxh (hf (.ref g)))) h=some (.ins CH dxh (hf (.ref g))):=aF
     have hh7:=s07 _ _ hh1
     have hlb8:=b8.lst (lY hh7) (s7 _ _ (s6 _ _ hlb))
     have hSA8:=b8.sAt (lY hh7) hgh hSA7
     have hfree:∀{u:Addr},(upd H7 h (.ins CH dxh (hf (.ref g)))) u=none->H u=none:=fun{u} hu=>s07.free (gH hu)
     generalize upd H7 h (.ins CH dxh (hf (.ref g)))=H8 at b8 hh8 hlb8 hSA8 hfree⊢
     refine⟨_,rfl,lb,zs,rfl,.inl (aE.of hlb8),(by show 1<=sizeLine;omega),fun u8 hu8=>?_⟩
     have s9:=aA.upd (o:=.lst [V.int (zs.length:Nat)]) hu8
     refine k u8 _ ((bK.of_same s07).trans (b8.trans (bK.of_same s9))) (hfree hu8) (aF.trans ?_) ?_
     ·rw[lX hds,hzsl];rfl
     ·rw[xF hds];exact⟨dxh,g,s9 _ _ hh8,hSA8.same s9⟩
    ·rw[if_neg (by rw[hri];decide)] at hds
     have s06:=s05.trans s6
     refine⟨_,rfl,rfl,_,rfl,kW ?_⟩
     exact refuse hds rfl s06
  case _=>
   refine⟨_,rfl,rfl,_,rfl,kW ?_⟩
   exact refuse (Km n hP) rfl s1
end
open Vaneta (Formula)
open Vanetc (Net)
def rF:Net:={concl:=[],cuts:=[],to:=[]}
theorem Kr:bQ rF:=⟨by decide,by decide,(fun _ h=>nomatch h),(fun _ h=>nomatch h),by decide,rfl,rfl⟩
def T0:List UInt8:=[97,44,32,126,97,32,59,32,59,32,48,45,49]
def z0:Str:="a, ~a ; ; 0-1"
theorem Ks:z0.cps.toList=T0.map UInt8.toNat:=by decide+kernel
def isStart:rj->Bool
 |.ok (s,l)=>decide (s=oX)&&l==[2]
 |_=>false
theorem Kt(s:Net):(eI s (.set T0)).1=oX:=by
 have h:isStart (mG T0)=true:=by decide+kernel
 have e:∃l,cB s (.set T0)=.ok (oX,l):=by
  show∃l,mG T0=.ok (oX,l)
  cases hd:mG T0 with
  |error k=>rw[hd] at h;cases h
  |ok x=>
   obtain⟨s',l⟩:=x
   rw[hd] at h
   have h:(decide (s'=oX)&&l==[2])=true:=h
   rw[ag] at h
   rw[of_decide_eq_true h.1]
   exact⟨l,rfl⟩
 obtain⟨l,e⟩:=e
 exact xF e
structure Cg (mg:Str->Option Value):Prop where
 ord:mg "ord"=none
 first:∃t,mg "FIRST_TEXT"=some (.str z0 t)
section
variable{P:Program}{w:World}{K:aD}{mg:Str->Option Value}{base:Heap}{C CK CG CH:Addr}
def xG(K:aD)(CH C:Addr):Sp:=fun vs H Q _=>∃p dx,vs=[.ref p]/\H p=some (.ins CH dx [])/\∀H',d6 K CH C H' p rF->bK p H H'->Q .non H'
theorem Ku:aZ ["self"] ["self"] (aQ vX):=fS
theorem Kv{fI:Addr}{fd:FuncData}(F:fV K "__init__" "Holder.__init__" vX fI fd)(RH:HC K CH)(MS:eE P w K mg base "Structure" C 1 ["self","conclusions","cuts","partners"] (js C)):dB P w K mg base eT 3 fI fd ["self"] (xG K CH C):=by
 refine F.ok Ku (fun vs H Q E h=>?_) (fun cdv A outer s H vs Q E hr h=>?_)
 ·obtain⟨_,_,rfl,_⟩:=h
  rfl
 ·obtain⟨p,dx,rfl,hp,k⟩:=h
  refine⟨_,aI (dY (pv 0) (pk MS hr (aB (au aC) (aB (au aC) (aB (au aC) aC)))) rfl),?_⟩
  refine⟨bF _,fun a ha=>⟨bF _,fun b hb=>⟨bF _,fun c hc g dx' hgn hdxn hne=>?_⟩⟩⟩
  have s1:=aA.upd (o:=.lst []) ha
  have a1:(upd H a (.lst [])) a=some (.lst []):=aF
  generalize upd H a (.lst [])=H1 at s1 a1 hb hc hgn hdxn⊢
  have s2:=aA.upd (o:=.lst []) hb
  have b2:(upd H1 b (.lst [])) b=some (.lst []):=aF
  generalize upd H1 b (.lst [])=H2 at s2 b2 hc hgn hdxn⊢
  have s3:=aA.upd (o:=.lst []) hc
  have c3:(upd H2 c (.lst [])) c=some (.lst []):=aF
  generalize upd H2 c (.lst [])=H3 at s3 c3 hgn hdxn⊢
  refine⟨g,dx',_,_,_,rfl,aF,fun H7 hg7 k7=>⟨rfl,?_⟩⟩
  have s7:aA H3 H7:=fun b o ho=>k7 b o (by rw[aP (ae ho hgn),aP (ae ho hdxn)];exact ho) (ae ho hgn)
  have s03:=(s1.trans s2).trans s3
  have s07:=s03.trans s7
  have hp7:=s07 _ _ hp
  have hgp:g≠p:=fun e=>by rw[e] at hgn;have:=s03 _ _ hp;rw[hgn] at this;cases this
  refine⟨_,rfl,p,CH,dx,_,rfl,hp7,RH.cl,RH.n1,(by show 0<1000;decide),?_⟩
  have b8:bK p H7 (upd H7 p (.ins CH dx (cn "structure" (.ref g) []))):=bK.upd
  have hS7:cR K C H7 g rF:=⟨⟨dx',_,_,c,hg7,⟨a,[],rfl,s7 _ _ (s3 _ _ (s2 _ _ a1)),.nil⟩,⟨b,[],rfl,s7 _ _ (s3 _ _ b2),.nil⟩,s7 _ _ c3⟩,Kr⟩
  exact k _ ⟨dx,g,aF,b8.sAt (lY hp7) hgp hS7⟩ ((bK.of_same s07).trans b8)
def Ci(K:aD)(CH C:Addr):Sp:=fun vs H Q _=>vs=[]/\∀h H',aA H H'->H h=none->d6 K CH C H' h oX->Q (.ref h) H'
theorem Cj:aZ ["holder","sign"] [] (aQ qS):=fS
theorem Kw(D:aO K mg "new_holder" qS)(T5:Cg mg)(C1:aK P w K mg base "set_text" 11 ["holder","text"] (xE K CH C))(MH:eE P w K mg base "Holder" CH 3 ["self"] (xG K CH C)):aK P w K mg base "new_holder" 12 [] (Ci K CH C):=by
 refine D.cal Cj (fun vs H Q E h=>?_) (fun fa cdv A outer s H vs Q E hr h=>?_)
 ·obtain⟨rfl,_⟩:=h
  rfl
 ·obtain⟨rfl,k⟩:=h
  have nd:=Cj.nd
  obtain⟨tk,hft⟩:=T5.first
  refine⟨_,aG (aT (i:=0) nd rfl (aJ rfl) (Av MH (hr.mono (show 4<=11 by decide))))
   (aG (bV (pc C1 hr (aB (pv 0) (aB (eS (own:=[("sign",1)]) rfl nd (zz (tQ (v:=.str z0) rfl hft ⟨tk,rfl⟩)) (dc (N:=["holder","sign"]) (sc:=aQ qS) (by decide+kernel)) (fun _ _ _ _ _=>bN (i:=1) nd rfl (aJ rfl)) (fun _ _ _ _ _=>eR) (fun _ _ _ _ _=>bD zK (by rfl) T5.ord Md (aB (pv 1) aC))) aC))))
   (aI (aN (pv 0)))),?_⟩
  have hsl:=sizeLine_eq
  intro p dx hp hdx hne
  refine⟨p,dx,rfl,aF,fun H1 hA bt=>⟨rfl,?_⟩⟩
  have s1:aA H H1:=fun b o q=>bt b o (ae q hp) (by rw[aP (ae q hp),aP (ae q hdx)];exact q)
  refine⟨_,rfl,?_⟩
  have hzs:z0.cps.size=13:=by decide+kernel
  refine⟨z0,rfl,fun D1 hD1=>?_⟩
  refine AW (x:=z0) (fun i H'=>aA H1 H'/\H' D1=some (.lst ((T0.take i).map vb))) ⟨aA.upd hD1,aF⟩ ?_ ?_
  ·rintro i c H' hc ⟨s2,hz⟩
   have hc':z0.cps.toList[i]? =some c:=by rw[Ds];exact hc
   rw[Ks,bo] at hc'
   obtain⟨b,hb,rfl⟩:∃b,T0[i]? =some b/\b.toNat=c:=by
    cases q:T0[i]? with
    |none=>rw[q] at hc';cases hc'
    |some b=>rw[q] at hc';exact⟨b,rfl,bL hc'⟩
   refine⟨rfl,_,rfl,_,rfl,rfl,_,hz,?_,aA.upd2 s2 hD1,?_⟩
   ·rw[aL,cM,show T0.length=13 from rfl];omega
   ·rw[aF,take_snoc hb,bO];rfl
  ·rintro H2 ⟨s2,hz⟩
   rw[hzs,show T0.take 13=T0 from rfl] at hz
   refine⟨p,D1,T0,rF,rfl,aE.of hz,(by show 13<=_;omega),hA.same s2,fun b H3 bt3 hbn hb3 hA3=>?_⟩
   rw[Kt] at hA3
   refine⟨_,rfl,k p H3 (fun b o q=>bt3 b o (ae q hp) (s2 _ _ (s1 _ _ q))) hp hA3⟩
end
section
variable(P:Program)(w:World)(K:aD)(mg:Str->Option Value)(base:Heap)
structure FnAt (k:Nat) (f:Addr) (sp:Sp):Prop where
 ex:∃(fd:FuncData) (ps:List Str),hJ K (.ref f)=true/\Binds K fd ps []/\dB P w K mg base eT k f fd ps sp
end
theorem aK.at{P:Program}{w:World}{K:aD}{mg:Str->Option Value}{base:Heap}{x:Str}{k:Nat}{ps:List Str}{sp:Sp}(C:aK P w K mg base x k ps sp):∃f,mg x=some (.ref f)/\FnAt P w K mg base k f sp:=by
 obtain⟨f,fd,h1,h2,h3,h4⟩:=C.ex
 exact⟨f,h1,⟨fd,ps,h2,h3,h4⟩⟩
def Kx(P:Program)(w:World)(K:aD)(mg:Str->Option Value)(base:Heap)(k i:Nat)(t:TA):TE:=fun σ H Q=>∃f sp j,σ[i]? =some (some (.ref f))/\j<=k/\FnAt P w K mg base j f sp/\t σ H fun vs H1=>sp vs H1 Q E0
theorem Ky{X:Cx}{x:Str}{k i:Nat}{p pos:Pos}{e:Expr}{es:List Expr}{t:TA}(hr:bh k X.A)(ha:PA X (e::es) t)(hN:X.N[i]? =some x)(hv:kJ X.env.scope x)(hd:(x==("__debug__":Str))=false:=by decide)(hcd:(x==("__classdict__":Str))=false:=by decide)
  (he:starEach (e::es) X.env=(false,eval e X.env)::starEach es X.env:=by rfl)(hpl:(backTo pos (starEach es X.env)).any (·.1)=false:=by rfl):
  PE X (.Call (.Name x p) (e::es) [] pos) (Kx X.prog X.w X.K X.mg X.base k i t):=by
 intro pins s σ H Q I h
 obtain⟨f,sp,j,hi,hj,⟨fd,ps,hk,hb,F⟩,h⟩:=h
 refine wpAny_Call_Name_kw (af (yj hN hv hd hcd pins s σ H (fun v H1=>v=.ref f/\H1=H) I ⟨_,hi,rfl,rfl⟩) fun u s1 ⟨v,H1,I1,r1,ev,eH⟩=>?_)
 subst ev eH
 cases r1
 refine x8 (h₀:=X.base) I1.ok.mod.kin hk (af (ha pos pins s1 σ H1 _ I1 h) fun us s2 ⟨vs,H2,I2,r,q⟩=>⟨I2.kIn,?_⟩) he hpl
 exact mq F (hr.mono hj) hb .nil kU I2 r (by rw[d8];exact q)
def nt:List DictEntry->List (Int×Addr)->Bool
 |[],[]=>true
 |e::es,(k,f)::fs=>(match e.key with|.int k' _=>decide (k'=k)|_=>false)&&((match e.val with|.ref f'=>decide (f'=f)|_=>false)&&(decide (e.hash=hashInt k)&&nt es fs))
 |_,_=>false
theorem Ck{P:Program}{w:World}:∀{es:List DictEntry} {fs:List (Int×Addr)},nt es fs=true->Pairs (intKind P w) es (fs.map fun x=>(x.1,Value.ref x.2))/\∀e∈es,∃k,(intKind P w).is k e.key=true/\e.hash=(intKind P w).hash k
 |[],[],_=>⟨.nil,fun _ h=>nomatch h⟩
 |[],_::_,h=>nomatch h
 |_::_,[],h=>nomatch h
 |e::es,(k,f)::fs,h=>by
  have h:((match e.key with|.int k' _=>decide (k'=k)|_=>false)&&((match e.val with|.ref f'=>decide (f'=f)|_=>false)&&(decide (e.hash=hashInt k)&&nt es fs)))=true:=h
  rw[ag,ag,ag] at h
  obtain⟨h1,h2,h3,h4⟩:=h
  obtain⟨q1,q2⟩:=Ck (P:=P) (w:=w) h4
  have e1:(intKind P w).is k e.key=true:=by
   cases hk:e.key<;>rw[hk] at h1<;>first|cases h1|skip
   rename_i k' t
   have:k'=k:=of_decide_eq_true h1
   subst this
   exact intKind_is P w k' t
  have e2:e.val=.ref f:=by
   cases hk:e.val<;>rw[hk] at h2<;>first|cases h2|skip
   rename_i f'
   have:f'=f:=of_decide_eq_true h2
   rw[this]
  refine⟨.cons e1 e2 q1,fun x hx=>?_⟩
  rcases bc.mp hx with rfl|hx
  ·exact⟨k,e1,of_decide_eq_true h3⟩
  ·exact q2 x hx
structure DK (K:aD) (mg:Str->Option Value) (x:Str) (fs:List (Int×Addr)):Prop where
 ex:∃a o es ep,mg x=some (.ref a)/\K.lookup a=some o/\o.ExactDict/\o.data=.dict es ep/\nt es.toList fs=true/\(fs.map (·.1)).Nodup
def Kz(fs:List (Int×Addr))(ti:TE):TE:=fun σ H Q=>ti σ H fun y H1=>∃k f,y=.int k/\fs.lookup k=some f/\Q (.ref f) H1
theorem Cm{k:Int}{f:Addr}:∀{fs:List (Int×Addr)},fs.lookup k=some f->valueAt (fs.map fun x=>(x.1,Value.ref x.2)) k=some (.ref f)
 |[],h=>nomatch h
 |(k',f')::r,h=>by
  rw[dt] at h
  unfold valueAt
  rw[bg,oF]
  by_cases e:k=k'
  ·subst e
   rw[beq_self_eq_true] at h
   cases h
   rw[decide_eq_true rfl];rfl
  ·rw[beq_false_of_ne e] at h
   rw[decide_eq_false (fun z=>e z.symm)]
   exact Cm h
theorem LA{X:Cx}{x:Str}{fs:List (Int×Addr)}{i:Expr}{ti:TE}{p pos:Pos}(D:DK X.K X.mg x fs)(hi:PE X i ti)(hs:zu i)(hg:Gl X x:=by rfl)(hd:(x==("__debug__":Str))=false:=by decide):PE X (.Subscript (.Name x p) i pos) (Kz fs ti):=by
 intro pins s σ H Q I h
 obtain⟨a,o,es,ep,h1,h2,h3,h4,h5,h6⟩:=D.ex
 refine Gu PySem.F.slot_dict_getitem.lookup hs (kK I hg h1 (af (hi pins s σ H _ I h) fun iv s2 ⟨y,H2,I2,ry,k,f,ey,hl,q2⟩=>?_) hd)
 subst ey
 obtain⟨t,rfl⟩:=ry
 have ho:=I2.kIn a o h2
 obtain⟨b1,b2⟩:=Ck (P:=X.prog) (w:=X.w) h5
 have dd:s2.heap.DictOf (intKind X.prog X.w) a (fs.map fun x=>(x.1,Value.ref x.2)):=⟨o,es,ep,ho,h3,h4,fun e he=>b2 e (by simpa using he),b1,by rw[jB];exact h6⟩
 exact⟨dd.typeIs,wpAny_getItem_of (intKind_is X.prog X.w k t) dd.mapOf (Cm hl) ⟨.ref f,H2,I2.tok _,rfl,q2⟩⟩
def nv:List DictEntry->List (Int×Int)->Bool
 |[],[]=>true
 |e::es,(k,v)::fs=>(match e.key with|.int k' _=>decide (k'=k)|_=>false)&&((match e.val with|.int v' _=>decide (v'=v)|_=>false)&&(decide (e.hash=hashInt k)&&nv es fs))
 |_,_=>false
def ny(fs:List (Int×Int))(k:Int)(z:V):V:=match fs.lookup k with
 |some v=>.int v
 |none=>z
theorem Co{P:Program}{w:World}:∀{es:List DictEntry} {fs:List (Int×Int)},nv es fs=true->∃vs:List (Int×Value),Pairs (intKind P w) es vs/\vs.map (·.1)=fs.map (·.1)/\(∀k z u,RelV z u->RelV (ny fs k z) ((valueAt vs k).getD u))/\∀e∈es,∃k,(intKind P w).is k e.key=true/\e.hash=(intKind P w).hash k
 |[],[],_=>⟨[],.nil,rfl,fun _ _ _ h=>h,fun _ h=>nomatch h⟩
 |[],_::_,h=>nomatch h
 |_::_,[],h=>nomatch h
 |e::es,(k,v)::fs,h=>by
  have h:((match e.key with|.int k' _=>decide (k'=k)|_=>false)&&((match e.val with|.int v' _=>decide (v'=v)|_=>false)&&(decide (e.hash=hashInt k)&&nv es fs)))=true:=h
  rw[ag,ag,ag] at h
  obtain⟨h1,h2,h3,h4⟩:=h
  obtain⟨vs,q1,q2,q3,q4⟩:=Co (P:=P) (w:=w) h4
  have e1:(intKind P w).is k e.key=true:=by
   cases hk:e.key<;>rw[hk] at h1<;>first|cases h1|skip
   rename_i k' t
   have:k'=k:=of_decide_eq_true h1
   subst this
   exact intKind_is P w k' t
  have e2:∃t,e.val=.int v t:=by
   cases hk:e.val<;>rw[hk] at h2<;>first|cases h2|skip
   rename_i v' t
   have:v'=v:=of_decide_eq_true h2
   exact⟨t,by rw[this]⟩
  obtain⟨t,e2⟩:=e2
  refine⟨(k,e.val)::vs,.cons e1 rfl q1,by rw[bg,bg,q2],fun q z u r=>?_,fun x hx=>?_⟩
  ·unfold ny valueAt
   rw[dt,oF]
   by_cases z:q=k
   ·subst z
    rw[beq_self_eq_true,decide_eq_true rfl]
    exact⟨t,e2⟩
   ·rw[beq_false_of_ne z,decide_eq_false (fun y=>z y.symm)]
    exact q3 q _ u r
  ·rcases bc.mp hx with rfl|hx
   ·exact⟨k,e1,of_decide_eq_true h3⟩
   ·exact q4 x hx
structure DI (K:aD) (mg:Str->Option Value) (x:Str) (fs:List (Int×Int)):Prop where
 ex:∃a o es ep,mg x=some (.ref a)/\K.lookup a=some o/\o.ExactDict/\o.data=.dict es ep/\nv es.toList fs=true/\(fs.map (·.1)).Nodup/\(a==sysModules)=false
def LB(fs:List (Int×Int))(ty tx:TE):TE:=fun σ H Q=>ty σ H fun y H2=>tx σ H2 fun z H3=>∃k,y=.int k/\Q (ny fs k z) H3
theorem LC{X:Cx}{x:Str}{fs:List (Int×Int)}{e f:Expr}{ty tx:TE}{p apos cpos:Pos}(D:DI X.K X.mg x fs)(he:PE X e ty)(hf:PE X f tx)(m:M2 X (.Name x p) "get" apos e f cpos)(hg:Gl X x:=by rfl)(hd:(x==("__debug__":Str))=false:=by decide):PE X (.Call (.Attribute (.Name x p) "get" apos) [e,f] [] cpos) (LB fs ty tx):=by
 intro pins s σ H Q I h
 obtain⟨a,o,es,ep,h1,h2,h3,h4,h5,h6,h7⟩:=D.ex
 obtain⟨vs,b1,b2,b3,b4⟩:=Co (P:=X.prog) (w:=X.w) h5
 have dd:∀{s':Shared},X.K.In s'.heap->s'.heap.DictOf (intKind X.prog X.w) a vs:=fun{s'} z=>⟨o,es,ep,z a o h2,h3,h4,fun e he=>b4 e (by simpa using he),b1,by rw[b2];exact h6⟩
 refine wpAny_Call_method m.base m.few m.line PySem.F.plainAttrs_dict Mm PySem.F.type_dict_get (kK I hg h1 ?_ hd)
 refine⟨(dd I.kIn).typeIs,fun b q=>?_,?_⟩
 ·cases q
  exact⟨o,I.kIn a o h2,h3.2.1⟩
 rw[m.trees]
 refine Calls.callWith_builtin rfl (Calls.evalArgs_plain (Calls.spliced_cons (af (he pins s σ H _ I h) fun iv s2 ⟨y,H2,I2,ry,q2⟩=>
  Calls.spliced_cons (af (hf pins s2 σ H2 _ I2 q2) fun fv s3 ⟨z,H3,I3,rz,k,ey,q3⟩=>Calls.spliced_nil ?_))))
 subst ey
 obtain⟨t,rfl⟩:=ry
 refine call_meetsIn Mm (dd I3.kIn).typeIs PySem.F.entry_dict_get (PySem.F.args_dict_get_3 _ _ _) (meets_dict_get_default (intKind X.prog X.w) a (intKind_is X.prog X.w k t) h7 fv) ⟨_,(dd I3.kIn).mapOf,⟨_,H3,I3.tok _,b3 k z fv rz,q3⟩⟩
def lZ(K:aD)(C:Addr)(qual:Str)(st:Stmt):Prop:=∃f fd,Mk K C f/\fV K "__init__" qual st f fd
theorem LD{x:V}{u:Value}(h:pK u=some x):RelV x u:=by
 cases u<;>first|(cases h;done)|(cases h;rfl)|(cases h;exact⟨_,rfl⟩)
theorem Cp:∀{us:List Value} {xs:List V},us.map pK=xs.map some->ab xs us
 |[],[],_=>.nil
 |[],_::_,h=>nomatch h
 |_::_,[],h=>nomatch h
 |u::us,x::xs,h=>by
  rw[bg,bg] at h
  injection h with h1 h2
  exact .cons (LD h1) (Cp h2)
section
variable{K:aD}{h:Heap}{mg:Str->Option Value}
theorem LF{x:Str}{st:Stmt}{f:Addr}{oc:Value}{od an:Option Addr}{osl:Array (Option Value)}{kV doc pm cdv ct:Value}(X:K.In h)(G:h.Ns mainGlobals mg)(a:mH K mainGlobals x=some (some (.ref f)))(l:K.lookup f=some ⟨oc,od,.func (hU x x (iN st) (fU st) (aQ st) .none kV doc pm an cdv ct),osl⟩)
  (c:mB K cdv x=true)(k:hJ K (.ref f)=true):aO K mg x st:=⟨f,_,cz X G a,pb l c k⟩
theorem LG{x qual:Str}{st:Stmt}{f C:Addr}{oc:Value}{od an:Option Addr}{osl:Array (Option Value)}{kV doc pm cdv ct:Value}(a:iX K (.ref C) x=some (some (.ref f)))(i:rY K (.ref f)=true)(l:K.lookup f=some ⟨oc,od,.func (hU x qual (iN st) (fU st) (aQ st) .none kV doc pm an cdv ct),osl⟩)
  (c:mB K cdv qual=true)(k:hJ K (.ref f)=true):bZ K C x qual st:=⟨f,_,⟨a,i,k⟩,pb l c k⟩
theorem LH{qual:Str}{st:Stmt}{f C:Addr}{oc:Value}{od an:Option Addr}{osl:Array (Option Value)}{kV doc pm cdv ct:Value}(a:iX K (.ref C) "__init__"=some (some (.ref f)))(i:rY K (.ref f)=true)(l:K.lookup f=some ⟨oc,od,.func (hU "__init__" qual (iN st) (fU st) (aQ st) .none kV doc pm an cdv ct),osl⟩)
  (c:mB K cdv qual=true)(k:hJ K (.ref f)=true)(mk:Dq K C=true)(kc:hJ K (.ref C)=true):lZ K C qual st:=⟨f,_,⟨mk,a,i,kc⟩,pb l c k⟩
theorem LI{x:Str}{n:List UInt8}{a:Addr}{od:Option Addr}{its:Array Value}{m:Nat}{sl:Array (Option Value)}(X:K.In h)(G:h.Ns mainGlobals mg)(e:mH K mainGlobals x=some (some (.ref a)))(l:K.lookup a=some ⟨.type "tuple",od,.seq its m,sl⟩)
  (q:its.size<=sizeLine)(v:its.toList.map pK=(n.map vb).map some):fY K mg x n:=⟨a,cz X G e,fun _=>.inr ⟨_,its,m,l,rfl,rfl,q,Cp v⟩⟩
theorem LJ{x:Str}{i:Int}{t:Nat}(X:K.In h)(G:h.Ns mainGlobals mg)(e:mH K mainGlobals x=some (some (.int i t))):dC mg x i:=⟨t,cz X G e⟩
theorem LK{x z:Str}{t:Nat}(X:K.In h)(G:h.Ns mainGlobals mg)(e:mH K mainGlobals x=some (some (.str z t))):∃t,mg x=some (.str z t):=⟨t,cz X G e⟩
theorem LL{x:Str}{fs:List (Int×Addr)}{a:Addr}{es:Array DictEntry}{ep:Nat}(X:K.In h)(G:h.Ns mainGlobals mg)(e:mH K mainGlobals x=some (some (.ref a)))(l:K.lookup a=some ⟨.type "dict",none,.dict es ep,#[]⟩)(b:nt es.toList fs=true)(d:(fs.map (·.1)).Nodup):DK K mg x fs:=⟨a,_,es,ep,cz X G e,l,⟨rfl,rfl,rfl⟩,rfl,b,d⟩
theorem LM{x:Str}{fs:List (Int×Int)}{a:Addr}{es:Array DictEntry}{ep:Nat}(X:K.In h)(G:h.Ns mainGlobals mg)(e:mH K mainGlobals x=some (some (.ref a)))(l:K.lookup a=some ⟨.type "dict",none,.dict es ep,#[]⟩)(b:nv es.toList fs=true)(d:(fs.map (·.1)).Nodup)(q:(a==sysModules)=false):DI K mg x fs:=⟨a,_,es,ep,cz X G e,l,⟨rfl,rfl,rfl⟩,rfl,b,d,q⟩
end
def bal(l:List (List UInt8)):Int:=(l.map fun n=>if bP n=true then(-1:Int) else 1).sum
theorem rG(l m:List (List UInt8)):bal (l++m)=bal l+bal m:=by unfold bal;rw[bO,EG]
def rH(a:List (List UInt8)):Prop:=bal a= -1/\∀k,k<a.length->0<=bal (a.take k)
theorem Cq{c:List UInt8}(hc:bP c=false){a b:List (List UInt8)}(ha:rH a)(hb:rH b):rH (c::(a++b)):=by
 have e:∀l,bal (c::l)=1+bal l:=fun l=>by unfold bal;rw[bg,ki,hc];rfl
 refine⟨by rw[e,rG,ha.1,hb.1];rfl,fun k hk=>?_⟩
 cases k with
 |zero=>exact Int.le_refl 0
 |succ k=>
  rw[oJ,e]
  have hk:k<(a++b).length:=Nat.lt_of_succ_lt_succ hk
  rw[aS] at hk
  by_cases h:k<a.length
  ·rw[List.take_append_of_le_length (kg h)]
   have:=ha.2 k h;omega
  ·rw[List.take_append,ra (Nat.le_of_not_lt h),rG,ha.1]
   have:=hb.2 (k-a.length) (by omega);omega
theorem LN{A:Formula}(h:good A=true):rH (nl A):=by
 induction A with
 |atom t a=>
  have e:bal [bG (t,a)]= -1:=by unfold bal;rw[bg,MF.gR h];rfl
  refine⟨e,fun k hk=>?_⟩
  have:k=0:=by have:k<1:=hk;omega
  subst this;exact Int.le_refl 0
 |tensor A B iA iB=>exact Cq (by decide) (iA (MF.bS.mp h).1) (iB (MF.bS.mp h).2)
 |par A B iA iB=>exact Cq (by decide) (iA (MF.bS.mp h).1) (iB (MF.bS.mp h).2)
 |_=>cases h
theorem Paired.take{α β:Type}{F:α->β->Prop}:∀{xs:List α} {ys:List β} (n:Nat),Paired F xs ys->Paired F (xs.take n) (ys.take n)
 |_,_,0,_=>by rw[oG,oG];exact .nil
 |_,_,_+1,.nil=>.nil
 |_,_,n+1,.cons r t=>.cons r (Paired.take n t)
theorem Paired.drop{α β:Type}{F:α->β->Prop}:∀{xs:List α} {ys:List β} (n:Nat),Paired F xs ys->Paired F (xs.drop n) (ys.drop n)
 |_,_,0,h=>h
 |_,_,_+1,.nil=>.nil
 |_,_,n+1,.cons _ t=>Paired.drop n t
theorem LO(xs:List V)(i:Nat):cW xs none (some (i:Int))=xs.take i:=by
 unfold cW
 rw[HT.gC]
 show(xs.drop 0).take (min i xs.length-0)=_
 rw[l9,xV,<-List.take_eq_take_min]
theorem rJ(xs:List V)(i:Nat):cW xs (some (i:Int)) none=xs.drop i:=by
 unfold cW
 rw[HT.gC]
 show(xs.drop (min i xs.length)).take (xs.length-min i xs.length)=_
 rw[ra (by rw[di];omega)]
 by_cases h:i<=xs.length
 ·rw[jC h]
 ·rw[Nat.min_eq_right (by omega),xk,mD (by omega)]
theorem Cr(xs:List V){i j:Nat}(h:i<=j)(hj:j<=xs.length):cW xs (some (i:Int)) (some (j:Int))=(xs.drop i).take (j-i):=by
 unfold cW
 rw[HT.gC,HT.gC,jC hj,jC (by omega)]
section
variable{P:Program}{w:World}{K:aD}{mg:Str->Option Value}{base:Heap}{C CK CG CH:Addr}
def Cs(K:aD):Sp:=fun vs H Q _=>∃v A B,vs=[v]/\cH K H v (.par A B)/\∀b x y H',aA H H'->H b=none->H' b=some (.lst [x,y])->cH K H' x A->cH K H' y B->Q (.ref b) H'
theorem Ct:aZ ["formula","end","missing"] ["formula"] (aQ uQ):=fS
theorem LP(D:aO K mg "two_of" uQ)(C1:aK P w K mg base "is_atom" 1 ["node"] (jQ K)):aK P w K mg base "two_of" 2 ["formula"] (Cs K):=by
 refine D.cal Ct (fun vs H Q E h=>?_) (fun fa cdv A outer s H vs Q E hr h=>?_)
 ·obtain⟨_,_,_,rfl,_⟩:=h
  rfl
 ·obtain⟨v,A,B,rfl,⟨g,rfl,⟨hg,vs,hv,hp⟩,hl⟩,k⟩:=h
  have nd:=Ct.nd
  refine⟨_,aG (aT (i:=1) nd rfl (aJ rfl) aR)
   (aG (aT (i:=2) nd rfl (aJ rfl) aR)
   (aG (iI PassesOwn.never (ao ik (pv 2) aR (ak _)) (aG (j9 (i:=2) nd rfl (aJ rfl) (iG (cA (pc C1 hr (aB (aa az (pv 0) (pv 1) (fun _ _=>rfl)) aC))) (lM lN aR) aR) kM) (aI (j9 (i:=1) nd rfl (aJ rfl) aR kM))))
   (aI (aN (au (aB (gD iL (pv 0) (dz aR) (dz (pv 1))) (aB (gD iL (pv 0) (dz (pv 1)) je) aC))))))),?_⟩
  obtain⟨gA,gB⟩:=MF.bS.mp hg
  obtain⟨bA,bk⟩:=LN gA
  have hp:Paired (ai K H) vs ([124]::(nl A++nl B)):=hp
  have hl:([124]::(nl A++nl B)).length<=10000:=hl
  have hpl:=hp.length
  rw[aV,aS] at hpl hl
  refine⟨fun m σ H'=>∃i:Nat,m=(nl A).length-i/\i<=(nl A).length/\H'=H/\σ=[some (.ref g),some (.int ((1+i:Nat):Int)),some (.int (1+bal ((nl A).take i)))],⟨_,0,rfl,bF _,rfl,rfl⟩,?_⟩
  rintro m σ H' ⟨i,rfl,hi,rfl,rfl⟩
  refine⟨_,rfl,_,_,rfl,rfl,_,rfl,?_⟩
  refine aU (fun e=>?_) (fun e=>?_)
  ·have e:(0:Int)<1+bal ((nl A).take i):=of_decide_eq_true e
   have hlt:i<(nl A).length:=by
    refine Nat.lt_of_le_of_ne hi fun z=>?_
    rw[z,cQ,bA] at e
    exact absurd e (by decide)
   have hn:(nl A)[i]? =some (nl A)[i]:=bU hlt
   generalize(nl A)[i]=n at hn
   have hvi:vs[1+i]? =some vs[1+i]:=bU (by omega)
   obtain⟨n',hn',hN⟩:=bw hp hvi
   have en:n'=n:=by
    rw[Nat.add_comm,MI,oQ hlt,hn] at hn'
    exact(bL hn').symm
   subst en
   refine⟨_,fun _ _ h=>h,_,rfl,_,rfl,_,rfl,g,_,_,_,rfl,rfl,aE.of hv,ah hvi,_,n',rfl,hN,_,rfl,?_⟩
   have e1:((1+i:Nat):Int)+1=((1+(i+1):Nat):Int):=by omega
   refine aU (fun q=>?_) (fun q=>?_)
   ·have e2:1+bal ((nl A).take i)+ -1=1+bal ((nl A).take (i+1)):=by
     rw[take_snoc hn,rG,show bal [n']= -1 by unfold bal;rw[bg,q];rfl];omega
    refine⟨_,rfl,_,_,rfl,rfl,_,rfl,_,_,rfl,rfl,(nl A).length-(i+1),by omega,i+1,rfl,hlt,rfl,?_⟩
    show[some (V.ref g),some (V.int (((1+i:Nat):Int)+1)),some (V.int (1+bal ((nl A).take i)+ -1))]=_
    rw[e1,e2]
   ·have e2:1+bal ((nl A).take i)+1=1+bal ((nl A).take (i+1)):=by
     rw[take_snoc hn,rG,show bal [n']=1 by unfold bal;rw[bg,if_neg q];rfl];omega
    refine⟨_,_,rfl,rfl,_,rfl,_,_,rfl,rfl,(nl A).length-(i+1),by omega,i+1,rfl,hlt,rfl,?_⟩
    show[some (V.ref g),some (V.int (((1+i:Nat):Int)+1)),some (V.int (1+bal ((nl A).take i)+1))]=_
    rw[e1,e2]
  ·have e:¬((0:Int)<1+bal ((nl A).take i)):=fun z=>e (decide_eq_true z)
   have ei:i=(nl A).length:=by
    refine xO fun z=>?_
    have:=bk i (by omega)
    omega
   subst ei
   refine⟨_,rfl,_,rfl,_,rfl,_,rfl,g,vs,rfl,aE.of hv,fun p hpn=>?_⟩
   have c1:=Cr vs (i:=1) (j:=1+(nl A).length) (by omega) (by omega)
   have c1:cW vs (some 1) (some ((1+(nl A).length:Nat):Int))=_:=c1
   rw[c1]
   have s1:=aA.upd (o:=.lst ((vs.drop 1).take (1+(nl A).length-1))) hpn
   have p1:(upd H' p (.lst ((vs.drop 1).take (1+(nl A).length-1)))) p=_:=aF
   generalize upd H' p (.lst ((vs.drop 1).take (1+(nl A).length-1)))=H1 at s1 p1⊢
   refine⟨_,rfl,_,rfl,_,rfl,g,vs,rfl,aE.of (s1 _ _ hv),fun q hqn=>?_⟩
   rw[rJ]
   have s2:=aA.upd (o:=.lst (vs.drop (1+(nl A).length))) hqn
   have q2:(upd H1 q (.lst (vs.drop (1+(nl A).length)))) q=_:=aF
   generalize upd H1 q (.lst (vs.drop (1+(nl A).length)))=H2 at s2 q2⊢
   refine⟨(by show 2<=sizeLine;decide),fun b hb=>?_⟩
   have s3:=aA.upd (o:=.lst [.ref p,.ref q]) hb
   have s02:=s1.trans s2
   have s03:=s02.trans s3
   refine k b _ _ _ s03 (s02.free hb) aF ⟨p,rfl,⟨gA,_,s3 _ _ (s2 _ _ p1),?_⟩,by omega⟩ ⟨q,rfl,⟨gB,_,s3 _ _ q2,?_⟩,by omega⟩
   ·have z:=Paired.take (1+(nl A).length-1) (Paired.drop 1 hp)
    rw[xR,l9,show 1+(nl A).length-1=(nl A).length by omega,List.take_left] at z
    rw[show 1+(nl A).length-1=(nl A).length by omega]
    exact eC z s03
   ·have z:=Paired.drop (1+(nl A).length) hp
    rw[show 1+(nl A).length=(nl A).length+1 by omega,xR,List.drop_left] at z
    rw[show 1+(nl A).length=(nl A).length+1 by omega]
    exact eC z s03
def nz(K:aD):Sp:=fun vs H Q _=>∃a xs i,vs=[.ref a,.int i]/\aE K H a xs/\Q (.bl (decide (0<=i/\i<(xs.length:Int)))) H
theorem LQ:aZ ["values","place"] ["values","place"] (aQ vY):=fS
theorem LR(D:aO K mg "has_place" vY)(T4:fe mg):aK P w K mg base "has_place" 1 ["values","place"] (nz K):=by
 refine D.cal LQ (fun vs H Q E h=>?_) (fun fa cdv A outer s H vs Q E hr h=>?_)
 ·obtain⟨_,_,_,rfl,_⟩:=h
  rfl
 ·obtain⟨a,xs,i,rfl,ha,k⟩:=h
  refine⟨_,aI (aN (pR ij jb aR (pv 1) (bD bI (by rfl) T4.len bM (aB (pv 0) aC)))),?_⟩
  refine⟨_,rfl,_,_,rfl,rfl,_,rfl,?_⟩
  refine aU (fun e=>?_) (fun e=>?_)
  ·have e:(0:Int)<=i:=of_decide_eq_true e
   refine⟨_,rfl,a,xs,rfl,.inl ha,_,_,rfl,rfl,?_⟩
   show Q (.bl (decide (i<(xs.length:Int)))) H
   rw[show decide (i<(xs.length:Int))=decide (0<=i/\i<(xs.length:Int)) by rw[ck,decide_eq_true_iff,decide_eq_true_iff];omega]
   exact k
  ·have e:¬((0:Int)<=i):=fun z=>e (decide_eq_true z)
   rw[show decide (0<=i/\i<(xs.length:Int))=false from decide_eq_false (fun z=>e z.1)] at k
   exact k
end
open Vanetc (Net placed withSwap allLeaves)
theorem xH{l:List Nat}{i a:Nat}(h:l[i]? =some a):(l.map vn)[i]? =some (vn a):=by rw[bo,h];rfl
section
variable{P:Program}{w:World}{K:aD}{mg:Str->Option Value}{base:Heap}{C CK CG CH:Addr}
def xI(K:aD)(C:Addr):Sp:=fun vs H Q _=>∃p s i c a ws new,vs=[.ref p,.int (i:Nat),.int (c:Nat),.ref a]/\cR K C H p s/\H a=some (.lst ws)/\Paired (cH K H) ws new/\new.length<=10/\bQ {s with concl:=placed s.concl i c new}/\∀g H',aA H H'->H g=none->cR K C H' g {s with concl:=placed s.concl i c new}->Q (.ref g) H'
theorem Cu:aZ ["structure","place","count","formulas","before","behind"] ["structure","place","count","formulas"] (aQ ua):=fS
theorem LS(D:aO K mg "with_conclusions_at" ua)(R:SC K C)(MS:eE P w K mg base "Structure" C 1 ["self","conclusions","cuts","partners"] (js C)):aK P w K mg base "with_conclusions_at" 3 ["structure","place","count","formulas"] (xI K C):=by
 refine D.cal Cu (fun vs H Q E h=>?_) (fun fa cdv A outer s H vs Q E hr h=>?_)
 ·obtain⟨_,_,_,_,_,_,_,rfl,_⟩:=h
  rfl
 ·obtain⟨p,n,i,cc,a,ws,new,rfl,hS,ha,hws,hnl,hok,k⟩:=h
  have nd:=Cu.nd
  refine⟨_,aG (aT (i:=4) nd rfl (aJ rfl) (gD iL (aX (pv 0) rfl) je (dz (pv 1))))
   (aG (aT (i:=5) nd rfl (aJ rfl) (gD iL (aX (pv 0) rfl) (dz (bH e9 (pv 1) (pv 2))) je))
   (aI (aN (pk MS hr (aB (bH c8 (bH c8 (pv 4) (pv 3)) (pv 5)) (aB (aX (pv 0) rfl) (aB (aX (pv 0) rfl) aC))))))),?_⟩
  obtain⟨⟨dx,x,y,c,h1,⟨xa,xw,rfl,g2,g2'⟩,hy,h4⟩,hokn⟩:=id hS
  have hsl:=sizeLine_eq
  have xl:=g2'.length
  have c20:=hokn.c20
  have wl:=hws.length
  refine⟨_,rfl,p,C,dx,_,_,rfl,h1,R.cl,R.n1,eF _ _ _,_,rfl,_,rfl,xa,xw,rfl,aE.of g2,fun p1 hp1=>?_⟩
  rw[LO]
  have s1:=aA.upd (o:=.lst (xw.take i)) hp1
  have p11:(upd H p1 (.lst (xw.take i))) p1=_:=aF
  generalize upd H p1 (.lst (xw.take i))=H1 at s1 p11⊢
  refine⟨_,rfl,p,C,dx,_,_,rfl,s1 _ _ h1,R.cl,R.n1,eF _ _ _,_,rfl,_,rfl,_,_,rfl,rfl,_,rfl,xa,xw,rfl,aE.of (s1 _ _ g2),fun p2 hp2=>?_⟩
  rw[show cW xw (some ((i:Int)+(cc:Int))) none=xw.drop (i+cc) from rJ xw (i+cc)]
  have s2:=aA.upd (o:=.lst (xw.drop (i+cc))) hp2
  have p22:(upd H1 p2 (.lst (xw.drop (i+cc)))) p2=_:=aF
  generalize upd H1 p2 (.lst (xw.drop (i+cc)))=H2 at s2 p22⊢
  have s02:=s1.trans s2
  refine⟨_,rfl,_,rfl,p1,a,_,_,rfl,rfl,s2 _ _ p11,s02 _ _ ha,(by rw[cM];omega),fun u3 hu3=>?_⟩
  have s3:=aA.upd (o:=.lst (xw.take i++ws)) hu3
  have u33:(upd H2 u3 (.lst (xw.take i++ws))) u3=_:=aF
  generalize upd H2 u3 (.lst (xw.take i++ws))=H3 at s3 u33⊢
  refine⟨_,rfl,u3,p2,_,_,rfl,rfl,u33,s3 _ _ p22,(by rw[aS,cM,di];omega),fun u4 hu4=>?_⟩
  have s4:=aA.upd (o:=.lst (xw.take i++ws++xw.drop (i+cc))) hu4
  have u44:(upd H3 u4 (.lst (xw.take i++ws++xw.drop (i+cc)))) u4=_:=aF
  generalize upd H3 u4 (.lst (xw.take i++ws++xw.drop (i+cc)))=H4 at s4 u44⊢
  have s04:=(s02.trans s3).trans s4
  refine⟨_,rfl,p,C,dx,_,_,rfl,s04 _ _ h1,R.cl,R.n2,iS _ _ _,_,rfl,p,C,dx,_,_,rfl,s04 _ _ h1,R.cl,R.n3,gk _ _ _,fun g dx' hgn hdxn hne=>?_⟩
  refine⟨g,dx',_,_,_,rfl,aF,fun H7 hg7 k7=>⟨rfl,?_⟩⟩
  have s7:aA H4 H7:=aA.made hgn hdxn k7
  have s07:=s04.trans s7
  refine k g H7 s07 (s04.free hgn) ⟨⟨dx',_,_,c,hg7,⟨u4,_,rfl,s7 _ _ u44,?_⟩,hy.same s07,s07 _ _ h4⟩,hok⟩
  have q1:Paired (cH K H7) xw n.concl:=Paired.mono (fun _ _ z=>z.same s07) g2'
  have q2:Paired (cH K H7) ws new:=Paired.mono (fun _ _ z=>z.same s07) hws
  show Paired (cH K H7) _ (n.concl.take i++(new++n.concl.drop (i+cc)))
  rw[<-dh]
  exact iR (iR (Paired.take i q1) q2) (Paired.drop (i+cc) q1)
def Cv(K:aD)(C:Addr):Sp:=fun vs H Q _=>∃p s v F,vs=[.ref p,v]/\cR K C H p s/\cH K H v F/\bQ {s with concl:=s.concl++[F],cuts:=s.cuts.drop 1}/\∀g H',aA H H'->H g=none->cR K C H' g {s with concl:=s.concl++[F],cuts:=s.cuts.drop 1}->Q (.ref g) H'
theorem LV:aZ ["structure","formula"] ["structure","formula"] (aQ ub):=fS
theorem LW(D:aO K mg "with_first_cut_as" ub)(R:SC K C)(MS:eE P w K mg base "Structure" C 1 ["self","conclusions","cuts","partners"] (js C)):aK P w K mg base "with_first_cut_as" 3 ["structure","formula"] (Cv K C):=by
 refine D.cal LV (fun vs H Q E h=>?_) (fun fa cdv A outer s H vs Q E hr h=>?_)
 ·obtain⟨_,_,_,_,rfl,_⟩:=h
  rfl
 ·obtain⟨p,n,v,F,rfl,hS,hF,hok,k⟩:=h
  refine⟨_,aI (aN (pk MS hr (aB (bH c8 (aX (pv 0) rfl) (au (aB (pv 1) aC))) (aB (gD iL (aX (pv 0) rfl) (dz aR) je) (aB (aX (pv 0) rfl) aC))))),?_⟩
  obtain⟨⟨dx,x,y,c,h1,⟨xa,xw,rfl,g2,g2'⟩,⟨ya,yw,rfl,g3,g3'⟩,h4⟩,hokn⟩:=id hS
  have hsl:=sizeLine_eq
  have xl:=g2'.length
  have c20:=hokn.c20
  refine⟨_,rfl,p,C,dx,_,_,rfl,h1,R.cl,R.n1,eF _ _ _,_,rfl,(by show 1<=sizeLine;decide),fun u1 hu1=>?_⟩
  have s1:=aA.upd (o:=.lst [v]) hu1
  have u11:(upd H u1 (.lst [v])) u1=_:=aF
  generalize upd H u1 (.lst [v])=H1 at s1 u11⊢
  refine⟨xa,u1,_,_,rfl,rfl,s1 _ _ g2,u11,(by show _+1<=_;omega),fun u2 hu2=>?_⟩
  have s2:=aA.upd (o:=.lst (xw++[v])) hu2
  have u22:(upd H1 u2 (.lst (xw++[v]))) u2=_:=aF
  generalize upd H1 u2 (.lst (xw++[v]))=H2 at s2 u22⊢
  have s02:=s1.trans s2
  refine⟨_,rfl,p,C,dx,_,_,rfl,s02 _ _ h1,R.cl,R.n2,iS _ _ _,_,rfl,ya,yw,rfl,aE.of (s02 _ _ g3),fun u3 hu3=>?_⟩
  rw[show cW yw (some 1) none=yw.drop 1 from rJ yw 1]
  have s3:=aA.upd (o:=.lst (yw.drop 1)) hu3
  have u33:(upd H2 u3 (.lst (yw.drop 1))) u3=_:=aF
  generalize upd H2 u3 (.lst (yw.drop 1))=H3 at s3 u33⊢
  have s03:=s02.trans s3
  refine⟨_,rfl,p,C,dx,_,_,rfl,s03 _ _ h1,R.cl,R.n3,gk _ _ _,fun g dx' hgn hdxn hne=>?_⟩
  refine⟨g,dx',_,_,_,rfl,aF,fun H7 hg7 k7=>⟨rfl,?_⟩⟩
  have s7:aA H3 H7:=aA.made hgn hdxn k7
  have s07:=s03.trans s7
  refine k g H7 s07 (s03.free hgn) ⟨⟨dx',_,_,c,hg7,⟨u2,_,rfl,s7 _ _ (s3 _ _ u22),?_⟩,⟨u3,_,rfl,s7 _ _ u33,?_⟩,s07 _ _ h4⟩,hok⟩
  ·exact Paired.snoc (Paired.mono (fun _ _ z=>z.same s07) g2') (hF.same s07)
  ·exact Paired.drop 1 (Paired.mono (fun _ _ z=>z.same s07) g3')
def gq(to:List Nat)(i j a b:Nat):List Nat:=(((to.set i b).set b i).set j a).set a j
def Cw(K:aD)(C:Addr):Sp:=fun vs H Q _=>∃p s i j a b,vs=[.ref p,.int (i:Nat),.int (j:Nat)]/\cR K C H p s/\s.to[i]? =some a/\s.to[j]? =some b/\a<s.to.length/\b<s.to.length/\bQ {s with to:=gq s.to i j a b}/\∀g H',aA H H'->H g=none->cR K C H' g {s with to:=gq s.to i j a b}->Q (.ref g) H'
theorem Cy:aZ ["structure","leaf","other","leaf_partner","other_partner","partners"] ["structure","leaf","other"] (aQ uc):=fS
theorem LX(D:aO K mg "with_partners_exchanged" uc)(R:SC K C)(T:cY K mg)(MS:eE P w K mg base "Structure" C 1 ["self","conclusions","cuts","partners"] (js C)):aK P w K mg base "with_partners_exchanged" 3 ["structure","leaf","other"] (Cw K C):=by
 refine D.cal Cy (fun vs H Q E h=>?_) (fun fa cdv A outer s H vs Q E hr h=>?_)
 ·obtain⟨_,_,_,_,_,_,rfl,_⟩:=h
  rfl
 ·obtain⟨p,n,i,j,a,b,rfl,hS,hi,hj,hal,hbl,hok,k⟩:=h
  have nd:=Cy.nd
  refine⟨_,aG (aT (i:=3) nd rfl (aJ rfl) (aa az (aX (pv 0) rfl) (pv 1) (fun _ _=>rfl)))
   (aG (aT (i:=4) nd rfl (aJ rfl) (aa az (aX (pv 0) rfl) (pv 2) (fun _ _=>rfl)))
   (aG (aT (i:=5) nd rfl (aJ rfl) (gZ jf (by rfl) T.list boot_list (aB (aX (pv 0) rfl) aC)))
   (aG (jL (pv 4) (jK (pv 5) (pv 1) set_list))
   (aG (jL (pv 1) (jK (pv 5) (pv 4) set_list))
   (aG (jL (pv 3) (jK (pv 5) (pv 2) set_list))
   (aG (jL (pv 2) (jK (pv 5) (pv 3) set_list))
   (aI (aN (pk MS hr (aB (aX (pv 0) rfl) (aB (aX (pv 0) rfl) (aB (pv 5) aC)))))))))))),?_⟩
  obtain⟨⟨dx,x,y,c,h1,h2,h3,h4⟩,hokn⟩:=id hS
  have hil:=(bC.mp hi).1
  have hjl:=(bC.mp hj).1
  refine⟨_,rfl,p,C,dx,_,_,rfl,h1,R.cl,R.n3,gk _ _ _,_,rfl,c,_,(i:Int),vn a,rfl,rfl,aE.of h4,ah (xH hi),?_⟩
  refine⟨_,rfl,p,C,dx,_,_,rfl,h1,R.cl,R.n3,gk _ _ _,_,rfl,c,_,(j:Int),vn b,rfl,rfl,aE.of h4,ah (xH hj),?_⟩
  refine⟨_,rfl,p,C,dx,_,_,rfl,h1,R.cl,R.n3,gk _ _ _,c,_,rfl,.inl (aE.of h4),fun l hl=>?_⟩
  have s1:=aA.upd (o:=.lst (n.to.map vn)) hl
  have l1:(upd H l (.lst (n.to.map vn))) l=_:=aF
  refine⟨_,rfl,_,rfl,_,rfl,l,_,(i:Int),i,rfl,rfl,l1,k9 (by rw[aL];exact hil),?_⟩
  rw[eX,ka]
  refine⟨_,rfl,_,rfl,_,rfl,l,_,(b:Int),b,rfl,rfl,aF,k9 (by rw[aL,cP];exact hbl),?_⟩
  rw[eX,show(V.int ((i:Nat):Int))=vn i from rfl,ka]
  refine⟨_,rfl,_,rfl,_,rfl,l,_,(j:Int),j,rfl,rfl,aF,k9 (by rw[aL,cP,cP];exact hjl),?_⟩
  rw[eX,ka]
  refine⟨_,rfl,_,rfl,_,rfl,l,_,(a:Int),a,rfl,rfl,aF,k9 (by rw[aL,cP,cP,cP];exact hal),?_⟩
  rw[eX,show(V.int ((j:Nat):Int))=vn j from rfl,ka]
  have s5:aA H (upd H l (.lst ((gq n.to i j a b).map vn))):=aA.upd hl
  have l5:(upd H l (.lst ((gq n.to i j a b).map vn))) l=_:=aF
  rw[show(((n.to.set i b).set b i).set j a).set a j=gq n.to i j a b from rfl]
  generalize upd H l (.lst ((gq n.to i j a b).map vn))=H5 at s5 l5⊢
  refine⟨_,rfl,p,C,dx,_,_,rfl,s5 _ _ h1,R.cl,R.n1,eF _ _ _,_,rfl,p,C,dx,_,_,rfl,s5 _ _ h1,R.cl,R.n2,iS _ _ _,_,rfl,fun g dx' hgn hdxn hne=>?_⟩
  refine⟨g,dx',_,_,_,rfl,aF,fun H7 hg7 k7=>⟨rfl,?_⟩⟩
  have s7:aA H5 H7:=aA.made hgn hdxn k7
  have s07:=s5.trans s7
  exact k g H7 s07 (s5.free hgn) ⟨⟨dx',_,_,l,hg7,h2.same s07,h3.same s07,s7 _ _ l5⟩,hok⟩
theorem LY{s:Net}(h:bQ s){i j a b:Nat}(hi:s.to[i]? =some a)(hj:s.to[j]? =some b)(he:(allLeaves s)[i]? =(allLeaves s)[j]?):withSwap s i j={s with to:=gq s.to i j a b}/\a<s.to.length/\b<s.to.length/\(i=j↔gq s.to i j a b=s.to):=by
 have hL:=lW.mp h.lnk
 have ea:s.to.getD i 0=a:=by rw[d9,hi];rfl
 have eb:s.to.getD j 0=b:=by rw[d9,hj];rfl
 have hil:=(bC.mp hi).1
 obtain⟨ha,x,y,hx,hy,hxy⟩:=hL.st i a hi
 obtain⟨hb,x',y',hx',hy',hxy'⟩:=hL.st j b hj
 have la:=(bC.mp ha).1
 have lb':=(bC.mp hb).1
 have self:∀{l:List Nat} {k v:Nat},l[k]? =some v->l.set k v=l:=fun{l k v} q=>by
  obtain⟨q1,q2⟩:=bC.mp q
  rw[<-q2,List.set_getElem_self]
 unfold withSwap
 dsimp only
 rw[ea,eb]
 by_cases hij:i=j
 ·subst hij
  rw[hi] at hj
  cases hj
  have e:gq s.to i i a a=s.to:=by
   unfold gq
   rw[self hi,self ha,self hi,self ha]
  rw[if_pos rfl,e]
  exact⟨rfl,la,la,fun _=>rfl,fun _=>rfl⟩
 ·have eL:x=x':=by rw[he,hx'] at hx;exact(bL hx).symm
  subst eL
  have nai:i≠a:=hL.ne hi
  have nbj:j≠b:=hL.ne hj
  have nfit:Vanetc.fitting x x≠true:=by rw[xA];decide
  have naj:a≠j:=by
   rintro rfl
   rw[hx'] at hy
   cases hy
   exact nfit hxy
  have nbi:b≠i:=by
   rintro rfl
   rw[hx] at hy'
   cases hy'
   exact nfit hxy'
  have nab:a≠b:=by
   rintro rfl
   exact hij (hL.inj hi hj)
  have e:gq s.to i j a b=(((s.to.set i b).set j a).set a j).set b i:=by
   unfold gq
   rw[List.set_comm _ _ nbj.symm,List.set_comm _ _ nab.symm]
  rw[if_neg hij,e]
  refine⟨rfl,la,lb',fun z=>absurd z hij,fun z=>?_⟩
  have q:((((s.to.set i b).set j a).set a j).set b i)[i]? =some b:=by
   rw[lz nbi,lz nai.symm,lz (fun z=>hij z.symm),rW hil]
  rw[z,hi] at q
  exact absurd (bL q) nab
end
open Vanetc (Net rotated allLeaves formulas)
theorem LZ{k m i:Nat}(h:i<k+m):((i:Int)-(k:Int))%((k+m:Nat):Int)=((c9 k m i:Nat):Int):=by
 unfold c9
 by_cases q:i<k
 ·rw[if_pos q]
  have e:((i:Int)-(k:Int))%((k+m:Nat):Int)=(((i:Int)-(k:Int))+((k+m:Nat):Int))%((k+m:Nat):Int):=by simp
  rw[e,show((i:Int)-(k:Int))+((k+m:Nat):Int)=((i+m:Nat):Int) by omega]
  exact Mn (by omega) (by omega)
 ·rw[if_neg q,if_pos h,show(i:Int)-(k:Int)=((i-k:Nat):Int) by omega]
  exact Mn (by omega) (by omega)
def rn(to:List Nat)(k m i:Nat):List Nat:=(bJ to.length).map fun j=>if cq k m j<i then c9 k m (to.getD (cq k m j) 0) else to.getD j 0
theorem oA(to:List Nat)(k m i:Nat):(rn to k m i).length=to.length:=by unfold rn;rw[aL,cS]
theorem xJ{to:List Nat}{k m i j:Nat}(h:j<to.length):(rn to k m i)[j]? =some (if cq k m j<i then c9 k m (to.getD (cq k m j) 0) else to.getD j 0):=by
 unfold rn;rw[bo,jy h];rfl
theorem L0(to:List Nat)(k m:Nat):rn to k m 0=to:=by
 refine rV fun j=>?_
 by_cases h:j<to.length
 ·rw[xJ h,if_neg (Nat.not_lt_zero _),getD_get h]
 ·rw[iW (by rw[oA];omega),iW (by omega)]
theorem L1{to:List Nat}{k m:Nat}(hk:k+m<=to.length):rn to k m to.length=(bJ to.length).map fun j=>c9 k m (to.getD (cq k m j) 0):=by
 unfold rn
 refine oK fun j hj=>?_
 rw[if_pos (CS hk (fN.mp hj))]
theorem L3{to:List Nat}{k m i a:Nat}(hk:k+m<=to.length)(hi:to[i]? =some a):(rn to k m i).set (c9 k m i) (c9 k m a)=rn to k m (i+1):=by
 have hil:=(bC.mp hi).1
 have ea:to.getD i 0=a:=by rw[d9,hi];rfl
 refine rV fun j=>?_
 by_cases h:j<to.length
 ·rw[xJ h]
  by_cases e:c9 k m i=j
  ·subst e
   rw[rW (by rw[oA];exact h),xC,if_pos (xZ i),ea]
  ·rw[lz e,xJ h]
   have:cq k m j≠i:=fun z=>e (by rw[<-z,CQ])
   by_cases q:cq k m j<i
   ·rw[if_pos q,if_pos (by omega)]
   ·rw[if_neg q,if_neg (by omega)]
 ·rw[iW (by rw[cP,oA];omega),iW (by rw[oA];omega)]
section
variable{P:Program}{w:World}{K:aD}{mg:Str->Option Value}{base:Heap}{C CK CG CH:Addr}
def Cz:Sp:=fun vs H Q _=>∃i k m:Nat,vs=[.int (i:Nat),.int (k:Nat),.int ((k+m:Nat):Int)]/\Q (vn (c9 k m i)) H
theorem L4:aZ ["leaf","moved","turning"] ["leaf","moved","turning"] (aQ ue):=fS
theorem L5(D:aO K mg "leaf_behind_turn" ue):aK P w K mg base "leaf_behind_turn" 1 ["leaf","moved","turning"] Cz:=by
 refine D.cal L4 (fun vs H Q E h=>?_) (fun fa cdv A outer s H vs Q E hr h=>?_)
 ·obtain⟨_,_,_,rfl,_⟩:=h
  rfl
 ·obtain⟨i,kk,m,rfl,k⟩:=h
  refine⟨_,aG (aj (ao pQ (pv 0) (pv 2) (ak _)) (aI (aN (pv 0))) ay) (aI (aN (bH Fp (bH pP (pv 0) (pv 1)) (pv 2)))),?_⟩
  refine⟨_,rfl,_,rfl,_,_,rfl,rfl,_,rfl,?_⟩
  refine aU (fun e=>?_) (fun e=>?_)
  ·have e:((kk+m:Nat):Int)<=(i:Int):=of_decide_eq_true e
   have:c9 kk m i=i:=by unfold c9;rw[if_neg (by omega),if_neg (by omega)]
   rw[this] at k
   exact⟨_,rfl,k⟩
  ·have e:¬(((kk+m:Nat):Int)<=(i:Int)):=fun z=>e (decide_eq_true z)
   refine⟨_,rfl,_,rfl,_,_,rfl,rfl,_,rfl,_,_,rfl,rfl,(by omega),?_⟩
   show Q (.int (((i:Int)-(kk:Int))%((kk+m:Nat):Int))) H
   rw[LZ (by omega)]
   exact k
def DB(K:aD)(C:Addr):Sp:=fun vs H Q _=>∃p s A r,vs=[.ref p]/\cR K C H p s/\s.concl=A::r/\∀g H',aA H H'->H g=none->cR K C H' g (rotated s)->Q (.ref g) H'
theorem DC:aZ ["structure","first","moved","turning","renumbered","leaf","other"] ["structure"] (aQ ud):=fS
theorem L6(D:aO K mg "with_first_as_last" ud)(R:SC K C)(T:cY K mg)(T3:kZ K mg)(C1:aK P w K mg base "atoms" 2 ["formula"] (nQ K))(C2:aK P w K mg base "leaves_of" 3 ["formulas"] (qf K))(C3:aK P w K mg base "leaf_behind_turn" 1 ["leaf","moved","turning"] Cz)
  (MS:eE P w K mg base "Structure" C 1 ["self","conclusions","cuts","partners"] (js C)):aK P w K mg base "with_first_as_last" 4 ["structure"] (DB K C):=by
 refine D.cal DC (fun vs H Q E h=>?_) (fun fa cdv A outer s H vs Q E hr h=>?_)
 ·obtain⟨_,_,_,_,rfl,_⟩:=h
  rfl
 ·obtain⟨p,n,A,r,rfl,hS,hc,k⟩:=h
  have nd:=DC.nd
  have hr2:=hr.mono (show 2<=3 by decide)
  have hr1:=hr.mono (show 1<=3 by decide)
  refine⟨_,aG (aT (i:=1) nd rfl (aJ rfl) (aa az (aX (pv 0) rfl) aR (fun _ _=>rfl)))
   (aG (aT (i:=2) nd rfl (aJ rfl) (bD bI (by rfl) T.len bM (aB (pc C1 hr2 (aB (pv 1) aC)) aC)))
   (aG (aT (i:=3) nd rfl (aJ rfl) (bD bI (by rfl) T.len bM (aB (pc C2 hr (aB (aX (pv 0) rfl) aC)) aC)))
   (aG (aT (i:=4) nd rfl (aJ rfl) (gZ jf (by rfl) T.list boot_list (aB (aX (pv 0) rfl) aC)))
   (aG (dy PassesOwn.never rfl (p9 rfl T3.en (aB (aX (pv 0) rfl) aC)) (jJ rfl (dv (bN (i:=5) nd rfl (aJ rfl)) (dv (bN (i:=6) nd rfl (aJ rfl)) jI)))
    (aI (jL (pc C3 hr1 (aB (pv 6) (aB (pv 2) (aB (pv 3) aC)))) (jK (pv 4) (pc C3 hr1 (aB (pv 5) (aB (pv 2) (aB (pv 3) aC)))) set_list))))
   (aI (aN (pk MS hr2 (aB (bH c8 (gD iL (aX (pv 0) rfl) (dz aR) je) (au (aB (pv 1) aC))) (aB (aX (pv 0) rfl) (aB (pv 4) aC)))))))))),?_⟩
  obtain⟨⟨dx,x,y,c,h1,⟨xa,xw,rfl,g2,g2'⟩,hy,h4⟩,hok⟩:=id hS
  have hgs:dn K H (.ref xa) n.concl:=⟨xa,xw,rfl,g2,g2'⟩
  rw[hc] at g2'
  cases g2' with
  |cons hA hrr=>
  rename_i v0 wr
  have hsl:=sizeLine_eq
  have hlim:bz=1000000:=rfl
  have rl:=hrr.length
  have c20:=hok.c20
  rw[hc,aV] at c20
  have hsm:=hok.small
  have hcl:(aM n.concl).length<=12000:=by
   have:(aM n.concl).length<=(aM (formulas n)).length:=by unfold formulas;rw[MF.ou,aS];exact oT _ _
   omega
  have hgd:n.concl.all good=true:=by rw[cJ];exact fun B hB=>(hok.cb B hB).1
  have gA:=(hok.cb A (by rw[hc];exact bY)).1
  refine⟨_,rfl,p,C,dx,_,_,rfl,h1,R.cl,R.n1,eF _ _ _,xa,_,_,v0,rfl,rfl,aE.of g2,ah (j:=0) rfl,?_⟩
  obtain⟨g0,rfl,hF0,hl0⟩:=id hA
  refine⟨_,rfl,.ref g0,nl A,rfl,hF0.isNs,by omega,fun b ws H1 s1 hb hbn hw=>⟨b,ws,rfl,.inl (aE.of hb),?_⟩⟩
  have wl:=hw.length
  rw[MF.jX gA,aL] at wl
  rw[wl]
  refine⟨_,rfl,p,C,dx,_,_,rfl,s1 _ _ h1,R.cl,R.n1,eF _ _ _,.ref xa,n.concl,rfl,hgs.same s1,hgd,by omega,fun b2 zs H2 s2 hb2n hb2 hz=>⟨b2,zs,rfl,.inl (aE.of hb2),?_⟩⟩
  have zl:=hz.length
  rw[aL,hc,kh,aS] at zl
  rw[zl]
  have s02:=s1.trans s2
  refine⟨_,rfl,p,C,dx,_,_,rfl,s02 _ _ h1,R.cl,R.n3,gk _ _ _,c,_,rfl,.inl (aE.of (s02 _ _ h4)),fun l hl=>?_⟩
  have s3:=aA.upd (o:=.lst (n.to.map vn)) hl
  have l3:(upd H2 l (.lst (n.to.map vn))) l=_:=aF
  have s03:=s02.trans s3
  have hln:H l=none:=s02.free hl
  generalize upd H2 l (.lst (n.to.map vn))=H3 at s3 l3 s03⊢
  have hkm:(leaves A).length+(r.flatMap leaves).length<=n.to.length:=by
   rw[hok.tol]
   unfold allLeaves formulas
   rw[hc,ff,aS,kh,aS]
   omega
  have eto:(rotated n).to=(bJ n.to.length).map fun j=>c9 (leaves A).length (r.flatMap leaves).length (n.to.getD (cq (leaves A).length (r.flatMap leaves).length j) 0):=by rw[rD hc]
  have eco:(rotated n).concl=r++[A]:=by rw[rD hc]
  have ecu:(rotated n).cuts=n.cuts:=by rw[rD hc]
  generalize(leaves A).length=kk at hkm eto⊢
  generalize(r.flatMap leaves).length=m at hkm eto⊢
  refine⟨_,rfl,p,C,dx,_,_,rfl,s03 _ _ h1,R.cl,R.n3,gk _ _ _,c,_,rfl,aE.of (s03 _ _ h4),AU (K:=K) (a:=c) (xs:=n.to.map vn) (fun i σ H'=>∃x5 x6:Option V,σ=[some (.ref p),some (.ref g0),some (.int (kk:Nat)),some (.int ((kk+m:Nat):Int)),some (.ref l),x5,x6]/\aA H H'/\H' l=some (.lst ((rn n.to kk m i).map vn)))
   ⟨none,none,rfl,s03,by rw[L0];exact l3⟩ (fun i σ H' _ ⟨_,_,_,s4,_⟩=>aE.of (s4 _ _ h4)) ?_ ?_⟩
  ·rintro i v Tt σ H' hv hT ⟨x5,x6,rfl,s4,hl4⟩
   rw[bo] at hv
   obtain⟨j,hj,rfl⟩:∃j,n.to[i]? =some j/\vn j=v:=by
    cases q:n.to[i]? with
    |none=>rw[q] at hv;cases hv
    |some j=>rw[q] at hv;exact⟨j,rfl,bL hv⟩
   have hil:i<n.to.length:=(bC.mp hj).1
   have sT:=aA.upd (o:=.tup [.int (i:Nat),vn j]) hT
   have hTt:aW K (upd H' Tt (.tup [.int (i:Nat),vn j])) Tt [.int (i:Nat),vn j]:=aW.of aF
   refine⟨Tt,_,rfl,hTt,rfl,_,_,rfl,_,_,rfl,rfl,?_⟩
   have hl5:=sT _ _ hl4
   have s05:=s4.trans sT
   generalize upd H' Tt (.tup [.int (i:Nat),vn j])=H5 at sT hl5 s05⊢
   refine⟨_,rfl,_,rfl,_,rfl,j,kk,m,rfl,?_⟩
   refine⟨_,rfl,_,rfl,_,rfl,_,rfl,i,kk,m,rfl,?_⟩
   refine⟨l,_,((c9 kk m i:Nat):Int),c9 kk m i,rfl,rfl,hl5,k9 (by rw[aL,oA];exact CT hkm hil),_,_,rfl,aA.upd2 s05 hln,?_⟩
   rw[aF,ka,L3 hkm hj]
  ·rintro σ H' ⟨x5,x6,rfl,s4,hl4⟩
   rw[aL,L1 hkm,<-eto] at hl4
   refine⟨_,rfl,p,C,dx,_,_,rfl,s4 _ _ h1,R.cl,R.n1,eF _ _ _,_,rfl,xa,_,rfl,aE.of (s4 _ _ g2),fun u1 hu1=>?_⟩
   rw[show cW (V.ref g0::wr) (some 1) none=wr from rJ (V.ref g0::wr) 1]
   have t1:=aA.upd (o:=.lst wr) hu1
   have u11:(upd H' u1 (.lst wr)) u1=_:=aF
   generalize upd H' u1 (.lst wr)=H5 at t1 u11⊢
   refine⟨_,rfl,(by show 1<=sizeLine;decide),fun u2 hu2=>?_⟩
   have t2:=aA.upd (o:=.lst [V.ref g0]) hu2
   have u22:(upd H5 u2 (.lst [V.ref g0])) u2=_:=aF
   generalize upd H5 u2 (.lst [V.ref g0])=H6 at t2 u22⊢
   refine⟨u1,u2,_,_,rfl,rfl,t2 _ _ u11,u22,(by show _+1<=_;omega),fun u3 hu3=>?_⟩
   have t3:=aA.upd (o:=.lst (wr++[V.ref g0])) hu3
   have u33:(upd H6 u3 (.lst (wr++[V.ref g0]))) u3=_:=aF
   generalize upd H6 u3 (.lst (wr++[V.ref g0]))=H7 at t3 u33⊢
   have t47:=(t1.trans t2).trans t3
   have s07:=s4.trans t47
   refine⟨_,rfl,p,C,dx,_,_,rfl,s07 _ _ h1,R.cl,R.n2,iS _ _ _,_,rfl,fun g dx' hgn hdxn hne=>?_⟩
   refine⟨g,dx',_,_,_,rfl,aF,fun H8 hg8 k8=>⟨rfl,?_⟩⟩
   have s8:aA H7 H8:=aA.made hgn hdxn k8
   have s08:=s07.trans s8
   refine k g H8 s08 (s07.free hgn) ⟨⟨dx',_,_,l,hg8,⟨u3,_,rfl,s8 _ _ u33,?_⟩,?_,s8 _ _ (t47 _ _ hl4)⟩,K3 hok hc⟩
   ·rw[eco]
    exact Paired.snoc (Paired.mono (fun _ _ z=>z.same s08) hrr) (hA.same s08)
   ·rw[ecu];exact hy.same s08
end
open Vanetc (Net formulas allLeaves below after withSwap)
theorem jR{P:Prop} [Decidable P](e:(!decide P)=true):¬P:=fun z=>by rw[decide_eq_true z] at e;cases e
theorem iz{P:Prop} [Decidable P](e:¬((!decide P)=true)):P:=xO fun z=>e (by rw[decide_eq_false z];rfl)
theorem rK(i:Int)(n:Nat):below i n=decide (0<=i/\i<(n:Int)):=by
 unfold below
 rw[ck,ag,decide_eq_true_iff,decide_eq_true_iff,decide_eq_true_iff]
def Fin(K:aD)(CH C:Addr)(H:Hp)(h:Addr)(s:Net)(c:fE)(Q:VK):Prop:=∀b H',bK h H H'->H b=none->H' b=some (.lst ((d7 c s).map V.int))->d6 K CH C H' h (eI s c).1->Q (.ref b) H'
section
variable{K:aD}{CH C:Addr}{H H1:Hp}{h:Addr}{s t:Net}{c:fE}{Q:VK}
theorem Fin.refuse(k:Fin K CH C H h s c Q)(hh:d6 K CH C H h s){kk:Nat}{i:Int}(hd:cB s c=.error kk)(hi:i= -(kk:Int))(s1:aA H H1):1<=sizeLine/\∀p,H1 p=none->Q (.ref p) (upd H1 p (.lst [V.int i])):=by
 refine⟨by decide,fun u hu=>k u _ (bK.of_same (s1.trans (aA.upd hu))) (s1.free hu) (aF.trans ?_) ?_⟩
 ·rw[ke hd,hi];rfl
 ·rw[Ce hd];exact hh.same (s1.trans (aA.upd hu))
theorem Fin.done(k:Fin K CH C H h s c Q){v:Nat}{i:Int}(hd:cB s c=.ok (t,[v]))(hi:i=(v:Int))(b1:bK h H H1)(fr:∀u,H1 u=none->H u=none)(ht:d6 K CH C H1 h t):1<=sizeLine/\∀p,H1 p=none->Q (.ref p) (upd H1 p (.lst [V.int i])):=by
 refine⟨by decide,fun u hu=>k u _ (b1.trans (bK.of_same (aA.upd hu))) (fr u hu) (aF.trans ?_) ?_⟩
 ·rw[lX hd,hi];rfl
 ·rw[xF hd];exact ht.same (aA.upd hu)
theorem held{dxh qh g:Addr}(hh1:H h=some (.ins CH dxh (hf (.ref qh))))(s1:aA H H1)(hgn:H g=none)(hS:cR K C H1 g t):
  bK h H (upd H1 h (.ins CH dxh (hf (.ref g))))/\(∀u,upd H1 h (.ins CH dxh (hf (.ref g))) u=none->H u=none)/\cR K C (upd H1 h (.ins CH dxh (hf (.ref g)))) g t/\(∀{q n},cR K C H1 q n->cR K C (upd H1 h (.ins CH dxh (hf (.ref g)))) q n)/\bK h H1 (upd H1 h (.ins CH dxh (hf (.ref g)))):=by
 have hh7:=s1 _ _ hh1
 have b8:bK h H1 (upd H1 h (.ins CH dxh (hf (.ref g)))):=bK.upd
 have sa:∀{q n},cR K C H1 q n->cR K C (upd H1 h (.ins CH dxh (hf (.ref g)))) q n:=fun{q n} z=>by
  refine b8.sAt (lY hh7) (fun e=>?_) z
  obtain⟨⟨dx,x,y,c,h1,_⟩,_⟩:=z
  rw[e,hh7] at h1
  cases h1
 exact⟨(bK.of_same s1).trans b8,fun u hu=>s1.free (gH hu),sa hS,sa,b8⟩
end
def l0(K:aD)(CH C:Addr)(f:Int->fE):Sp:=fun vs H Q _=>∃h a i s,vs=[.ref h,.ref a]/\aE K H a [.int i]/\d6 K CH C H h s/\Fin K CH C H h s (f i) Q
def DD(K:aD)(CH C:Addr):Sp:=fun vs H Q _=>∃h a i j s,vs=[.ref h,.ref a]/\aE K H a [.int i,.int j]/\d6 K CH C H h s/\Fin K CH C H h s (.swap i j) Q
def rL(K:aD)(CH C:Addr)(c:fE):Sp:=fun vs H Q _=>∃h g s,vs=[.ref h,g]/\d6 K CH C H h s/\Fin K CH C H h s c Q
def dV(l:List Nat):PyData:=.list (l.map fun b:Nat=>.int (b:Int))
theorem xK{K:aD}{H:Hp}:∀l:List Nat,fR K H (l.map vn) (l.map fun b:Nat=>PyData.int (b:Int))
 |[]=>.nil
 |b::r=>.cons (.int _) (xK r)
theorem DE:∀n m:List Nat,PyData.eqvAll (n.map fun b:Nat=>PyData.int (b:Int)) (m.map fun b:Nat=>PyData.int (b:Int))=decide (n=m)
 |[],[]=>rfl
 |[],_::_=>rfl
 |_::_,[]=>rfl
 |a::n,b::m=>by
  show(((a:Int)==(b:Int))&&PyData.eqvAll _ _)=_
  rw[DE n m,ck,ag,beq_iff_eq,decide_eq_true_iff,decide_eq_true_iff]
  constructor
  ·rintro⟨h1,h2⟩
   rw[show a=b by omega,h2]
  ·intro h
   injection h with h1 h2
   exact⟨by rw[h1],h2⟩
theorem DF(l:List Nat):d5 1 (dV l):=wO fun d hd=>by
 obtain⟨b,_,rfl⟩:=cT.mp hd
 exact wQ _
theorem L7{K:aD}{H:Hp}{Q:VK}{a b:Addr}{n m:List Nat}(hx:H a=some (.lst (n.map vn)))(hy:H b=some (.lst (m.map vn)))(h:Q (.bl (!decide (n=m))) H):uC K (.ref a) (.ref b) H Q:=
 ⟨dV n,dV m,.lst (aE.of hx) (xK n),.lst (aE.of hy) (xK m),(DF n).shaped (by decide),(DF m).shaped (by decide),by rw[show PyData.eqv (dV n) (dV m)=decide (n=m) from DE n m];exact h⟩
section
variable{P:Program}{w:World}{K:aD}{mg:Str->Option Value}{base:Heap}{C CK CG CH:Addr}
theorem DH:aZ ["holder","given","partners"] ["holder","given"] (aQ vc):=fS
theorem L8(D:aO K mg "tell_partner" vc)(RH:HC K CH)(R:SC K C)(T4:fe mg)(C1:aK P w K mg base "has_place" 1 ["values","place"] (nz K)):aK P w K mg base "tell_partner" 2 ["holder","given"] (l0 K CH C .partner):=by
 refine D.cal DH (fun vs H Q E h=>?_) (fun fa cdv A outer s H vs Q E hr h=>?_)
 ·obtain⟨_,_,_,_,rfl,_⟩:=h
  rfl
 ·obtain⟨h,a,i,n,rfl,ha,hh,k⟩:=h
  have nd:=DH.nd
  refine⟨_,aG (aT (i:=2) nd rfl (aJ rfl) (aX (aX (pv 0) rfl) rfl))
   (aG (aj (dH (cA (pc C1 hr (aB (pv 2) (aB (aa az (pv 1) aR (fun _ _=>rfl)) aC))))) (aI (aN (au (aB (bX T4.there) aC)))) ay)
   (aI (aN (au (aB (aa az (pv 2) (aa az (pv 1) aR (fun _ _=>rfl)) (fun _ _=>rfl)) aC))))),?_⟩
  obtain⟨dxh,q,hh1,hS⟩:=id hh.ex
  obtain⟨⟨dx,x,y,c,h1,h2,h3,h4⟩,hok⟩:=id hS
  refine⟨_,rfl,h,CH,dxh,_,_,rfl,hh1,RH.cl,RH.n1,eG _,q,C,dx,_,_,rfl,h1,R.cl,R.n3,gk _ _ _,?_⟩
  refine⟨_,rfl,_,rfl,a,_,_,_,rfl,rfl,ha,ah (j:=0) rfl,c,_,i,rfl,aE.of h4,_,rfl,?_⟩
  rw[aL]
  have hd:cB n (.partner i)=after (below i n.to.length) 4 (.ok (n,[n.to.getD i.toNat 0])):=rfl
  rw[rK] at hd
  refine aU (fun e=>?_) (fun e=>?_)
  ·have e:=jR e
   rw[decide_eq_false e] at hd
   exact k.refuse hh hd rfl (aA.refl H)
  ·have e:=iz e
   rw[decide_eq_true e] at hd
   have hi:i=((i.toNat:Nat):Int):=by omega
   have hl:i.toNat<n.to.length:=by omega
   refine⟨_,rfl,_,rfl,a,_,_,_,rfl,rfl,ha,ah (j:=0) rfl,c,_,i,vn (n.to.getD i.toNat 0),rfl,rfl,aE.of h4,at_of hi (xH (getD_get hl)),?_⟩
   exact k.done hd rfl (bK.of_same (aA.refl H)) (fun _ z=>z) hh
theorem DJ:aZ ["holder","given","structure","leaf","other","leaves"] ["holder","given"] (aQ ve):=fS
theorem L9(D:aO K mg "swap_partners" ve)(RH:HC K CH)(R:SC K C)(T4:fe mg)(C1:aK P w K mg base "has_place" 1 ["values","place"] (nz K))(C2:aK P w K mg base "leaves_of" 3 ["formulas"] (qf K))(M1:bE P w K mg base C "formulas" 4 ["self"] (qk K C))
  (C3:aK P w K mg base "with_partners_exchanged" 3 ["structure","leaf","other"] (Cw K C)):aK P w K mg base "swap_partners" 5 ["holder","given"] (DD K CH C):=by
 refine D.cal DJ (fun vs H Q E h=>?_) (fun fa cdv A outer s H vs Q E hr h=>?_)
 ·obtain⟨_,_,_,_,_,rfl,_⟩:=h
  rfl
 ·obtain⟨h,a,i,j,n,rfl,ha,hh,k⟩:=h
  have nd:=DJ.nd
  have hr3:=hr.mono (show 3<=4 by decide)
  have hr1:=hr.mono (show 1<=4 by decide)
  have hu:=hr.units
  refine⟨_,aG (aT (i:=2) nd rfl (aJ rfl) (aX (pv 0) rfl))
   (aG (aT (i:=3) nd rfl (aJ rfl) (aa az (pv 1) aR (fun _ _=>rfl)))
   (aG (aT (i:=4) nd rfl (aJ rfl) (aa az (pv 1) aR (fun _ _=>rfl)))
   (aG (aT (i:=5) nd rfl (aJ rfl) (pc C2 hr3 (aB (d4 R.cl M1 hr (pv 2)) aC)))
   (aG (aj (iF (dH (cA (pc C1 hr1 (aB (pv 5) (aB (pv 3) aC))))) (ie (dH (cA (pc C1 hr1 (aB (pv 5) (aB (pv 4) aC))))))).pt (aI (aN (au (aB (bX T4.there) aC)))) ay)
   (aG (aj (ao (ji hu) (aa az (pv 5) (pv 3) (fun _ _=>rfl)) (aa az (pv 5) (pv 4) (fun _ _=>rfl)) (ak _)) (aI (aN (au (aB (bX T4.fit) aC)))) ay)
   (aG (dY (pv 0) (pc C3 hr3 (aB (pv 2) (aB (pv 3) (aB (pv 4) aC)))) rfl)
   (aI (aN (au (aB (iG (ao (ji hu) (aX (aX (pv 0) rfl) rfl) (aX (pv 2) rfl) (ak _)) aR aR) aC)))))))))),?_⟩
  obtain⟨dxh,q,hh1,hS⟩:=id hh.ex
  obtain⟨⟨dx,x,y,c,h1,h2,h3,h4⟩,hok⟩:=id hS
  have hlim:bz=1000000:=rfl
  have hsm:=hok.small
  refine⟨_,rfl,h,CH,dxh,_,_,rfl,hh1,RH.cl,RH.n1,eG _,?_⟩
  refine⟨_,rfl,a,_,_,_,rfl,rfl,ha,ah (j:=0) rfl,?_⟩
  refine⟨_,rfl,a,_,_,_,rfl,rfl,ha,ah (j:=1) rfl,?_⟩
  refine⟨_,rfl,q,dx,_,rfl,h1,lV _ _ _ rfl rfl rfl,q,n,rfl,hS,fun v H1 s1 hv=>?_⟩
  refine⟨v,_,rfl,hv,hok.good,by omega,fun b zs H2 s2 hbn hb hz=>?_⟩
  have s02:=s1.trans s2
  have zl:zs.length=n.to.length:=by rw[hz.length,aL,hok.tol];rfl
  have hd:cB n (.swap i j)=after (below i n.to.length&&below j n.to.length) 4 (after ((allLeaves n)[i.toNat]? ==(allLeaves n)[j.toNat]?) 3 (.ok (withSwap n i.toNat j.toNat,[mF (i !=j)]))):=rfl
  rw[rK,rK] at hd
  refine⟨_,rfl,_,rfl,b,_,i,rfl,aE.of hb,_,rfl,?_⟩
  rw[zl]
  refine aU (fun e=>?_) (fun e=>?_)
  ·rw[decide_eq_false (jR e)] at hd
   exact k.refuse hh hd rfl s02
  have e:=iz e
  rw[decide_eq_true e,gz] at hd
  refine⟨_,rfl,_,rfl,b,_,j,rfl,aE.of hb,_,rfl,?_⟩
  rw[zl]
  refine aU (fun e2=>?_) (fun e2=>?_)
  ·rw[decide_eq_false (jR e2)] at hd
   exact k.refuse hh hd rfl s02
  have e2:=iz e2
  rw[decide_eq_true e2] at hd
  have hd:cB n (.swap i j)=after ((allLeaves n)[i.toNat]? ==(allLeaves n)[j.toNat]?) 3 (.ok (withSwap n i.toNat j.toNat,[mF (i !=j)])):=hd
  have ei:i=((i.toNat:Nat):Int):=by omega
  have ej:j=((j.toNat:Nat):Int):=by omega
  have li:i.toNat<n.to.length:=by omega
  have lj:j.toNat<n.to.length:=by omega
  have zi:zs[i.toNat]? =some zs[i.toNat]:=bU (by omega)
  have zj:zs[j.toNat]? =some zs[j.toNat]:=bU (by omega)
  obtain⟨ni,hni,hNi⟩:=bw hz zi
  obtain⟨nj,hnj,hNj⟩:=bw hz zj
  rw[bo] at hni hnj
  have hni:((allLeaves n)[i.toNat]?).map bG=some ni:=hni
  have hnj:((allLeaves n)[j.toNat]?).map bG=some nj:=hnj
  obtain⟨xi,hxi,rfl⟩:=Dv.mp hni
  obtain⟨xj,hxj,rfl⟩:=Dv.mp hnj
  have nm:∀z∈allLeaves n,isName z.2=true:=fun z hz=>by
   obtain⟨F,hF,hm⟩:=fh.mp hz
   exact Cd (cJ.mp hok.good F hF) z hm
  have hiff:bG xi=bG xj↔xi=xj:=⟨fun z=>MF.sR (nm _ (cv hxi)) (nm _ (cv hxj)) z,fun z=>by rw[z]⟩
  rw[hxi,hxj] at hd
  refine⟨_,rfl,_,rfl,b,_,i,_,rfl,rfl,aE.of hb,at_of ei zi,_,rfl,_,rfl,b,_,j,_,rfl,rfl,aE.of hb,at_of ej zj,kX hNi hNj ⟨_,rfl,?_⟩⟩
  refine aU (fun e3=>?_) (fun e3=>?_)
  ·have e3:¬xi=xj:=fun z=>jR e3 (hiff.mpr z)
   rw[show((some xi:Option (Bool×Name))==some xj)=false from beq_false_of_ne fun z=>e3 (bL z)] at hd
   exact k.refuse hh hd rfl s02
  have e3:xi=xj:=hiff.mp (iz e3)
  rw[e3,show((some xj:Option (Bool×Name))==some xj)=true from beq_self_eq_true _] at hd
  have hd:cB n (.swap i j)=.ok (withSwap n i.toNat j.toNat,[mF (i !=j)]):=hd
  have hLe:(allLeaves n)[i.toNat]? =(allLeaves n)[j.toNat]? :=by rw[hxi,hxj,e3]
  obtain⟨w1,w2,w3,w4⟩:=LY hok (getD_get li) (getD_get lj) hLe
  have hok2:=K1 hok li lj hLe
  rw[w1] at hd hok2
  have hS2:=hS.same s02
  refine⟨_,rfl,_,rfl,_,rfl,q,n,i.toNat,j.toNat,_,_,(by rw[<-ei,<-ej];rfl),hS2,getD_get li,getD_get lj,w2,w3,hok2,fun g H3 s3 hgn hSg=>?_⟩
  have s03:=s02.trans s3
  refine⟨_,rfl,h,CH,dxh,_,rfl,s03 _ _ hh1,RH.cl,RH.n1,(by show 1<1000;decide),?_⟩
  have eput:cn "structure" (.ref g) (hf (.ref q))=hf (.ref g):=rfl
  rw[eput]
  obtain⟨b1,b2,b3,b4,b5⟩:=held hh1 s03 (s02.free hgn) hSg
  have hS4:=b4 (hS2.same s3)
  have hh4:(upd H3 h (.ins CH dxh (hf (.ref g)))) h=_:=aF
  generalize upd H3 h (.ins CH dxh (hf (.ref g)))=H4 at b1 b2 b3 b4 hS4 hh4⊢
  have hq:=(b1 _ _ · h1)
  have hqh:q≠h:=fun z=>by rw[z,hh1] at h1;cases h1
  have h14:=hq hqh
  have h44:H4 c=some (.lst (n.to.map vn)):=b1 _ _ (fun z=>by rw[z,hh1] at h4;cases h4) h4
  obtain⟨⟨dg,xg,yg,cg,i1,i2,i3,i4⟩,_⟩:=id b3
  refine⟨_,rfl,h,CH,dxh,_,_,rfl,hh4,RH.cl,RH.n1,eG _,g,C,dg,_,_,rfl,i1,R.cl,R.n3,gk _ _ _,_,rfl,q,C,dx,_,_,rfl,h14,R.cl,R.n3,gk _ _ _,L7 i4 h44 ⟨_,rfl,?_⟩⟩
  refine aU (fun e4=>?_) (fun e4=>?_)
  ·have e4:¬i.toNat=j.toNat:=fun z=>jR e4 (w4.mp z)
   have:(i !=j)=true:=by rw[bne_iff_ne];intro z;exact e4 (by rw[z])
   rw[this] at hd
   exact k.done hd rfl b1 b2 ⟨dxh,g,hh4,b3⟩
  ·have e4:=w4.mpr (iz e4)
   have:(i !=j)=false:=by rw[show i=j by omega];exact bne_self_eq_false _
   rw[this] at hd
   exact k.done hd rfl b1 b2 ⟨dxh,g,hh4,b3⟩
end
open Vaneta (Formula dual leaves Name isName inBounds)
open Vanetc (Net formulas below after placed)
theorem DL{l new:List Formula}{i n:Nat}(h:i+n<=l.length):(placed l i n new).length+n=l.length+new.length:=by
 unfold rh
 rw[aS,aS,cM,di]
 omega
section
variable{P:Program}{w:World}{K:aD}{mg:Str->Option Value}{base:Heap}{C CK CG CH:Addr}
theorem DM:aZ ["holder","given","place","conclusions"] ["holder","given"] (aQ vf):=fS
theorem La(D:aO K mg "open_par" vf)(RH:HC K CH)(R:SC K C)(T:cY K mg)(T4:fe mg)(T6:dC mg "MOST_FORMULAS" 20)(C1:aK P w K mg base "has_place" 1 ["values","place"] (nz K))(C2:aK P w K mg base "two_of" 2 ["formula"] (Cs K))
  (C3:aK P w K mg base "with_conclusions_at" 3 ["structure","place","count","formulas"] (xI K C)):aK P w K mg base "open_par" 4 ["holder","given"] (l0 K CH C .open_):=by
 refine D.cal DM (fun vs H Q E h=>?_) (fun fa cdv A outer s H vs Q E hr h=>?_)
 ·obtain⟨_,_,_,_,rfl,_⟩:=h
  rfl
 ·obtain⟨h,a,i,n,rfl,ha,hh,k⟩:=h
  have nd:=DM.nd
  have hr2:=hr.mono (show 2<=3 by decide)
  have hr1:=hr.mono (show 1<=3 by decide)
  have hu:=hr.units
  refine⟨_,aG (aT (i:=2) nd rfl (aJ rfl) (aa az (pv 1) aR (fun _ _=>rfl)))
   (aG (aT (i:=3) nd rfl (aJ rfl) (aX (aX (pv 0) rfl) rfl))
   (aG (aj (dH (cA (pc C1 hr1 (aB (pv 3) (aB (pv 2) aC))))) (aI (aN (au (aB (bX T4.there) aC)))) ay)
   (aG (aj (ao (ji hu) (aa az (aa az (pv 3) (pv 2) (fun _ _=>rfl)) aR (fun _ _=>rfl)) (bT T.par) (ak _)) (aI (aN (au (aB (bX T4.fit) aC)))) ay)
   (aG (aj (ao ik (bH e9 (bD bI (by rfl) T4.len bM (aB (pv 3) aC)) aR) (bX T6) (ak _)) (aI (aN (au (aB (bX T4.many) aC)))) ay)
   (aG (dY (pv 0) (pc C3 hr (aB (aX (pv 0) rfl) (aB (pv 2) (aB aR (aB (pc C2 hr2 (aB (aa az (pv 3) (pv 2) (fun _ _=>rfl)) aC)) aC))))) rfl)
   (aI (aN (au (aB (bD bI (by rfl) T4.len bM (aB (aX (aX (pv 0) rfl) rfl) aC)) aC))))))))),?_⟩
  obtain⟨dxh,q,hh1,hS⟩:=id hh.ex
  obtain⟨⟨dx,x,y,c,h1,⟨xa,xw,rfl,g2,g2'⟩,h3,h4⟩,hok⟩:=id hS
  have xl:=g2'.length
  refine⟨_,rfl,a,_,_,_,rfl,rfl,ha,ah (j:=0) rfl,?_⟩
  refine⟨_,rfl,h,CH,dxh,_,_,rfl,hh1,RH.cl,RH.n1,eG _,q,C,dx,_,_,rfl,h1,R.cl,R.n1,eF _ _ _,?_⟩
  refine⟨_,rfl,_,rfl,xa,_,i,rfl,aE.of g2,_,rfl,?_⟩
  rw[xl]
  have hd:cB n (.open_ i)=after (below i n.concl.length) 4 (match n.concl[i.toNat]? with
   |some (.par A B)=>after (decide (n.concl.length<20)) 5 (.ok ({n with concl:=placed n.concl i.toNat 1 [A,B]},[n.concl.length+1]))
   |_=>.error 3):=rfl
  rw[rK] at hd
  refine aU (fun e=>?_) (fun e=>?_)
  ·rw[decide_eq_false (jR e)] at hd
   exact k.refuse hh hd rfl (aA.refl H)
  have e:=iz e
  rw[decide_eq_true e] at hd
  have ei:i=((i.toNat:Nat):Int):=by omega
  have li:i.toNat<xw.length:=by omega
  have hv:xw[i.toNat]? =some xw[i.toNat]:=bU li
  obtain⟨F,hF,hG⟩:=bw g2' hv
  generalize xw[i.toNat]=v at hv hG
  rw[hF] at hd
  obtain⟨gF,rfl,⟨hgd,vs,hvs,hvp⟩,hFl⟩:=id hG
  have h0:∀{n0 r},nl F=n0::r->∃v0,vs[0]? =some v0/\ai K H v0 n0:=fun{n0 r} z=>by
   rw[z] at hvp
   cases hvp with
   |cons r1 _=>exact⟨_,rfl,r1⟩
  cases F with
  |par A B=>
   obtain⟨v0,hv0,hN0⟩:=h0 (n0:=[124]) rfl
   refine⟨_,rfl,_,rfl,xa,_,i,_,rfl,rfl,aE.of g2,at_of ei hv,gF,_,_,v0,rfl,rfl,aE.of hvs,ah (j:=0) hv0,fun pv hpv=>kX hN0 (hpv H) ⟨_,rfl,?_⟩⟩
   refine aU (fun z=>absurd rfl (jR z)) (fun _=>?_)
   refine⟨_,rfl,xa,_,rfl,.inl (aE.of g2),_,_,rfl,rfl,_,_,rfl,rfl,_,rfl,?_⟩
   have hd:cB n (.open_ i)=after (decide (n.concl.length<20)) 5 (.ok ({n with concl:=placed n.concl i.toNat 1 [A,B]},[n.concl.length+1])):=hd
   refine aU (fun e2=>?_) (fun e2=>?_)
   ·have e2:(20:Int)<(xw.length:Int)+1:=of_decide_eq_true e2
    rw[decide_eq_false (by omega)] at hd
    exact k.refuse hh hd rfl (aA.refl H)
   have e2:¬((20:Int)<(xw.length:Int)+1):=fun z=>e2 (decide_eq_true z)
   have hl20:n.concl.length<20:=by omega
   rw[decide_eq_true hl20] at hd
   have hd:cB n (.open_ i)=.ok ({n with concl:=placed n.concl i.toNat 1 [A,B]},[n.concl.length+1]):=hd
   refine⟨_,rfl,h,CH,dxh,_,_,rfl,hh1,RH.cl,RH.n1,eG _,_,rfl,_,rfl,_,rfl,xa,_,i,_,rfl,rfl,aE.of g2,at_of ei hv,_,A,B,rfl,hG,fun b x1 y1 H1 s1 hbn hb hx1 hy1=>?_⟩
   refine⟨q,n,i.toNat,1,b,[x1,y1],[A,B],by rw[<-ei];rfl,hS.same s1,hb,.cons hx1 (.cons hy1 .nil),(by show 2<=10;decide),KW hok hF hl20,fun g H2 s2 hgn hSg=>?_⟩
   have s02:=s1.trans s2
   refine⟨_,rfl,h,CH,dxh,_,rfl,s02 _ _ hh1,RH.cl,RH.n1,(by show 1<1000;decide),?_⟩
   have eput:cn "structure" (.ref g) (hf (.ref q))=hf (.ref g):=rfl
   rw[eput]
   obtain⟨b1,b2,b3,b4,b5⟩:=held hh1 s02 (s1.free hgn) hSg
   have hh4:(upd H2 h (.ins CH dxh (hf (.ref g)))) h=_:=aF
   generalize upd H2 h (.ins CH dxh (hf (.ref g)))=H4 at b1 b2 b3 b4 hh4⊢
   obtain⟨⟨dg,xg,yg,cg,i1,⟨ga,gw,rfl,gg,gp⟩,i3,i4⟩,_⟩:=id b3
   have gl:=gp.length
   have pl:=DL (l:=n.concl) (new:=[A,B]) (i:=i.toNat) (n:=1) (by omega)
   have gl:gw.length=(placed n.concl i.toNat 1 [A,B]).length:=gl
   have pl:(placed n.concl i.toNat 1 [A,B]).length+1=n.concl.length+2:=pl
   refine⟨_,rfl,h,CH,dxh,_,_,rfl,hh4,RH.cl,RH.n1,eG _,g,C,dg,_,_,rfl,i1,R.cl,R.n1,eF _ _ _,ga,gw,rfl,.inl (aE.of gg),?_⟩
   exact k.done hd (by omega) b1 b2 ⟨dxh,g,hh4,b3⟩
  |tensor A B=>
   obtain⟨v0,hv0,hN0⟩:=h0 (n0:=[42]) rfl
   refine⟨_,rfl,_,rfl,xa,_,i,_,rfl,rfl,aE.of g2,at_of ei hv,gF,_,_,v0,rfl,rfl,aE.of hvs,ah (j:=0) hv0,fun pv hpv=>kX hN0 (hpv H) ⟨_,rfl,?_⟩⟩
   exact aU (fun _=>k.refuse hh hd rfl (aA.refl H)) (fun z=>absurd (iz z) (by decide))
  |atom t nm=>
   obtain⟨v0,hv0,hN0⟩:=h0 (n0:=bG (t,nm)) rfl
   refine⟨_,rfl,_,rfl,xa,_,i,_,rfl,rfl,aE.of g2,at_of ei hv,gF,_,_,v0,rfl,rfl,aE.of hvs,ah (j:=0) hv0,fun pv hpv=>kX hN0 (hpv H) ⟨_,rfl,?_⟩⟩
   refine aU (fun _=>k.refuse hh hd rfl (aA.refl H)) (fun z=>?_)
   have:=MF.gR (t:=t) (a:=nm) hgd
   rw[iz z] at this
   cases this
  |_=>cases hgd
theorem DN{n:Net}{i:Int}(h:¬(0<=i/\i+1<(n.concl.length:Int))):cB n (.shut i)=.error 4:=by
 show oY n i=_
 unfold oY
 by_cases q:i<0
 ·rw[if_pos q]
 ·rw[if_neg q]
  have:(n.concl.drop i.toNat).length<=1:=by rw[di];omega
  match n.concl.drop i.toNat,this with
  |[],_=>rfl
  |[_],_=>rfl
  |_::_::r,z=>exact absurd z (by rw[aV,aV];omega)
theorem DO{l:List Formula}{i:Nat}{A B:Formula}(hA:l[i]? =some A)(hB:l[i+1]? =some B):l.drop i=A::B::l.drop (i+2):=by
 obtain⟨a1,a2⟩:=bC.mp hA
 obtain⟨b1,b2⟩:=bC.mp hB
 rw[fg a1,fg b1,a2,b2]
theorem Lb{n:Net}{i:Nat}{A B:Formula}(hA:n.concl[i]? =some A)(hB:n.concl[i+1]? =some B):cB n (.shut (i:Int))=after (inBounds (.par A B)) 6 (.ok ({n with concl:=placed n.concl i 2 [.par A B]},[n.concl.length-1])):=by
 show oY n i=_
 unfold oY
 rw[if_neg (by omega),show(i:Int).toNat=i from rfl,DO hA hB]
theorem DP:aZ ["holder","given","place","conclusions","par"] ["holder","given"] (aQ vg):=fS
theorem Lc(D:aO K mg "shut_two" vg)(RH:HC K CH)(R:SC K C)(T:cY K mg)(T4:fe mg)(C1:aK P w K mg base "has_place" 1 ["values","place"] (nz K))(C2:aK P w K mg base "in_bounds" 3 ["formula"] (qU K))
  (C3:aK P w K mg base "with_conclusions_at" 3 ["structure","place","count","formulas"] (xI K C)):aK P w K mg base "shut_two" 4 ["holder","given"] (l0 K CH C .shut):=by
 refine D.cal DP (fun vs H Q E h=>?_) (fun fa cdv A outer s H vs Q E hr h=>?_)
 ·obtain⟨_,_,_,_,rfl,_⟩:=h
  rfl
 ·obtain⟨h,a,i,n,rfl,ha,hh,k⟩:=h
  have nd:=DP.nd
  have hr1:=hr.mono (show 1<=3 by decide)
  refine⟨_,aG (aT (i:=2) nd rfl (aJ rfl) (aa az (pv 1) aR (fun _ _=>rfl)))
   (aG (aT (i:=3) nd rfl (aJ rfl) (aX (aX (pv 0) rfl) rfl))
   (aG (aj (iF (dH (cA (pc C1 hr1 (aB (pv 3) (aB (pv 2) aC))))) (ie (dH (cA (pc C1 hr1 (aB (pv 3) (aB (bH e9 (pv 2) aR) aC))))))).pt (aI (aN (au (aB (bX T4.there) aC)))) ay)
   (aG (aT (i:=4) nd rfl (aJ rfl) (bH c8 (bH c8 (au (aB (bT T.par) aC)) (aa az (pv 3) (pv 2) (fun _ _=>rfl))) (aa az (pv 3) (bH e9 (pv 2) aR) (fun _ _=>rfl))))
   (aG (aj (dH (cA (pc C2 hr (aB (pv 4) aC)))) (aI (aN (au (aB (bX T4.bounds) aC)))) ay)
   (aG (dY (pv 0) (pc C3 hr (aB (aX (pv 0) rfl) (aB (pv 2) (aB aR (aB (au (aB (pv 4) aC)) aC))))) rfl)
   (aI (aN (au (aB (bD bI (by rfl) T4.len bM (aB (aX (aX (pv 0) rfl) rfl) aC)) aC))))))))),?_⟩
  obtain⟨dxh,q,hh1,hS⟩:=id hh.ex
  obtain⟨⟨dx,x,y,c,h1,⟨xa,xw,rfl,g2,g2'⟩,h3,h4⟩,hok⟩:=id hS
  have xl:=g2'.length
  have hsl:=sizeLine_eq
  refine⟨_,rfl,a,_,_,_,rfl,rfl,ha,ah (j:=0) rfl,?_⟩
  refine⟨_,rfl,h,CH,dxh,_,_,rfl,hh1,RH.cl,RH.n1,eG _,q,C,dx,_,_,rfl,h1,R.cl,R.n1,eF _ _ _,?_⟩
  refine⟨_,rfl,_,rfl,xa,_,i,rfl,aE.of g2,_,rfl,?_⟩
  rw[xl]
  refine aU (fun e=>?_) (fun e=>?_)
  ·have e:=jR e
   exact k.refuse hh (DN fun z=>e ⟨z.1,by omega⟩) rfl (aA.refl H)
  have e:=iz e
  refine⟨_,rfl,_,rfl,_,_,rfl,rfl,xa,_,i+1,rfl,aE.of g2,_,rfl,?_⟩
  rw[xl]
  refine aU (fun e2=>?_) (fun e2=>?_)
  ·have e2:=jR e2
   exact k.refuse hh (DN fun z=>e2 ⟨by omega,z.2⟩) rfl (aA.refl H)
  have e2:=iz e2
  obtain⟨j,rfl⟩:∃j:Nat,i=(j:Int):=⟨i.toNat,by omega⟩
  have hvA:xw[j]? =some xw[j]:=bU (by omega)
  have hvB:xw[j+1]? =some xw[j+1]:=bU (by omega)
  obtain⟨A,hA,hGA⟩:=bw g2' hvA
  obtain⟨B,hB,hGB⟩:=bw g2' hvB
  generalize xw[j]=vA at hvA hGA
  generalize xw[j+1]=vB at hvB hGB
  have hd:=Lb hA hB
  have bA:=hok.cb A (cv hA)
  have bB:=hok.cb B (cv hB)
  have nA:=gm bA.1 bA.2
  have nB:=gm bB.1 bB.2
  obtain⟨gA,rfl,⟨gdA,wA,hwA,pA⟩,_⟩:=id hGA
  obtain⟨gB,rfl,⟨gdB,wB,hwB,pB⟩,_⟩:=id hGB
  have lA:=pA.length
  have lB:=pB.length
  intro v1 hv1
  refine⟨(by show 1<=sizeLine;decide),fun u1 hu1=>?_⟩
  have s1:=aA.upd (o:=.lst [v1]) hu1
  have u11:(upd H u1 (.lst [v1])) u1=_:=aF
  generalize upd H u1 (.lst [v1])=H1 at s1 u11⊢
  refine⟨_,rfl,_,rfl,xa,_,(j:Int),_,rfl,rfl,aE.of (s1 _ _ g2),ah hvA,u1,gA,_,_,rfl,rfl,u11,s1 _ _ hwA,(by show 1+_<=_;omega),fun u2 hu2=>?_⟩
  have s2:=aA.upd (o:=.lst ([v1]++wA)) hu2
  have u22:(upd H1 u2 (.lst ([v1]++wA))) u2=_:=aF
  generalize upd H1 u2 (.lst ([v1]++wA))=H2 at s2 u22⊢
  have s02:=s1.trans s2
  refine⟨_,rfl,_,rfl,_,_,rfl,rfl,xa,_,(j:Int)+1,_,rfl,rfl,aE.of (s02 _ _ g2),at_of (j:=j+1) rfl hvB,u2,gB,_,_,rfl,rfl,u22,s02 _ _ hwB,(by rw[aS];show 1+_+_<=_;omega),fun u3 hu3=>?_⟩
  have s3:=aA.upd (o:=.lst ([v1]++wA++wB)) hu3
  have u33:(upd H2 u3 (.lst ([v1]++wA++wB))) u3=_:=aF
  generalize upd H2 u3 (.lst ([v1]++wA++wB))=H3 at s3 u33⊢
  have s03:=s02.trans s3
  have gP:good (.par A B)=true:=MF.bS.mpr ⟨gdA,gdB⟩
  have pz:Paired (ai K H3) (v1::(wA++wB)) ([124]::(nl A++nl B)):=.cons (hv1 H3) (iR (eC pA s03) (eC pB s03))
  have hFP:de K H3 u3 (.par A B):=⟨gP,_,u33,pz⟩
  have hPl:(nl (.par A B)).length<=10000:=by show([124]::(nl A++nl B)).length<=_;rw[aV,aS];omega
  refine⟨_,rfl,.ref u3,.par A B,rfl,hFP.isF hPl,fun H4 s4=>⟨_,rfl,?_⟩⟩
  have s04:=s03.trans s4
  refine aU (fun e3=>?_) (fun e3=>?_)
  ·have e3:inBounds (.par A B)=false:=by simpa using e3
   rw[e3] at hd
   exact k.refuse hh hd rfl s04
  have e3:inBounds (.par A B)=true:=by simpa using e3
  rw[e3] at hd
  have hd:cB n (.shut (j:Int))=.ok ({n with concl:=placed n.concl j 2 [.par A B]},[n.concl.length-1]):=hd
  refine⟨_,rfl,h,CH,dxh,_,_,rfl,s04 _ _ hh1,RH.cl,RH.n1,eG _,_,rfl,_,rfl,(by show 1<=sizeLine;decide),fun u5 hu5=>?_⟩
  have s5:=aA.upd (o:=.lst [V.ref u3]) hu5
  have u55:(upd H4 u5 (.lst [V.ref u3])) u5=_:=aF
  generalize upd H4 u5 (.lst [V.ref u3])=H5 at s5 u55⊢
  have s05:=s04.trans s5
  refine⟨q,n,j,2,u5,_,[.par A B],rfl,hS.same s05,u55,.cons ⟨u3,rfl,hFP.same (s4.trans s5),hPl⟩ .nil,(by show 1<=10;decide),KY hok (DO hA hB) e3,fun g H6 s6 hgn hSg=>?_⟩
  have s06:=s05.trans s6
  refine⟨_,rfl,h,CH,dxh,_,rfl,s06 _ _ hh1,RH.cl,RH.n1,(by show 1<1000;decide),?_⟩
  have eput:cn "structure" (.ref g) (hf (.ref q))=hf (.ref g):=rfl
  rw[eput]
  obtain⟨b1,b2,b3,b4,b5⟩:=held hh1 s06 (s05.free hgn) hSg
  have hh4:(upd H6 h (.ins CH dxh (hf (.ref g)))) h=_:=aF
  generalize upd H6 h (.ins CH dxh (hf (.ref g)))=H7 at b1 b2 b3 b4 hh4⊢
  obtain⟨⟨dg,xg,yg,cg,i1,⟨ga,gw,rfl,gg,gp⟩,i3,i4⟩,_⟩:=id b3
  have pl:=DL (l:=n.concl) (new:=[.par A B]) (i:=j) (n:=2) (by omega)
  have gl:gw.length=(placed n.concl j 2 [.par A B]).length:=gp.length
  have pl:(placed n.concl j 2 [.par A B]).length+2=n.concl.length+1:=pl
  refine⟨_,rfl,h,CH,dxh,_,_,rfl,hh4,RH.cl,RH.n1,eG _,g,C,dg,_,_,rfl,i1,R.cl,R.n1,eF _ _ _,ga,gw,rfl,.inl (aE.of gg),?_⟩
  exact k.done hd (by omega) b1 b2 ⟨dxh,g,hh4,b3⟩
end
open Vanetc (Net formulas below after rotated)
section
variable{P:Program}{w:World}{K:aD}{mg:Str->Option Value}{base:Heap}{C CK CG CH:Addr}
theorem Ld{n:Net}{A:Formula}{r:List Formula}(h:n.cuts=A::r):cB n .bare=after (inBounds (.tensor A (dual A))) 6 (after (decide (n.concl.length<20)) 5 (.ok ({n with concl:=n.concl++[.tensor A (dual A)],cuts:=r},[r.length]))):=by
 show oZ n=_
 unfold oZ
 rw[h];rfl
theorem DQ:aZ ["holder","given","structure","tensor"] ["holder","given"] (aQ vh):=fS
theorem Le(D:aO K mg "bare_cut" vh)(RH:HC K CH)(R:SC K C)(T:cY K mg)(T4:fe mg)(T6:dC mg "MOST_FORMULAS" 20)(C1:aK P w K mg base "dual" 2 ["formula"] (nP K))(C2:aK P w K mg base "in_bounds" 3 ["formula"] (qU K))
  (C3:aK P w K mg base "with_first_cut_as" 3 ["structure","formula"] (Cv K C)):aK P w K mg base "bare_cut" 4 ["holder","given"] (rL K CH C .bare):=by
 refine D.cal DQ (fun vs H Q E h=>?_) (fun fa cdv A outer s H vs Q E hr h=>?_)
 ·obtain⟨_,_,_,rfl,_⟩:=h
  rfl
 ·obtain⟨h,g0,n,rfl,hh,k⟩:=h
  have nd:=DQ.nd
  have hr2:=hr.mono (show 2<=3 by decide)
  refine⟨_,aG (aT (i:=2) nd rfl (aJ rfl) (aX (pv 0) rfl))
   (aG (aj (dH (kP (aX (pv 2) rfl) (fun _=>rfl))) (aI (aN (au (aB (bX T4.there) aC)))) ay)
   (aG (aT (i:=3) nd rfl (aJ rfl) (bH c8 (bH c8 (au (aB (bT T.tensor) aC)) (aa az (aX (pv 2) rfl) aR (fun _ _=>rfl))) (pc C1 hr2 (aB (aa az (aX (pv 2) rfl) aR (fun _ _=>rfl)) aC))))
   (aG (aj (dH (cA (pc C2 hr (aB (pv 3) aC)))) (aI (aN (au (aB (bX T4.bounds) aC)))) ay)
   (aG (aj (ao ik (bH e9 (bD bI (by rfl) T4.len bM (aB (aX (pv 2) rfl) aC)) aR) (bX T6) (ak _)) (aI (aN (au (aB (bX T4.many) aC)))) ay)
   (aG (dY (pv 0) (pc C3 hr (aB (pv 2) (aB (pv 3) aC))) rfl)
   (aI (aN (au (aB (bD bI (by rfl) T4.len bM (aB (aX (aX (pv 0) rfl) rfl) aC)) aC))))))))),?_⟩
  obtain⟨dxh,q,hh1,hS⟩:=id hh.ex
  obtain⟨⟨dx,x,y,c,h1,⟨xa,xw,rfl,g2,g2'⟩,⟨ya,yw,rfl,g3,g3'⟩,h4⟩,hok⟩:=id hS
  have hsl:=sizeLine_eq
  have hlim:bz=1000000:=rfl
  have xl:=g2'.length
  refine⟨_,rfl,h,CH,dxh,_,_,rfl,hh1,RH.cl,RH.n1,eG _,?_⟩
  refine⟨_,rfl,q,C,dx,_,_,rfl,h1,R.cl,R.n2,iS _ _ _,_,.inl ⟨yw,aE.of g3,rfl⟩,?_⟩
  cases hcu:n.cuts with
  |nil=>
   rw[hcu] at g3'
   cases g3'
   exact kW (k.refuse hh (show oZ n=.error 4 by unfold oZ;rw[hcu]) rfl (aA.refl H))
  |cons A r=>
  rw[hcu] at g3'
  cases g3' with
  |cons hGA hrr=>
  rename_i vA wr
  refine ir ?_
  have hd:=Ld hcu
  have bA:=hok.db A (by rw[hcu];exact bY)
  have nA:=gm bA.1 bA.2
  obtain⟨gA,rfl,hFA,_⟩:=id hGA
  obtain⟨gdA,wA,hwA,pA⟩:=id hFA
  have lA:=pA.length
  intro v1 hv1
  refine⟨(by show 1<=sizeLine;decide),fun u1 hu1=>?_⟩
  have s1:=aA.upd (o:=.lst [v1]) hu1
  have u11:(upd H u1 (.lst [v1])) u1=_:=aF
  generalize upd H u1 (.lst [v1])=H1 at s1 u11⊢
  refine⟨_,rfl,q,C,dx,_,_,rfl,s1 _ _ h1,R.cl,R.n2,iS _ _ _,ya,_,_,_,rfl,rfl,aE.of (s1 _ _ g3),ah (j:=0) rfl,u1,gA,_,_,rfl,rfl,u11,s1 _ _ hwA,(by show 1+_<=_;omega),fun u2 hu2=>?_⟩
  have s2:=aA.upd (o:=.lst ([v1]++wA)) hu2
  have u22:(upd H1 u2 (.lst ([v1]++wA))) u2=_:=aF
  generalize upd H1 u2 (.lst ([v1]++wA))=H2 at s2 u22⊢
  have s02:=s1.trans s2
  refine⟨_,rfl,q,C,dx,_,_,rfl,s02 _ _ h1,R.cl,R.n2,iS _ _ _,ya,_,_,_,rfl,rfl,aE.of (s02 _ _ g3),ah (j:=0) rfl,?_⟩
  refine⟨.ref gA,nl A,rfl,(hFA.same s02).isNs,by omega,fun m hm=>bW (gh gdA m hm) (by decide),fun gB wB H3 s3 hwB hgBn pB=>?_⟩
  have s03:=s02.trans s3
  have lB:=pB.length
  rw[aL] at lB
  refine⟨u2,gB,_,_,rfl,rfl,s3 _ _ u22,hwB,(by rw[aS];show 1+_+_<=_;omega),fun u4 hu4=>?_⟩
  have s4:=aA.upd (o:=.lst ([v1]++wA++wB)) hu4
  have u44:(upd H3 u4 (.lst ([v1]++wA++wB))) u4=_:=aF
  generalize upd H3 u4 (.lst ([v1]++wA++wB))=H4 at s4 u44⊢
  have s04:=s03.trans s4
  have gdB:good (dual A)=true:=eV gdA
  have gP:good (.tensor A (dual A))=true:=MF.bS.mpr ⟨gdA,gdB⟩
  have pz:Paired (ai K H4) (v1::(wA++wB)) ([42]::(nl A++nl (dual A))):=by
   rw[MF.i8 gdA]
   exact .cons (hv1 H4) (iR (eC pA s04) (eC pB s4))
  have hFP:de K H4 u4 (.tensor A (dual A)):=⟨gP,_,u44,pz⟩
  have hPl:(nl (.tensor A (dual A))).length<=10000:=by
   show([42]::(nl A++nl (dual A))).length<=_
   rw[MF.i8 gdA,aV,aS,aL];omega
  refine⟨_,rfl,.ref u4,.tensor A (dual A),rfl,hFP.isF hPl,fun H5 s5=>⟨_,rfl,?_⟩⟩
  have s05:=s04.trans s5
  refine aU (fun e3=>?_) (fun e3=>?_)
  ·have e3:inBounds (.tensor A (dual A))=false:=by simpa using e3
   rw[e3] at hd
   exact k.refuse hh hd rfl s05
  have e3:inBounds (.tensor A (dual A))=true:=by simpa using e3
  rw[e3] at hd
  have hd:cB n .bare=after (decide (n.concl.length<20)) 5 (.ok ({n with concl:=n.concl++[.tensor A (dual A)],cuts:=r},[r.length])):=hd
  refine⟨_,rfl,q,C,dx,_,_,rfl,s05 _ _ h1,R.cl,R.n1,eF _ _ _,xa,_,rfl,.inl (aE.of (s05 _ _ g2)),_,_,rfl,rfl,_,_,rfl,rfl,_,rfl,?_⟩
  refine aU (fun e2=>?_) (fun e2=>?_)
  ·have e2:(20:Int)<(xw.length:Int)+1:=of_decide_eq_true e2
   rw[decide_eq_false (by omega)] at hd
   exact k.refuse hh hd rfl s05
  have e2:¬((20:Int)<(xw.length:Int)+1):=fun z=>e2 (decide_eq_true z)
  have hl20:n.concl.length<20:=by omega
  rw[decide_eq_true hl20] at hd
  have hd:cB n .bare=.ok ({n with concl:=n.concl++[.tensor A (dual A)],cuts:=r},[r.length]):=hd
  have hok2:=KZ hok hcu e3 hl20
  have er:n.cuts.drop 1=r:=by rw[hcu];rfl
  rw[<-er] at hok2 hd
  refine⟨_,rfl,_,rfl,q,n,.ref u4,.tensor A (dual A),rfl,hS.same s05,⟨u4,rfl,hFP.same s5,hPl⟩,hok2,fun g H6 s6 hgn hSg=>?_⟩
  have s06:=s05.trans s6
  refine⟨_,rfl,h,CH,dxh,_,rfl,s06 _ _ hh1,RH.cl,RH.n1,(by show 1<1000;decide),?_⟩
  have eput:cn "structure" (.ref g) (hf (.ref q))=hf (.ref g):=rfl
  rw[eput]
  obtain⟨b1,b2,b3,b4,b5⟩:=held hh1 s06 (s05.free hgn) hSg
  have hh4:(upd H6 h (.ins CH dxh (hf (.ref g)))) h=_:=aF
  generalize upd H6 h (.ins CH dxh (hf (.ref g)))=H7 at b1 b2 b3 b4 hh4⊢
  obtain⟨⟨dg,xg,yg,cg,i1,i2,⟨ga,gw,rfl,gg,gp⟩,i4⟩,_⟩:=id b3
  have gl:gw.length=(n.cuts.drop 1).length:=gp.length
  refine⟨_,rfl,h,CH,dxh,_,_,rfl,hh4,RH.cl,RH.n1,eG _,g,C,dg,_,_,rfl,i1,R.cl,R.n2,iS _ _ _,ga,gw,rfl,.inl (aE.of gg),?_⟩
  exact k.done hd (by rw[gl]) b1 b2 ⟨dxh,g,hh4,b3⟩
theorem DR:aZ ["holder","given","structure"] ["holder","given"] (aQ vi):=fS
theorem Lf(D:aO K mg "turn_conclusions" vi)(RH:HC K CH)(R:SC K C)(T4:fe mg)(C1:aK P w K mg base "atoms" 2 ["formula"] (nQ K))(C3:aK P w K mg base "with_first_as_last" 4 ["structure"] (DB K C)):aK P w K mg base "turn_conclusions" 5 ["holder","given"] (rL K CH C .turn):=by
 refine D.cal DR (fun vs H Q E h=>?_) (fun fa cdv A outer s H vs Q E hr h=>?_)
 ·obtain⟨_,_,_,rfl,_⟩:=h
  rfl
 ·obtain⟨h,g0,n,rfl,hh,k⟩:=h
  have nd:=DR.nd
  have hr2:=hr.mono (show 2<=4 by decide)
  refine⟨_,aG (aT (i:=2) nd rfl (aJ rfl) (aX (pv 0) rfl))
   (aG (aj (dH (kP (aX (pv 2) rfl) (fun _=>rfl))) (aI (aN (au (aB (bX T4.there) aC)))) ay)
   (aG (dY (pv 0) (pc C3 hr (aB (pv 2) aC)) rfl)
   (aI (aN (au (aB (bD bI (by rfl) T4.len bM (aB (pc C1 hr2 (aB (aa az (aX (pv 2) rfl) aR (fun _ _=>rfl)) aC)) aC)) aC)))))),?_⟩
  obtain⟨dxh,q,hh1,hS⟩:=id hh.ex
  obtain⟨⟨dx,x,y,c,h1,⟨xa,xw,rfl,g2,g2'⟩,h3,h4⟩,hok⟩:=id hS
  have hlim:bz=1000000:=rfl
  refine⟨_,rfl,h,CH,dxh,_,_,rfl,hh1,RH.cl,RH.n1,eG _,?_⟩
  refine⟨_,rfl,q,C,dx,_,_,rfl,h1,R.cl,R.n1,eF _ _ _,_,.inl ⟨xw,aE.of g2,rfl⟩,?_⟩
  cases hco:n.concl with
  |nil=>
   rw[hco] at g2'
   cases g2'
   exact kW (k.refuse hh (show o5 n=.error 4 by unfold o5;rw[hco]) rfl (aA.refl H))
  |cons A r=>
  rw[hco] at g2'
  cases g2' with
  |cons hGA hrr=>
  rename_i vA wr
  refine ir ?_
  have hd:cB n .turn=.ok (rotated n,[oW A]):=by
   show o5 n=_
   unfold o5
   rw[hco]
  have gdA:=(hok.cb A (by rw[hco];exact bY)).1
  refine⟨_,rfl,q,n,A,r,rfl,hS,hco,fun g H1 s1 hgn hSg=>?_⟩
  refine⟨_,rfl,h,CH,dxh,_,rfl,s1 _ _ hh1,RH.cl,RH.n1,(by show 1<1000;decide),?_⟩
  have eput:cn "structure" (.ref g) (hf (.ref q))=hf (.ref g):=rfl
  rw[eput]
  obtain⟨b1,b2,b3,b4,b5⟩:=held hh1 s1 hgn hSg
  have hh4:(upd H1 h (.ins CH dxh (hf (.ref g)))) h=_:=aF
  have hG2:=b5.isG (lY (s1 _ _ hh1)) (hGA.same s1)
  generalize upd H1 h (.ins CH dxh (hf (.ref g)))=H2 at b1 b2 b3 b4 b5 hh4 hG2⊢
  have hqh:q≠h:=fun z=>by rw[z,hh1] at h1;cases h1
  have h12:=b1 _ _ hqh h1
  have g22:H2 xa=some (.lst (vA::wr)):=b1 _ _ (fun z=>by rw[z,hh1] at g2;cases g2) g2
  obtain⟨gA,rfl,hFA,hl⟩:=id hG2
  refine⟨_,rfl,q,C,dx,_,_,rfl,h12,R.cl,R.n1,eF _ _ _,xa,_,_,_,rfl,rfl,aE.of g22,ah (j:=0) rfl,?_⟩
  refine⟨.ref gA,nl A,rfl,hFA.isNs,by omega,fun b ws H3 s3 hb hbn hw=>⟨b,ws,rfl,.inl (aE.of hb),?_⟩⟩
  have wl:=hw.length
  rw[MF.jX gdA,aL,MF.fQ] at wl
  exact k.done hd (by rw[wl]) (b1.trans (bK.of_same s3)) (fun u z=>b2 u (s3.free z)) ⟨dxh,g,s3 _ _ hh4,b3.same s3⟩
end
open MFl (C gv Cl)
def iV(K:aD)(H0:Hp)(d:Addr)(H:Hp)(v:V)(c:MFl.C):Prop:=∃T r p g,v=.ref T/\aW K H T [.int p,.ref r]/\H r=some (.lst (g.map V.int))/\H0 r=none/\r≠d/\(c=[p::g]\/c=[[p],g])
theorem iV.same{K:aD}{H0:Hp}{d:Addr}{H H':Hp}{v:V}{c:MFl.C}(h:iV K H0 d H v c)(e:aA H H'):iV K H0 d H' v c:=by
 obtain⟨T,r,p,g,h1,h2,h3,h4,h5,h6⟩:=h
 exact⟨T,r,p,g,h1,aA.tup e h2,e _ _ h3,h4,h5,h6⟩
theorem iV.upd{K:aD}{H0:Hp}{d:Addr}{H:Hp}{v:V}{c:MFl.C}{ys zs:List V}(h:iV K H0 d H v c)(hD:H d=some (.lst ys)):iV K H0 d (L2.upd H d (.lst zs)) v c:=by
 obtain⟨T,r,p,g,h1,h2,h3,h4,h5,h6⟩:=h
 exact⟨T,r,p,g,h1,aW.upd h2 hD,by rw[aP h5];exact h3,h4,h5,h6⟩
def gN:List (Int×Int):=[(7,1),(8,2),(9,1),(10,1)]
theorem Lg(p:Int):ny gN p (.int 0)=.int (gv p):=by
 unfold ny gv gN
 cases([(7,1),(8,2),(9,1),(10,1)]:List (Int×Int)).lookup p<;>rfl
theorem Lh(p:Int):fL (V.int p) [vb 0,vb 6]=decide (p=0\/p=6):=by
 show(((0:Int)==p)||(((6:Int)==p)||false))=_
 rw[kD,ck,xf,beq_iff_eq,beq_iff_eq,decide_eq_true_iff]
 constructor
 ·rintro(z|z)
  ·exact .inl z.symm
  ·exact .inr z.symm
 ·rintro(z|z)
  ·exact .inl z.symm
  ·exact .inr z.symm
theorem DS(l:List Int){i n:Nat}(h:i+n<=l.length):cW (l.map V.int) (some (i:Int)) (some ((i+n:Nat):Int))=((l.drop i).take n).map V.int:=by
 rw[Cr _ (by omega) (by rw[aL];exact h),EC,List.map_drop,show i+n-i=n by omega]
section
variable{P:Program}{w:World}{K:aD}{mg:Str->Option Value}{base:Heap}
def DT(K:aD):Sp:=fun vs H Q _=>∃a l cs,vs=[.ref a]/\aE K H a (l.map V.int)/\l.length<=16000/\PyFlat.calls dr l.length l=some cs/\∀d ws H',aA H H'->H d=none->H' d=some (.lst ws)->Paired (iV K H d H') ws cs->Q (.ref d) H'
theorem DU:aZ ["calls","found","place","number","start","end"] ["calls"] (aQ vj):=fS
theorem Li(D:aO K mg "split_calls" vj)(T4:fe mg)(DG:DI K mg "GIVEN_NUMBERS" gN)(TW:fY K mg "WITH_ROW" [0,6]):aK P w K mg base "split_calls" 1 ["calls"] (DT K):=by
 refine D.cal DU (fun vs H Q E h=>?_) (fun fa cdv A outer s H vs Q E hr h=>?_)
 ·obtain⟨_,_,_,rfl,_⟩:=h
  rfl
 ·obtain⟨a,l,cs,rfl,ha,hl,hcs,k⟩:=h
  have nd:=DU.nd
  refine⟨_,aG (aT (i:=1) nd rfl (aJ rfl) (au aC))
   (aG (aT (i:=2) nd rfl (aJ rfl) aR)
   (aG (iI PassesOwn.never (ao jb (pv 2) (bD bI (by rfl) T4.len bM (aB (pv 0) aC)) (ak _))
    (aG (aT (i:=3) nd rfl (aJ rfl) (aa az (pv 0) (pv 2) (fun _ _=>rfl)))
    (aG (aT (i:=4) nd rfl (aJ rfl) (bH e9 (pv 2) aR))
    (aG (aT (i:=5) nd rfl (aJ rfl) (bH e9 (pv 4) (LC DG (pv 3) aR ⟨rfl,rfl,rfl,rfl⟩)))
    (aG (aj (ao mw (pv 3) (bT TW) rfl)
     (aG (aT (i:=4) nd rfl (aJ rfl) (bH e9 (pv 2) aR))
     (aI (aT (i:=5) nd rfl (aJ rfl) (bH e9 (pv 4) (aa az (pv 0) (bH e9 (pv 2) aR) (fun _ _=>rfl)))))) ay)
    (aG (bV (cG bR cw cy c7 (pv 1) (aB (eQ (aB (pv 3) (aB (gD iL (pv 0) (dz (pv 4)) (dz (pv 5))) aC))) aC)))
    (aI (aT (i:=2) nd rfl (aJ rfl) (pv 5)))))))))
   (aI (aN (pv 1))))),?_⟩
  have hsl:=sizeLine_eq
  refine⟨bF _,fun d hd=>?_⟩
  have s1:=aA.upd (o:=.lst []) hd
  have d1:(upd H d (.lst [])) d=some (.lst []):=aF
  generalize upd H d (.lst [])=H1 at s1 d1⊢
  refine⟨fun m σ H'=>∃(i f:Nat) (ws:List V) (cs1 cs2:List MFl.C) (x3 x4 x5:Option V),m=l.length-i/\σ=[some (.ref a),some (.ref d),some (.int (i:Nat)),x3,x4,x5]/\i<=l.length/\aA H H'/\H' d=some (.lst ws)/\ws.length<=i/\Paired (iV K H d H') ws cs1/\cs=cs1++cs2/\PyFlat.calls dr f (l.drop i)=some cs2,
   ⟨_,0,l.length,[],[],cs,none,none,none,rfl,rfl,bF _,s1,d1,aY _,.nil,rfl,hcs⟩,?_⟩
  rintro m σ H' ⟨i,f,ws,cs1,cs2,x3,x4,x5,rfl,rfl,hi,s2,hd2,hwl,hwp,rfl,hc2⟩
  have ha2:=aA.seq s2 ha
  refine⟨_,rfl,_,rfl,a,_,rfl,.inl ha2,_,_,rfl,rfl,_,rfl,?_⟩
  rw[aL]
  refine aU (fun e=>?_) (fun e=>?_)
  ·have e:(i:Int)<(l.length:Int):=of_decide_eq_true e
   have hil:i<l.length:=by omega
   have hp:l[i]? =some l[i]:=bU hil
   rw[fg hil] at hc2
   generalize l[i]=p at hp hc2
   have lat:∀{j:Nat} {z:Int},l[j]? =some z->(l.map V.int)[j]? =some (.int z):=fun{j z} q=>by rw[bo,q];rfl
   obtain⟨f',c,t,cs',rfl,ht,hcase⟩:=MFl.El hc2
   refine⟨_,fun _ _ h=>h,_,rfl,_,rfl,a,_,(i:Int),V.int p,rfl,rfl,ha2,ah (lat hp),?_⟩
   refine⟨_,rfl,_,_,rfl,rfl,?_⟩
   refine⟨_,rfl,_,rfl,p,rfl,?_⟩
   rw[Lg]
   refine⟨_,_,rfl,rfl,?_⟩
   refine⟨_,rfl,fun v hv=>?_⟩
   obtain⟨tw,rfl,htw⟩:=hv H'
   refine⟨tw,_,rfl,.inr htw,rfl,rfl,_,rfl,?_⟩
   rw[if_neg (by decide),show([0,6]:List UInt8).map vb=[vb 0,vb 6] from rfl,Lh]
   rcases hcase with⟨n,hs,hn,rfl,rfl⟩|⟨kk,r',hs,hr',hk,rfl,rfl⟩
   ·obtain⟨q1,q2,q3⟩:=MFl.Ep hs
    refine aU (fun z=>absurd (of_decide_eq_true z) (by rintro(z|z);exact q2 z;exact q3 z)) (fun _=>?_)
    rw[di] at hn
    rw[q1]
    have e1:(i:Int)+1=((i+1:Nat):Int):=by omega
    have e2:((i+1:Nat):Int)+(n:Int)=((i+1+n:Nat):Int):=by omega
    refine⟨_,rfl,.inl ⟨rfl,_,aE.of hd2⟩,_,rfl,_,rfl,_,rfl,_,rfl,_,rfl,_,rfl,a,_,rfl,ha2,fun u hu=>?_⟩
    rw[e1,e2,DS l (by omega)]
    have s3:=aA.upd (o:=.lst (((l.drop (i+1)).take n).map V.int)) hu
    have u3:(upd H' u (.lst (((l.drop (i+1)).take n).map V.int))) u=_:=aF
    generalize upd H' u (.lst (((l.drop (i+1)).take n).map V.int))=H3 at s3 u3⊢
    refine⟨(by show 2<=sizeLine;decide),fun T hT=>?_⟩
    have s4:=aA.upd (o:=.tup [V.int p,V.ref u]) hT
    have T4:aW K (upd H3 T (.tup [V.int p,V.ref u])) T [V.int p,V.ref u]:=aW.of aF
    generalize upd H3 T (.tup [V.int p,V.ref u])=H4 at s4 T4⊢
    have s24:=s3.trans s4
    have hd4:=s24 _ _ hd2
    refine⟨d,_,_,rfl,rfl,hd4,(by omega),?_⟩
    refine⟨_,rfl,l.length-(i+1+n),(by omega),i+1+n,f',_,cs1++[[p::(l.drop (i+1)).take n]],cs',some (.int p),some (.int ((i:Int)+1)),some (.int (((i+1:Nat):Int)+(n:Int))),rfl,?_,(by omega),aA.upd2 (s2.trans s24) hd,aF,(by rw[aS];show _+1<=_;omega),?_,by rw[dh];rfl,?_⟩
    ·exact congrArg (fun z=>[some (V.ref a),some (V.ref d),some (V.int z),some (V.int p),some (V.int ((i:Int)+1)),some (V.int (((i+1:Nat):Int)+(n:Int)))]) e2
    ·have hud:u≠d:=fun z=>by rw[z,hd2] at hu;cases hu
     exact Paired.snoc (Paired.mono (fun _ _ z=>(z.same s24).upd hd4) hwp) (iV.upd ⟨T,u,p,_,rfl,T4,s4 _ _ u3,s2.free hu,hud,.inl rfl⟩ hd4)
    ·rw[<-rS];exact ht
   ·have q1:=MFl.Er hs
    refine aU (fun _=>?_) (fun z=>absurd (decide_eq_true q1) z)
    have hil2:i+1<l.length:=by
     refine xO fun z=>?_
     rw[mD (by omega)] at hr'
     cases hr'
    rw[fg hil2] at hr'
    injection hr' with hk1 hr1
    have hp2:l[i+1]? =some (kk:Int):=by rw[bU hil2,hk1]
    subst hr1
    rw[di] at hk
    have e1:(i:Int)+2=((i+2:Nat):Int):=by omega
    have e2:((i+2:Nat):Int)+(kk:Int)=((i+2+kk:Nat):Int):=by omega
    refine⟨_,rfl,_,_,rfl,rfl,?_⟩
    refine⟨_,rfl,_,rfl,_,rfl,_,_,rfl,rfl,a,_,(i:Int)+1,V.int (kk:Int),rfl,rfl,ha2,at_of (j:=i+1) rfl (lat hp2),_,_,rfl,rfl,?_⟩
    refine⟨_,rfl,.inl ⟨rfl,_,aE.of hd2⟩,_,rfl,_,rfl,_,rfl,_,rfl,_,rfl,_,rfl,a,_,rfl,ha2,fun u hu=>?_⟩
    rw[e1,e2,DS l (by omega)]
    have s3:=aA.upd (o:=.lst (((l.drop (i+2)).take kk).map V.int)) hu
    have u3:(upd H' u (.lst (((l.drop (i+2)).take kk).map V.int))) u=_:=aF
    generalize upd H' u (.lst (((l.drop (i+2)).take kk).map V.int))=H3 at s3 u3⊢
    refine⟨(by show 2<=sizeLine;decide),fun T hT=>?_⟩
    have s4:=aA.upd (o:=.tup [V.int p,V.ref u]) hT
    have T4:aW K (upd H3 T (.tup [V.int p,V.ref u])) T [V.int p,V.ref u]:=aW.of aF
    generalize upd H3 T (.tup [V.int p,V.ref u])=H4 at s4 T4⊢
    have s24:=s3.trans s4
    have hd4:=s24 _ _ hd2
    refine⟨d,_,_,rfl,rfl,hd4,(by omega),?_⟩
    refine⟨_,rfl,l.length-(i+2+kk),(by omega),i+2+kk,f',_,cs1++[[[p],(l.drop (i+2)).take kk]],cs',some (.int p),some (.int ((i:Int)+2)),some (.int (((i+2:Nat):Int)+(kk:Int))),rfl,?_,(by omega),aA.upd2 (s2.trans s24) hd,aF,(by rw[aS];show _+1<=_;omega),?_,by rw[dh];rfl,?_⟩
    ·exact congrArg (fun z=>[some (V.ref a),some (V.ref d),some (V.int z),some (V.int p),some (V.int ((i:Int)+2)),some (V.int (((i+2:Nat):Int)+(kk:Int)))]) e2
    ·have hud:u≠d:=fun z=>by rw[z,hd2] at hu;cases hu
     exact Paired.snoc (Paired.mono (fun _ _ z=>(z.same s24).upd hd4) hwp) (iV.upd ⟨T,u,p,_,rfl,T4,s4 _ _ u3,s2.free hu,hud,.inr rfl⟩ hd4)
    ·rw[<-rS];exact ht
  ·have e:¬((i:Int)<(l.length:Int)):=fun z=>e (decide_eq_true z)
   have ei:i=l.length:=by omega
   subst ei
   rw[xk] at hc2
   have:cs2=[]:=by
    cases f<;>exact(bL hc2).symm
   subst this
   rw[d8] at k
   exact⟨_,rfl,k d ws H' s2 hd hd2 hwp⟩
end
open Vanetc (Net pars firstBad switchings)
open MFl (Cl tI behind dW)
def Sm(e:rj):Prop:=∀x,e=.ok x->x.2.length<=60000
theorem jv(k:Nat):Sm (.error k):=fun _ h=>nomatch h
theorem oB{s:Net}{l:List Nat}(h:l.length<=60000):Sm (.ok (s,l)):=fun x e=>by cases e;exact h
theorem gu{b:Bool}{k:Nat}{e:rj}(h:Sm e):Sm (ES b k e):=by
 unfold ES
 split
 ·exact h
 ·exact jv k
theorem DV{A:Type}{o:Option A}{k:Nat}{f:A->rj}(h:∀a,o=some a->Sm (f a)):Sm (EO o k f):=by
 cases o with
 |none=>exact jv k
 |some a=>exact h a rfl
theorem Lj{n:Net}(h:bQ n)(c:fE):Sm (cB n c):=by
 have one:∀{s:Net} {v:Nat},Sm (.ok (s,[v])):=oB (by show 1<=_;decide)
 cases c with
 |set t=>exact DV fun x _=>gu (gu (gu one))
 |form=>
  refine oB ?_
  have:=CV h
  unfold Vanetc.toldText
  rw[aV,aL];omega
 |size=>exact oB (by show 7<=_;decide)
 |test=>
  show Sm (if _ then _ else _)
  split
  ·exact one
  ·exact jv _
 |bad=>
  show Sm (if _ then _ else _)
  split
  ·rename_i hp
   refine DV fun w hw=>oB ?_
   have:=rE (Dh hw)
   have hp:(pars n).length<=10:=hp
   rw[aV,aS,aL]
   show w.length+2+1<=_
   omega
  ·exact jv _
 |draw=>exact one
 |switch l=>exact gu (oB (by show 2<=_;decide))
 |partner i=>exact gu one
 |swap i j=>exact gu (gu one)
 |open_ i=>
  refine gu ?_
  split
  ·exact gu one
  ·exact jv _
 |shut i=>
  show Sm (oY n i)
  unfold oY
  split
  ·exact gu one
  ·exact jv _
 |bare=>
  show Sm (oZ n)
  unfold oZ
  split
  ·exact jv _
  ·exact gu (gu one)
 |turn=>
  show Sm (o5 n)
  unfold o5
  split
  ·exact jv _
  ·exact one
theorem Lk{n:Net}(h:bQ n)(c:fE):(d7 c n).length<=60000:=by
 cases hd:cB n c with
 |error k=>rw[ke hd];show 1<=_;decide
 |ok x=>rw[lX (m:=x.1) (l:=x.2) hd,aL];exact Lj h c x hd
theorem xM(n:Net){c:fE}(h:∀x,cB n c=.ok x->x.1=n):(eI n c).1=n:=by
 unfold eI
 cases hd:cB n c with
 |error k=>rfl
 |ok x=>exact h x hd
theorem Ll(n:Net):(eI n .test).1=n:=xM n fun x e=>by
 have e:(if(pars n).length<=Vanetc.PARS then Except.ok (n,[mF (Vanetc.isNet n)]) else .error 7:rj)=.ok x:=e
 split at e
 ·cases e;rfl
 ·cases e
theorem Lm(n:Net):(eI n .bad).1=n:=xM n fun x e=>by
 have e:Vanetc.doBad n=.ok x:=e
 unfold Vanetc.doBad at e
 split at e
 ·cases hf:firstBad n with
  |none=>rw[hf] at e;cases e
  |some w=>rw[hf] at e;cases e;rfl
 ·cases e
theorem Ln(n:Net)(l:List Int):(eI n (.switch l)).1=n:=xM n fun x e=>by
 have e:Mo n l=.ok x:=e
 unfold Mo ES at e
 split at e
 ·cases e;rfl
 ·cases e
section
variable{P:Program}{w:World}{K:aD}{mg:Str->Option Value}{base:Heap}{C CH:Addr}
theorem d6.but{t h:Addr}{H H':Hp}{s:Net}(x:d6 K CH C H h s)(e:bK t H H')(hi:iy (H t))(hn:∀C' d' f',H t≠some (.ins C' d' f')):d6 K CH C H' h s:=by
 obtain⟨dx,q,h1,h2⟩:=x.ex
 refine⟨dx,q,e _ _ (fun z=>hn _ _ _ (by rw[<-z];exact h1)) h1,e.sAt hi (fun z=>?_) h2⟩
 obtain⟨⟨d2,_,_,_,g1,_⟩,_⟩:=h2
 exact hn _ _ _ (by rw[<-z];exact g1)
theorem aW.upd2{t a:Addr}{H H':Hp}{xs ys:List V}(e:bK t H H')(hi:H t=some (.lst ys))(q:aW K H a xs):aW K H' a xs:=by
 rcases q with(q|⟨ob,q⟩)|q
 ·exact .inl (.inl (e _ _ (dG q hi (by intro z;cases z)) q))
 ·exact .inl (.inr ⟨ob,e _ _ (dG q hi (by intro z;cases z)) q⟩)
 ·exact .inr q
structure Fs (P:Program) (w:World) (K:aD) (mg:Str->Option Value) (base:Heap) (fs:List (Int×Addr)) (p:Int) (k:Nat) (sp:Sp):Prop where
 ex:∃f,fs.lookup p=some f/\FnAt P w K mg base k f sp
structure All (P:Program) (w:World) (K:aD) (mg:Str->Option Value) (base:Heap) (C CH:Addr) (fs:List (Int×Addr)):Prop where
 f0:Fs P w K mg base fs 0 11 (xE K CH C)
 f1:Fs P w K mg base fs 1 6 (iU K CH C .form)
 f2:Fs P w K mg base fs 2 5 (iU K CH C .size)
 f3:Fs P w K mg base fs 3 16 (iU K CH C .test)
 f4:Fs P w K mg base fs 4 16 (iU K CH C .bad)
 f5:Fs P w K mg base fs 5 6 (iU K CH C .draw)
 f6:Fs P w K mg base fs 6 6 (Ca K CH C)
 f7:Fs P w K mg base fs 7 2 (l0 K CH C .partner)
 f8:Fs P w K mg base fs 8 5 (DD K CH C)
 f9:Fs P w K mg base fs 9 4 (l0 K CH C .open_)
 f10:Fs P w K mg base fs 10 4 (l0 K CH C .shut)
 f11:Fs P w K mg base fs 11 4 (rL K CH C .bare)
 f12:Fs P w K mg base fs 12 5 (rL K CH C .turn)
theorem All.call{fs:List (Int×Addr)}(F:All P w K mg base C CH fs){p:Int}{g:List Int}{c:fE}(hc:Cl p g c):∃f sp j,fs.lookup p=some f/\j<=16/\FnAt P w K mg base j f sp/\
  ∀(h r:Addr) (s:Net) (H:Hp) (Q:VK),H r=some (.lst (g.map V.int))->d6 K CH C H h s->Fin K CH C H h s c Q->sp [.ref h,.ref r] H Q E0:=by
 have tell:∀{c:fE},(∀s,(eI s c).1=s)->∀(h r:Addr) (s:Net) (H:Hp) (Q:VK),d6 K CH C H h s->Fin K CH C H h s c Q->iU K CH C c [.ref h,.ref r] H Q E0:=fun hs h r s H Q hh k=>⟨h,_,s,rfl,hh,fun b H' sm hb hb'=>k b H' (bK.of_same sm) hb hb' (by rw[hs];exact hh.same sm)⟩
 cases hc with
 |set t ht=>
  obtain⟨f,h1,h2⟩:=F.f0.ex
  refine⟨f,_,11,h1,by decide,h2,fun h r s H Q hr hh k=>⟨h,r,t,s,rfl,aE.of ?_,by omega,hh,k⟩⟩
  rw[hr]
  unfold tI
  rw[jB];rfl
 |form=>obtain⟨f,h1,h2⟩:=F.f1.ex;exact⟨f,_,6,h1,by decide,h2,fun h r s H Q _=>tell (fun _=>rfl) h r s H Q⟩
 |size=>obtain⟨f,h1,h2⟩:=F.f2.ex;exact⟨f,_,5,h1,by decide,h2,fun h r s H Q _=>tell (fun _=>rfl) h r s H Q⟩
 |test=>obtain⟨f,h1,h2⟩:=F.f3.ex;exact⟨f,_,16,h1,by decide,h2,fun h r s H Q _=>tell Ll h r s H Q⟩
 |bad=>obtain⟨f,h1,h2⟩:=F.f4.ex;exact⟨f,_,16,h1,by decide,h2,fun h r s H Q _=>tell Lm h r s H Q⟩
 |draw=>obtain⟨f,h1,h2⟩:=F.f5.ex;exact⟨f,_,6,h1,by decide,h2,fun h r s H Q _=>tell (fun _=>rfl) h r s H Q⟩
 |switch l hl=>
  obtain⟨f,h1,h2⟩:=F.f6.ex
  exact⟨f,_,6,h1,by decide,h2,fun h r s H Q hr hh k=>⟨h,r,_,s,rfl,aE.of hr,by omega,hh,fun b H' sm hb hb'=>k b H' (bK.of_same sm) hb hb' (by rw[Ln];exact hh.same sm)⟩⟩
 |partner i=>obtain⟨f,h1,h2⟩:=F.f7.ex;exact⟨f,_,2,h1,by decide,h2,fun h r s H Q hr hh k=>⟨h,r,i,s,rfl,aE.of hr,hh,k⟩⟩
 |swap i j=>obtain⟨f,h1,h2⟩:=F.f8.ex;exact⟨f,_,5,h1,by decide,h2,fun h r s H Q hr hh k=>⟨h,r,i,j,s,rfl,aE.of hr,hh,k⟩⟩
 |open_ i=>obtain⟨f,h1,h2⟩:=F.f9.ex;exact⟨f,_,4,h1,by decide,h2,fun h r s H Q hr hh k=>⟨h,r,i,s,rfl,aE.of hr,hh,k⟩⟩
 |shut i=>obtain⟨f,h1,h2⟩:=F.f10.ex;exact⟨f,_,4,h1,by decide,h2,fun h r s H Q hr hh k=>⟨h,r,i,s,rfl,aE.of hr,hh,k⟩⟩
 |bare=>obtain⟨f,h1,h2⟩:=F.f11.ex;exact⟨f,_,4,h1,by decide,h2,fun h r s H Q hr hh k=>⟨h,_,s,rfl,hh,k⟩⟩
 |turn=>obtain⟨f,h1,h2⟩:=F.f12.ex;exact⟨f,_,5,h1,by decide,h2,fun h r s H Q hr hh k=>⟨h,_,s,rfl,hh,k⟩⟩
def xN(K:aD):Sp:=fun vs H Q _=>∃a l,vs=[.ref a]/\aE K H a (l.map V.int)/\l.length<=16000/\Da l=true/\∀b H',H' b=some (.lst ((Dd l).map V.int))->Q (.ref b) H'
theorem DW:aZ ["calls","holder","told","number","given","answerer","answer"] ["calls"] (aQ jm):=fS
theorem Lo{fA:Addr}{fd:FuncData}(D:fV K "answers" "answers" jm fA fd)(hlen:mg "len"=none){fs:List (Int×Addr)}(DA:DK K mg "ANSWERERS" fs)(F:All P w K mg base C CH fs)(C1:aK P w K mg base "new_holder" 12 [] (Ci K CH C))(C2:aK P w K mg base "split_calls" 1 ["calls"] (DT K)):dB P w K mg base eT 17 fA fd ["calls"] (xN K):=by
 refine D.ok DW (fun vs H Q E h=>?_) (fun cdv A outer s H vs Q E hr h=>?_)
 ·obtain⟨_,_,rfl,_⟩:=h
  rfl
 ·obtain⟨a,l,rfl,ha,hl,hask,k⟩:=h
  have nd:=DW.nd
  refine⟨_,aG (aT (i:=1) nd rfl (aJ rfl) (He C1 (hr.mono (show 12<=16 by decide))))
   (aG (aT (i:=2) nd rfl (aJ rfl) (au aC))
   (aG (dy PassesOwn.never rfl (c6 (pc C2 (hr.mono (show 1<=16 by decide)) (aB (pv 0) aC))) (jJ rfl (dv (bN (i:=3) nd rfl (aJ rfl)) (dv (bN (i:=4) nd rfl (aJ rfl)) jI)))
    (aG (aT (i:=5) nd rfl (aJ rfl) (LA DA (pv 3) (fun _ _=>rfl)))
    (aG (aT (i:=6) nd rfl (aJ rfl) (Gy (Ky (i:=5) hr (aB (pv 1) (aB (pv 4) aC)) rfl (aJ rfl))))
    (aG (bV (cG bR cw cy c7 (pv 2) (aB (bD bI (by rfl) hlen bM (aB (pv 6) aC)) aC)))
    (aI (bV (cG bR xm xn uA (pv 2) (aB (pv 6) aC))))))))
   (aI (aN (pv 2))))),?_⟩
  have hsl:=sizeLine_eq
  obtain⟨cs,hcs,h240,hasked,hans⟩:=MFl.Ej hask
  refine⟨rfl,fun h H0 s0 hhn hh=>?_⟩
  refine⟨bF _,fun t ht=>?_⟩
  have s1:=aA.upd (o:=.lst []) ht
  have t1:(upd H0 t (.lst [])) t=some (.lst []):=aF
  generalize upd H0 t (.lst [])=H1 at s1 t1⊢
  refine⟨_,rfl,a,l,cs,rfl,aA.seq (s0.trans s1) ha,hl,hcs,fun d ws H2 s2 hd hd2 hwp=>?_⟩
  have wl:=hwp.length
  have hdt:d≠t:=fun z=>by rw[z,t1] at hd;cases hd
  refine⟨d,rfl,⟨_,aE.of hd2⟩,gY (K:=K) (a:=d) (xs:=ws) (fun i σ H'=>∃x3 x4 x5 x6:Option V,σ=[some (.ref a),some (.ref h),some (.ref t),x3,x4,x5,x6]/\H' t=some (.lst ((dW (cs.take i)).map V.int))/\(dW (cs.take i)).length<=i*60001/\(∀od,d6 K CH C (upd H' t (.frz od (.lst ((dW (cs.take i)).map V.int)))) h (behind gM (cs.take i)))/\H' d=some (.lst ws)/\Paired (iV K H1 d H') ws cs)
   ⟨none,none,none,none,rfl,s2 _ _ t1,bF _,fun od=>hh.same fun b o q=>?_,hd2,hwp⟩ (fun i σ H' _ ⟨_,_,_,_,_,_,_,_,q,_⟩=>aE.of q) ?_ ?_⟩
  ·rw[aP (ae q ht)];exact s2 _ _ (s1 _ _ q)
  ·rintro i y σ H' hi ⟨x3,x4,x5,x6,rfl,ht',htl,hA,hd',hwp'⟩
   obtain⟨c,hc,T,r,p,g,rfl,hT,hr',hr0,hrd,hcs'⟩:=bw hwp' hi
   obtain⟨kc,hk1,hk2⟩:=MFl.Et (hasked c (cv hc)) hcs'
   have hil:=(bC.mp hi).1
   have hrt:r≠t:=fun z=>by rw[z,t1] at hr0;cases hr0
   refine⟨T,_,rfl,hT,rfl,_,_,rfl,_,_,rfl,rfl,?_⟩
   obtain⟨f,sp,j,hf,hj,hfn,hsp⟩:=F.call hk2
   refine⟨_,rfl,p,f,rfl,hf,?_⟩
   refine⟨t,_,ht',trivial,fun od=>⟨f,sp,j,rfl,hj,hfn,_,rfl,_,rfl,?_⟩⟩
   have hA1:=hA od
   have r1:(upd H' t (.frz od (.lst ((dW (cs.take i)).map V.int)))) r=some (.lst (g.map V.int)):=by rw[aP hrt];exact hr'
   have t2:(upd H' t (.frz od (.lst ((dW (cs.take i)).map V.int)))) t=some (.frz od (.lst ((dW (cs.take i)).map V.int))):=aF
   have bt:bK t H' (upd H' t (.frz od (.lst ((dW (cs.take i)).map V.int)))):=bK.upd
   generalize upd H' t (.frz od (.lst ((dW (cs.take i)).map V.int)))=H3 at hA1 r1 t2 bt⊢
   refine hsp h r _ H3 _ r1 hA1 fun b H4 b4 hbn hb hA4=>?_
   obtain⟨dx,q,hh3,hS3⟩:=hA1.ex
   have hth:t≠h:=fun z=>by rw[z,hh3] at t2;cases t2
   have t4:=b4 _ _ hth t2
   have hbt:b≠t:=fun z=>by rw[z,t2] at hbn;cases hbn
   refine⟨t4,?_⟩
   have hl1:=Lk hS3.ok kc
   have estep:=MFl.step_call (s:=behind gM (cs.take i)) hk1
   have etold:dW (cs.take (i+1))=dW (cs.take i)++(((d7 kc (behind gM (cs.take i))).length:Int)::d7 kc (behind gM (cs.take i))):=by
    rw[take_snoc hc,MFl.Eo,estep];rfl
   have ebeh:behind gM (cs.take (i+1))=(eI (behind gM (cs.take i)) kc).1:=by
    rw[take_snoc hc,MFl.Em,estep]
   have hlt:(dW (cs.take (i+1))).length<=(i+1)*60001:=by
    rw[etold,aS,aV];omega
   have hl2:(dW (cs.take (i+1))).length<=14400240:=bW hlt (by omega)
   have b5:(upd H4 t (.lst ((dW (cs.take i)).map V.int))) b=some (.lst ((d7 kc (behind gM (cs.take i))).map V.int)):=by rw[aP hbt];exact hb
   have hsz:(dW (cs.take i)).length+1+(d7 kc (behind gM (cs.take i))).length<=14400240:=by
    rw[etold,aS,aV] at hl2;omega
   refine⟨_,rfl,.inl ⟨rfl,_,aE.of aF⟩,_,rfl,b,_,rfl,.inl (aE.of b5),t,_,_,rfl,rfl,aF,(by rw[aL];omega),?_⟩
   rw[eX,aL]
   refine⟨_,rfl,.inl ⟨rfl,_,aE.of aF⟩,_,rfl,t,b,_,_,rfl,rfl,aF,(by rw[aP hbt];exact hb),(by rw[aS,aL,aL];show _+1+_<=_;omega),?_⟩
   rw[eX]
   have e6:(dW (cs.take i)).map V.int++[V.int ((d7 kc (behind gM (cs.take i))).length:Nat)]++(d7 kc (behind gM (cs.take i))).map V.int=(dW (cs.take (i+1))).map V.int:=by
    rw[etold,bO,bg,dh];rfl
   rw[e6]
   have b6:∀(Y:HO),bK t H4 (upd H4 t Y):=fun Y=>bK.upd
   have o4:iy (H4 t):=by rw[t4];exact⟨fun _ z=>(nomatch z),fun _ z=>(nomatch z),fun _ _ z=>(nomatch z)⟩
   have o3:iy (H3 t):=by rw[t2];exact⟨fun _ z=>(nomatch z),fun _ z=>(nomatch z),fun _ _ z=>(nomatch z)⟩
   have oh:=lY hh3
   have tr:∀{b' o'},b'≠t->b'≠h->H' b'=some o'->(upd H4 t (.lst ((dW (cs.take (i+1))).map V.int))) b'=some o':=fun{b' o'} n1 n2 q=>by rw[aP n1];exact b4 _ _ n2 (bt _ _ n1 q)
   have lh:∀{b' xs},b'≠t->H' b'=some (.lst xs)->b'≠h:=fun{b' xs} n1 q z=>by
    have:=bt _ _ n1 q
    rw[z,hh3] at this
    cases this
   refine⟨_,_,_,_,rfl,aF,hlt,fun od'=>?_,tr hdt (lh hdt hd') hd',Paired.mono (fun v c' z=>?_) hwp'⟩
   ·rw[eX,ebeh]
    exact hA4.but (b6 _) o4 (fun _ _ _ z=>by rw[t4] at z;cases z)
   ·obtain⟨T',r',p',g',e1,e2,e3,e4,e5,e7⟩:=z
    have hr't:r'≠t:=fun z=>by rw[z,t1] at e4;cases e4
    refine⟨T',r',p',g',e1,?_,tr hr't (lh hr't e3) e3,e4,e5,e7⟩
    have q1:aW K H3 T' [.int p',.ref r']:=aW.upd2 bt ht' e2
    exact(b6 _).tup o4 (b4.tup oh q1)
  ·rintro σ H' ⟨x3,x4,x5,x6,rfl,ht',htl,hA,hd',hwp'⟩
   refine⟨_,rfl,k t H' ?_⟩
   rw[ht',wl,cQ,hans];rfl
end
theorem gK{P:Program}{w:World}{K:aD}{mg:Str->Option Value}{base:Heap}{x:Str}{k:Nat}{ps:List Str}{sp:Sp}{f:Addr}{fs:List (Int×Addr)}{p:Int}(C:aK P w K mg base x k ps sp)(h:mg x=some (.ref f))(hl:fs.lookup p=some f):Fs P w K mg base fs p k sp:=by
 obtain⟨g,h1,h2⟩:=C.at
 rw[h] at h1
 cases h1
 exact⟨f,hl,h2⟩
theorem Lp{P:Program}{w:World}{K:aD}{h:Heap}{mg:Str->Option Value}{fa f:Addr}{CR C CG CK CH f0 f1 f2 f3 f4 f5 f6 f7 f8 f9 f10 f11 f12:Addr}{oc:Value}{od an:Option Addr}{osl:Array (Option Value)}{kV doc pm cdv ct:Value}(X:K.In h)(G:h.Ns mainGlobals mg)(hfa:mg "answers"=some (.ref fa))
  (a:mH K mainGlobals "answers"=some (some (.ref f)))(l:K.lookup f=some ⟨oc,od,.func (hU "answers" "answers" (iN jm) (fU jm) (aQ jm) .none kV doc pm an cdv ct),osl⟩)
  (c:mB K cdv "answers"=true)(k:hJ K (.ref f)=true)(T:cY K mg)(T2:fC K mg)(T3:kZ K mg)(T4:fe mg)(T5:Cg mg)(c1:dC mg "MOST_ATOMS" 60)(c2:dC mg "MOST_DEPTH" 40)(hrng:mg "range"=none)(hzip:mg "zip"=none)(RR:RC K CR)(R:SC K C)(RG:GC K CG)(RK:KC K CK)(RH:HC K CH)(DG:DI K mg "GIVEN_NUMBERS" gN)(TW:fY K mg "WITH_ROW" [0,6])(a0:aO K mg "is_atom" uO)(a1:aO K mg "dual_node" uP)(a2:aO K mg "dual" qE)(a3:aO K mg "atoms" qF)(a4:aO K mg "depth" uR)(a5:aO K mg "in_bounds" uS)(a6:aO K mg "in_brackets" uW)(a7:aO K mg "first_written" uU)(a8:aO K mg "second_written" uV)(a9:aO K mg "written" uT)(a10:aO K mg "split_at" ux)(a11:aO K mg "is_digit" uz)(a12:aO K mg "is_small_letter" vC)(a13:aO K mg "stretch_at" vD)(a14:aO K mg "is_name" vE)(a15:aO K mg "token_at" vF)(a16:aO K mg "read_tokens" vG)(a17:bZ K CR "last_unclosed" "FormulaReader.last_unclosed" vI)(a18:bZ K CR "join_last_two" "FormulaReader.join_last_two" vR)(a19:bZ K CR "end_part" "FormulaReader.end_part" vO)(a20:bZ K CR "end_chain" "FormulaReader.end_chain" vP)(a21:bZ K CR "end_formula" "FormulaReader.end_formula" vQ)(a22:bZ K CR "take_chain_sign" "FormulaReader.take_chain_sign" vM)(a23:bZ K CR "take_right" "FormulaReader.take_right" vN)(a24:bZ K CR "take_in_part" "FormulaReader.take_in_part" vK)(a25:bZ K CR "take_behind_part" "FormulaReader.take_behind_part" vL)(a26:bZ K CR "take" "FormulaReader.take" vJ)(a27:bZ K CR "outcome" "FormulaReader.outcome" vS)(j0:lZ K CR "FormulaReader.__init__" vH)(n0:mg "FormulaReader"=some (.ref CR))(a28:aO K mg "read_formula" vT)(a29:aO K mg "read_sequent" nM)(a30:aO K mg "read_number" qO)(a31:aO K mg "read_link" qP)(a32:aO K mg "without_outer_blanks" vU)(a33:aO K mg "read_links" vV)(a34:aO K mg "read_pieces" vW)(a35:aO K mg "nodes_of" uX)(a36:aO K mg "all_formulas" uY)(a37:aO K mg "leaves_of" uZ)(a38:aO K mg "partners_by" qG)(a39:aO K mg "joined_texts" u9)(a40:aO K mg "written_sequent" qI)(a41:aO K mg "written_link" qJ)(j1:lZ K C "Structure.__init__" u0)(n1:mg "Structure"=some (.ref C))(a42:bZ K C "formulas" "Structure.formulas" u7)(a43:bZ K C "links" "Structure.links" qH)(a44:aO K mg "written_structure" qK)(a45:aO K mg "forks" uh)(a46:aO K mg "whole_points" ui)(a47:aO K mg "cut_edges" qM)(a48:aO K mg "link_edges" nJ)(j2:lZ K CG "Graph.__init__" ug)(n2:mg "Graph"=some (.ref CG))(a49:bZ K CG "par_edges" "Graph.par_edges" qL)(a50:aO K mg "graph_of" uj)(j3:lZ K CK "Clusters.__init__" uk)(n3:mg "Clusters"=some (.ref CK))(a51:bZ K CK "leader" "Clusters.leader" um)(a52:bZ K CK "merge" "Clusters.merge" uo)(a53:bZ K CK "merge_all" "Clusters.merge_all" uq)(a54:aO K mg "lone_points" uu)(a55:bZ K CK "another" "Clusters.another" ur)(a56:aO K mg "switched" uv)(a57:aO K mg "first_bad_from" nL)(a58:aO K mg "first_bad" qN)(a59:aO K mg "draws_together" uw)(a60:aO K mg "tell_form" vZ)(a61:aO K mg "tell_size" v5)(a62:aO K mg "tell_test" v7)(a63:aO K mg "tell_draw" v9)(a64:aO K mg "tell_bad" v8)(a65:aO K mg "tell_switch" qR)(a66:aO K mg "set_text" qQ)(j4:lZ K CH "Holder.__init__" vX)(n4:mg "Holder"=some (.ref CH))(a67:aO K mg "new_holder" qS)(a68:aO K mg "two_of" uQ)(a69:aO K mg "has_place" vY)(a70:aO K mg "with_conclusions_at" ua)(a71:aO K mg "with_first_cut_as" ub)(a72:aO K mg "with_partners_exchanged" uc)(a73:aO K mg "leaf_behind_turn" ue)(a74:aO K mg "with_first_as_last" ud)(a75:aO K mg "tell_partner" vc)(a76:aO K mg "swap_partners" ve)(a77:aO K mg "open_par" vf)(a78:aO K mg "shut_two" vg)(a79:aO K mg "bare_cut" vh)(a80:aO K mg "turn_conclusions" vi)(a81:aO K mg "split_calls" vj)(h0:mg "set_text"=some (.ref f0))(h1:mg "tell_form"=some (.ref f1))(h2:mg "tell_size"=some (.ref f2))(h3:mg "tell_test"=some (.ref f3))(h4:mg "tell_bad"=some (.ref f4))(h5:mg "tell_draw"=some (.ref f5))(h6:mg "tell_switch"=some (.ref f6))(h7:mg "tell_partner"=some (.ref f7))(h8:mg "swap_partners"=some (.ref f8))(h9:mg "open_par"=some (.ref f9))(h10:mg "shut_two"=some (.ref f10))(h11:mg "bare_cut"=some (.ref f11))(h12:mg "turn_conclusions"=some (.ref f12))(DA:DK K mg "ANSWERERS" [(0,f0),(1,f1),(2,f2),(3,f3),(4,f4),(5,f5),(6,f6),(7,f7),(8,f8),(9,f9),(10,f10),(11,f11),(12,f12)]):
  ∃fd:FuncData,(∀(s:Shared) (us:List Value),us.length=(["calls"]:List Str).length->BindsTo s fd ⟨us,[]⟩ ((["calls"]:List Str).zip us))/\∀base:Heap,K.In base->base.Ns mainGlobals mg->dB P w K mg base eT 17 fa fd ["calls"] (xN K):=by
 have e:=hfa.symm.trans (cz X G a)
 cases e
 refine⟨hU "answers" "answers" (iN jm) (fU jm) (aQ jm) .none kV doc pm an cdv ct,fun s us hu=>match us,hu with|[_],_=>.of_eq rfl,fun base _ _=>?_⟩
 have b0:=Ho (P:=P) (w:=w) (mg:=mg) (base:=base) a0 T
 have b1:=Hr (P:=P) (w:=w) (mg:=mg) (base:=base) a1 T
 have b2:=Hs (P:=P) (w:=w) (mg:=mg) (base:=base) a2 b1
 have b3:=Ht (P:=P) (w:=w) (mg:=mg) (base:=base) a3 b0
 have b4:=Hu (P:=P) (w:=w) (mg:=mg) (base:=base) a4 T b0
 have b5:=Hw (P:=P) (w:=w) (mg:=mg) (base:=base) a5 T.len c1 c2 b3 b4
 have b6:=Hy (P:=P) (w:=w) (mg:=mg) (base:=base) a6 T
 have b7:=IB (P:=P) (w:=w) (mg:=mg) (base:=base) a7 b0 b6
 have b8:=IC (P:=P) (w:=w) (mg:=mg) (base:=base) a8 b0 b6
 have b9:=ID (P:=P) (w:=w) (mg:=mg) (base:=base) a9 T b0 b7 b8
 have b10:=IF (P:=P) (w:=w) (mg:=mg) (base:=base) a10
 have b11:=IJ (P:=P) (w:=w) (mg:=mg) (base:=base) a11
 have b12:=IK (P:=P) (w:=w) (mg:=mg) (base:=base) a12
 have b13:=IL (P:=P) (w:=w) (mg:=mg) (base:=base) a13 T2 b11 b12
 have b14:=IP (P:=P) (w:=w) (mg:=mg) (base:=base) a14 T2 b12
 have b15:=IU (P:=P) (w:=w) (mg:=mg) (base:=base) a15 T2 b13 b14
 have b16:=IV (P:=P) (w:=w) (mg:=mg) (base:=base) a16 T2 b15
 have m0:=fun Nw=>IX (P:=P) (w:=w) (mg:=mg) (base:=base) (Nw:=Nw) a17 RR
 have m1:=fun Nw=>IY (P:=P) (w:=w) (mg:=mg) (base:=base) (Nw:=Nw) a18 RR T T2 b2
 have m2:=fun Nw=>Ic (P:=P) (w:=w) (mg:=mg) (base:=base) (Nw:=Nw) a19 RR T b2 (m0 Nw)
 have m3:=fun Nw=>Ih (P:=P) (w:=w) (mg:=mg) (base:=base) (Nw:=Nw) a20 RR T (m0 Nw) (m1 Nw)
 have m4:=fun Nw=>Ii (P:=P) (w:=w) (mg:=mg) (base:=base) (Nw:=Nw) a21 RR T T2 (m0 Nw) (m1 Nw)
 have m5:=fun Nw=>Im (P:=P) (w:=w) (mg:=mg) (base:=base) (Nw:=Nw) a22 RR T (m0 Nw)
 have m6:=fun Nw=>Ip (P:=P) (w:=w) (mg:=mg) (base:=base) (Nw:=Nw) a23 RR T (m0 Nw) (m4 Nw) (m2 Nw)
 have m7:=fun Nw=>Iv (P:=P) (w:=w) (mg:=mg) (base:=base) (Nw:=Nw) a24 RR T b14 (m2 Nw)
 have m8:=fun Nw=>Iy (P:=P) (w:=w) (mg:=mg) (base:=base) (Nw:=Nw) a25 RR T T2 (m5 Nw) (m3 Nw) (m6 Nw)
 have m9:=fun Nw=>Iz (P:=P) (w:=w) (mg:=mg) (base:=base) (Nw:=Nw) a26 RR T2 (m7 Nw) (m8 Nw)
 have m10:=fun Nw=>JB (P:=P) (w:=w) (mg:=mg) (base:=base) (Nw:=Nw) a27 RR (m4 Nw)
 have g0:eE P w K mg base "FormulaReader" CR 1 ["self"] (wM CR):=by
  obtain⟨f,fd,m,F⟩:=j0
  exact⟨n0,f,fd,m,F.binds fun _ _ _ _ _ _ us hl=>match us,hl with|[_],_=>rfl,JD F RR⟩
 have b17:=JE (P:=P) (w:=w) (mg:=mg) (base:=base) a28 RR T2 b16 g0 m9 m10
 have b18:=JH (P:=P) (w:=w) (mg:=mg) (base:=base) a29 T2 b10 b17
 have b19:=JJ (P:=P) (w:=w) (mg:=mg) (base:=base) a30 T2 b11
 have b20:=JK (P:=P) (w:=w) (mg:=mg) (base:=base) a31 T2 b10 b19
 have b21:=JL (P:=P) (w:=w) (mg:=mg) (base:=base) a32 T2
 have b22:=JO (P:=P) (w:=w) (mg:=mg) (base:=base) a33 T2 b21 b10 b20
 have b23:=JR (P:=P) (w:=w) (mg:=mg) (base:=base) a34 T2 b10 b18 b22
 have b24:=JS (P:=P) (w:=w) (mg:=mg) (base:=base) a35
 have b25:=JT (P:=P) (w:=w) (mg:=mg) (base:=base) a36 T b2
 have b26:=JV (P:=P) (w:=w) (mg:=mg) (base:=base) a37 b3 b24
 have b27:=JX (P:=P) (w:=w) (mg:=mg) (base:=base) a38 T.len b1
 have b28:=JZ (P:=P) (w:=w) (mg:=mg) (base:=base) a39 T3.en
 have b29:=J1 (P:=P) (w:=w) (mg:=mg) (base:=base) a40 T3 b9 b28
 have b30:=J2 (P:=P) (w:=w) (mg:=mg) (base:=base) a41 T3
 have g1:eE P w K mg base "Structure" C 1 ["self","conclusions","cuts","partners"] (js C):=by
  obtain⟨f,fd,m,F⟩:=j1
  exact⟨n1,f,fd,m,F.binds fun _ _ _ _ _ _ us hl=>match us,hl with|[_,_,_,_],_=>rfl,J4 F R⟩
 have b31:=J6 (P:=P) (w:=w) (mg:=mg) (base:=base) a42 R b25
 have b32:=J7 (P:=P) (w:=w) (mg:=mg) (base:=base) a43 R T3
 have b33:=J8 (P:=P) (w:=w) (mg:=mg) (base:=base) a44 R T3 b29 b30 b28 b32
 have b34:=Ja (P:=P) (w:=w) (mg:=mg) (base:=base) a45 T.len hrng b0
 have b35:=Jd (P:=P) (w:=w) (mg:=mg) (base:=base) a46 T.len
 have b36:=Je (P:=P) (w:=w) (mg:=mg) (base:=base) a47 R T.len hrng b35
 have b37:=Jf (P:=P) (w:=w) (mg:=mg) (base:=base) a48 R T3 b0 b32
 have g2:eE P w K mg base "Graph" CG 1 ["self","points","edges","pars"] (wm CG):=by
  obtain⟨f,fd,m,F⟩:=j2
  exact⟨n2,f,fd,m,F.binds fun _ _ _ _ _ _ us hl=>match us,hl with|[_,_,_,_],_=>rfl,Jj F RG⟩
 have b38:=Jk (P:=P) (w:=w) (mg:=mg) (base:=base) a49 RG hzip
 have b39:=Jl (P:=P) (w:=w) (mg:=mg) (base:=base) a50 R T b24 b37 b36 b34 b31 g2
 have g3:eE P w K mg base "Clusters" CK 1 ["self","leads","parts"] (qt CK):=by
  obtain⟨f,fd,m,F⟩:=j3
  exact⟨n3,f,fd,m,F.binds fun _ _ _ _ _ _ us hl=>match us,hl with|[_,_,_],_=>rfl,Jn F RK⟩
 have b40:=Jo (P:=P) (w:=w) (mg:=mg) (base:=base) a51 RK
 have b41:=Jp (P:=P) (w:=w) (mg:=mg) (base:=base) a52 RK b40
 have b42:=Jq (P:=P) (w:=w) (mg:=mg) (base:=base) a53 RK b41
 have b43:=Ju (P:=P) (w:=w) (mg:=mg) (base:=base) a54 T hrng g3
 have b44:=Jw (P:=P) (w:=w) (mg:=mg) (base:=base) a55 T RK g3
 have b45:=Jx (P:=P) (w:=w) (mg:=mg) (base:=base) a56 RG RK b43 b42 b38
 have b46:=Bv (P:=P) (w:=w) (mg:=mg) (base:=base) a57 RK T b44 b41
 have b47:=KF (P:=P) (w:=w) (mg:=mg) (base:=base) a58 RG RK b43 b42 b46
 have b48:=KG (P:=P) (w:=w) (mg:=mg) (base:=base) a59 RG RK T b43 b42 b40 b41
 have b49:=K5 (P:=P) (w:=w) (mg:=mg) (base:=base) a60 RH T4 b33
 have b50:=K6 (P:=P) (w:=w) (mg:=mg) (base:=base) a61 RH R T b24 b31 b32
 have b51:=K8 (P:=P) (w:=w) (mg:=mg) (base:=base) a62 RH RG T4 b39 b47
 have b52:=Kb (P:=P) (w:=w) (mg:=mg) (base:=base) a63 RH b39 b48
 have b53:=Kf (P:=P) (w:=w) (mg:=mg) (base:=base) a64 RH RG T4 b39 b47 b45
 have b54:=Ki (P:=P) (w:=w) (mg:=mg) (base:=base) a65 RH RG T4 b39 b45
 have b55:=Kq (P:=P) (w:=w) (mg:=mg) (base:=base) a66 RH R T4 b23 b5 b25 b26 b27 g1
 have g4:eE P w K mg base "Holder" CH 3 ["self"] (xG K CH C):=by
  obtain⟨f,fd,m,F⟩:=j4
  exact⟨n4,f,fd,m,F.binds fun _ _ _ _ _ _ us hl=>match us,hl with|[_],_=>rfl,Kv F RH g1⟩
 have b56:=Kw (P:=P) (w:=w) (mg:=mg) (base:=base) a67 T5 b55 g4
 have b57:=LP (P:=P) (w:=w) (mg:=mg) (base:=base) a68 b0
 have b58:=LR (P:=P) (w:=w) (mg:=mg) (base:=base) a69 T4
 have b59:=LS (P:=P) (w:=w) (mg:=mg) (base:=base) a70 R g1
 have b60:=LW (P:=P) (w:=w) (mg:=mg) (base:=base) a71 R g1
 have b61:=LX (P:=P) (w:=w) (mg:=mg) (base:=base) a72 R T g1
 have b62:=L5 (P:=P) (w:=w) (mg:=mg) (base:=base) a73
 have b63:=L6 (P:=P) (w:=w) (mg:=mg) (base:=base) a74 R T T3 b3 b26 b62 g1
 have b64:=L8 (P:=P) (w:=w) (mg:=mg) (base:=base) a75 RH R T4 b58
 have b65:=L9 (P:=P) (w:=w) (mg:=mg) (base:=base) a76 RH R T4 b58 b26 b31 b61
 have b66:=La (P:=P) (w:=w) (mg:=mg) (base:=base) a77 RH R T T4 T2.mforms b58 b57 b59
 have b67:=Lc (P:=P) (w:=w) (mg:=mg) (base:=base) a78 RH R T T4 b58 b5 b59
 have b68:=Le (P:=P) (w:=w) (mg:=mg) (base:=base) a79 RH R T T4 T2.mforms b2 b5 b60
 have b69:=Lf (P:=P) (w:=w) (mg:=mg) (base:=base) a80 RH R T4 b3 b63
 have b70:=Li (P:=P) (w:=w) (mg:=mg) (base:=base) a81 T4 DG TW
 have F:All P w K mg base C CH [(0,f0),(1,f1),(2,f2),(3,f3),(4,f4),(5,f5),(6,f6),(7,f7),(8,f8),(9,f9),(10,f10),(11,f11),(12,f12)]:=⟨gK b55 h0 rfl,gK b49 h1 rfl,gK b50 h2 rfl,gK b51 h3 rfl,gK b53 h4 rfl,gK b52 h5 rfl,gK b54 h6 rfl,gK b64 h7 rfl,gK b65 h8 rfl,gK b66 h9 rfl,gK b67 h10 rfl,gK b68 h11 rfl,gK b69 h12 rfl⟩
 exact Lo (pb l c k) T.len DA F b56 b70
end Dt
open PySem PySem.W PyProof.Rows
set_option maxRecDepth 100000 in
set_option maxHeartbeats 0 in
theorem PySem.Challenge.cw_drawntogether_s01_answers_holds : PySem.Challenge.rw_drawntogether_s01_answers.Holds := by
  w_on; k_headS; (case hw => exact ⟨[.list [.int 1]], by decide +kernel, by decide +kernel⟩)
  k_fillS
  refine L2.Hd (r := PySem.Challenge.rw_drawntogether_s01_answers) (k := 17) (CX := L2.eT) (ps := ["calls"]) (sp := Dt.xN) (by decide +kernel) rfl rfl ⟨rfl, by decide, by decide⟩ (fun w h Y => PySem.W.kIn_of Y) ?F ?S (fun _ _ _ _ z => z)
  case F =>
    intro w mg fa h Y KX G hmg
    refine' Dt.Lp KX G hmg ?pa ?pl ?pc ?pk ⟨?_, ?_, ?_, ?_, ?_, ?_, ?_, ?_, ?_⟩ ⟨?_, ?_, ?_, ?_, ?_, ?_, ?_, ?_, ?_, ?_, ?_, ?_, ?_, ?_⟩ ⟨?_, ?_, ?_, ?_, ?_, ?_⟩ ⟨?_, ?_, ?_, ?_, ?_, ?_, ?_, ?_, ?_, ?_⟩ ⟨?_, ?_⟩ ?_ ?_ ?_ ?_ ⟨⟨?_, ?_, ?_, ?_⟩, ?_, ?_, ?_⟩ ⟨⟨?_, ?_, ?_, ?_⟩, ?_, ?_, ?_⟩ ⟨⟨?_, ?_, ?_, ?_⟩, ?_, ?_, ?_⟩ ⟨⟨?_, ?_, ?_, ?_⟩, ?_, ?_⟩ ⟨⟨?_, ?_, ?_, ?_⟩, ?_⟩ ?_ ?_ ?_ ?_ ?_ ?_ ?_ ?_ ?_ ?_ ?_ ?_ ?_ ?_ ?_ ?_ ?_ ?_ ?_ ?_ ?_ ?_ ?_ ?_ ?_ ?_ ?_ ?_ ?_ ?_ ?_ ?n_FormulaReader ?_ ?_ ?_ ?_ ?_ ?_ ?_ ?_ ?_ ?_ ?_ ?_ ?_ ?_ ?_ ?n_Structure ?_ ?_ ?_ ?_ ?_ ?_ ?_ ?_ ?n_Graph ?_ ?_ ?_ ?n_Clusters ?_ ?_ ?_ ?_ ?_ ?_ ?_ ?_ ?_ ?_ ?_ ?_ ?_ ?_ ?_ ?_ ?_ ?n_Holder ?_ ?_ ?_ ?_ ?_ ?_ ?_ ?_ ?_ ?_ ?_ ?_ ?_ ?_ ?_ ?h0 ?h1 ?h2 ?h3 ?h4 ?h5 ?h6 ?h7 ?h8 ?h9 ?h10 ?h11 ?h12 ?_
    (case pa => k_is); (case pl => k_is); (case pc => k_is); (case pk => k_is)
    (case n_FormulaReader => refine' cz KX G ?p1; case p1 => k_is); (case n_Structure => refine' cz KX G ?p1; case p1 => k_is); (case n_Graph => refine' cz KX G ?p1; case p1 => k_is); (case n_Clusters => refine' cz KX G ?p1; case p1 => k_is); (case n_Holder => refine' cz KX G ?p1; case p1 => k_is); (case h0 => refine' cz KX G ?p1; case p1 => k_is); (case h1 => refine' cz KX G ?p1; case p1 => k_is); (case h2 => refine' cz KX G ?p1; case p1 => k_is); (case h3 => refine' cz KX G ?p1; case p1 => k_is); (case h4 => refine' cz KX G ?p1; case p1 => k_is); (case h5 => refine' cz KX G ?p1; case p1 => k_is); (case h6 => refine' cz KX G ?p1; case p1 => k_is); (case h7 => refine' cz KX G ?p1; case p1 => k_is); (case h8 => refine' cz KX G ?p1; case p1 => k_is); (case h9 => refine' cz KX G ?p1; case p1 => k_is); (case h10 => refine' cz KX G ?p1; case p1 => k_is); (case h11 => refine' cz KX G ?p1; case p1 => k_is); (case h12 => refine' cz KX G ?p1; case p1 => k_is)
    all_goals first
      | k_is
      | (refine' Dt.LF KX G ?p1 ?p2 ?p3 ?p4; (case p1 => k_is); (case p2 => k_is); (case p3 => k_is); (case p4 => k_is))
      | (refine' Dt.LG ?p1 ?p2 ?p3 ?p4 ?p5; (case p1 => k_is); (case p2 => k_is); (case p3 => k_is); (case p4 => k_is); (case p5 => k_is))
      | (refine PySem.W.mg_none_of KX G ?p1; (case p1 => k_is))
      | (refine' cz KX G ?p1; (case p1 => k_is))
      | (show iX _ _ _ = _; k_is)
      | (refine' Dt.LJ KX G ?p1; (case p1 => k_is))
      | (refine' Dt.LK KX G ?p1; (case p1 => k_is))
      | (refine' Dt.LI KX G ?p1 ?p2 ?p3 ?p4; (case p1 => k_is); (case p2 => k_is); (case p3 => decide); (case p4 => rfl))
      | (refine' Dt.LH ?p1 ?p2 ?p3 ?p4 ?p5 ?p6 ?p7; (case p1 => k_is); (case p2 => k_is); (case p3 => k_is); (case p4 => k_is); (case p5 => k_is); (case p6 => k_is); (case p7 => k_is))
      | (refine' Dt.LM KX G ?p1 ?p2 ?p3 ?p4 ?p5; (case p1 => k_is); (case p2 => k_is); (case p3 => rfl); (case p4 => decide); (case p5 => decide))
      | (refine' Dt.LL KX G ?p1 ?p2 ?p3 ?p4; (case p1 => k_is); (case p2 => k_is); (case p3 => rfl); (case p4 => decide))
  case S =>
    intro K H xs a hO hwi hask hx
    cases hx with
    | cons h1 h2 =>
      cases h2
      cases h1 with
      | lst hs ha =>
        have e := L2.AB a.1 _ ha
        subst e
        have q : ((Codec.inLen 0 16000 a.1 && a.1.all (Codec.inInt (-1000000000000000000) 1000000000000000000)) && true) = true := hwi
        rw [ag, ag] at q
        exact ⟨_, a.1, rfl, hs, (Codec.inNat_iff.mp q.1.1).2, hask, fun p H' hp => .lst (L2.aE.of hp) (L2.AA _)⟩

