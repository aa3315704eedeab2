import PyProof.Rows.All
import Wide.All
import OpenK.AllK
import Wide.FinOn
import Lean
import PyProof.EqAt
import PyProof.EqKinds
import PyProof.TupleCall
import PyProof.NeKinds
import PyProof.Rows.StrLen
import PyProof.AutoIntG2
import PyProof.FactsAll.int_6
import PyProof.Rows.BootFacts.P1
import PyProof.ReprRoads
import PyProof.ListRange
import PyProof.TupleOfSeq
import PyProof.EnumMake
import PyProof.StrWalks
import PyProof.Rows.Range3
import PyProof.Rows.SetFrom
import KE.KIntText
import PyProof.FString
import PyProof.StrCalls2
import PyProof.StrOps2
import PyProof.SliceStr2
import PyProof.StrBlockI
import PyProof.StrBlockL
import PyProof.StrLaws
import OpenK.KOwn
import KE.KTryMore
import PyProof.ExcAttrAll.ValueError
import PyProof.NsDelKeeps
import KE.KRevIter
import PyProof.DictRoadsH
import PyProof.ListMulRoad
import PyProof.ExcInit
import PyProof.InstStoreFacts
import PyProof.AssignAttr
import PySem.SetOps
import PyProof.SetScanFacts
import PyProof.TupleKey
import PyProof.SetKind
import PyProof.IsRules
import PyProof.FactsAll.set
import PyProof.CollectIter
import PyProof.CollectWalk
import PyProof.WalksMore
import PyProof.Rows.FactsT3
import PyProof.DictWalks
import KE.KDictList
import KE.KDictSum
import KE.KSortKey
import PySem.Challenge.RW_unlikeplace_k43_catalogues_told
set_option compiler.extract_closed false
set_option tactic.hygienic false
noncomputable abbrev zaa:=@PySem.wpAny_bind
noncomputable abbrev zab:=@PySem.wpAny_pure
noncomputable abbrev zac:=@PySem.Heap.get?_push_of_some
noncomputable abbrev zad:=@if_neg
noncomputable abbrev zae:=@List.getElem?_eq_getElem
noncomputable abbrev zaf:=@if_pos
noncomputable abbrev zag:=@List.getD_eq_getElem?_getD
noncomputable abbrev zah:=@List.map_cons
noncomputable abbrev zai:=@PyProof.Rows.wpS_bind
noncomputable abbrev zaj:=@Nat.le_refl
noncomputable abbrev zak:=@Bool.false_eq_true
noncomputable abbrev zal:=@List.mem_map
noncomputable abbrev zam:=@List.getElem?_map
noncomputable abbrev zan:=@PySem.Heap.get?_push_size
noncomputable abbrev zao:=@List.size_toArray
noncomputable abbrev zap:=@PyProof.Rows.wpS_pure
noncomputable abbrev zaq:=@PySem.Heap.lt_size
noncomputable abbrev zar:=@List.mem_cons_of_mem
noncomputable abbrev zas:=@Option.map_eq_some_iff
noncomputable abbrev zat:=@Bool.false_ne_true
noncomputable abbrev zau:=@List.mem_cons_self
noncomputable abbrev zav:=@List.getElem?_eq_some_iff
noncomputable abbrev zaw:=@List.length_append
noncomputable abbrev zax:=@Bool.and_eq_true
noncomputable abbrev zay:=@List.mem_cons
noncomputable abbrev zaz:=@List.mem_of_getElem?
noncomputable abbrev zaA:=@List.length_map
noncomputable abbrev zaB:=@List.all_eq_true
noncomputable abbrev zaC:=@List.mem_append_right
noncomputable abbrev zaD:=@Nat.lt_of_lt_of_le
noncomputable abbrev zaE:=@List.getElem_mem
noncomputable abbrev zaF:=@Nat.ne_of_lt
noncomputable abbrev zaG:=@PySem.F.plainAttrs_list
noncomputable abbrev zaH:=@Option.some.injEq
noncomputable abbrev zaI:=@PySem.wpAny_load
noncomputable abbrev zaJ:=@List.length_cons
noncomputable abbrev zaK:=@decide_eq_false
noncomputable abbrev zaL:=@List.mem_append
noncomputable abbrev zaM:=@List.append_nil
noncomputable abbrev zaN:=@Nat.le_trans
noncomputable abbrev zaO:=@List.map_map
noncomputable abbrev zaP:=@if_false
noncomputable abbrev zaQ:=@List.map_append
noncomputable abbrev zaR:=@List.find?_cons
noncomputable abbrev zaS:=@PySem.call_meets
noncomputable abbrev zaT:=@List.mem_singleton
noncomputable abbrev zaU:=@Array.getD_eq_getD_getElem?
noncomputable abbrev zaV:=@Function.comp_apply
noncomputable abbrev zaW:=@Nat.pow_le_pow_right
noncomputable abbrev zaX:=@if_true
noncomputable abbrev zaY:=@Array.length_toList
noncomputable abbrev zaZ:=@decide_eq_true_eq
noncomputable abbrev zba:=@Int.toNat_natCast
noncomputable abbrev zbb:=@PySem.Paired.length
noncomputable abbrev zbc:=@List.length_singleton
noncomputable abbrev zbd:=@Nat.le_of_lt
noncomputable abbrev zbe:=@PySem.F.slot_dict_eq_refl
noncomputable abbrev zbf:=@PySem.F.slot_dict_ne_refl
noncomputable abbrev zbg:=@PySem.PassesOwn.never
noncomputable abbrev zbh:=@List.length_take
noncomputable abbrev zbi:=@PySem.wpAny_mono
noncomputable abbrev zbj:=@Option.some.inj
noncomputable abbrev zbk:=@List.mem_range
noncomputable abbrev zbl:=@Bool.not_true
noncomputable abbrev zbm:=@PyProof.Rows.slot_tuple_getitem
noncomputable abbrev zbn:=@List.mem_append_left
noncomputable abbrev zbo:=@List.getElem?_append_left
noncomputable abbrev zbp:=@Nat.lt_of_le_of_lt
noncomputable abbrev zbq:=@decide_eq_true
noncomputable abbrev zbr:=@PySem.wpAny_seqItems
noncomputable abbrev zbs:=@PySem.wpAny_holding
noncomputable abbrev zbt:=@PySem.wpAny_call_entry
noncomputable abbrev zbu:=@PyProof.Rows.wpS_forRange
noncomputable abbrev zbv:=@PySem.wpAny_newObj_type
noncomputable abbrev zbw:=@List.length_eq_zero_iff
noncomputable abbrev zbx:=@PySem.wpAny_callSpecial?_slot
noncomputable abbrev zby:=@Nat.lt_irrefl
noncomputable abbrev zbz:=@List.any_cons
noncomputable abbrev zbA:=@PySem.W.mg_none_of
noncomputable abbrev zbB:=@Array.getElem?_eq_none
noncomputable abbrev zbC:=@List.take_length
noncomputable abbrev zbD:=@List.cons_append
noncomputable abbrev zbE:=@PySem.wpAny_forIn_list
noncomputable abbrev zbF:=@PySem.wpAny_rule
noncomputable abbrev zbG:=@PySem.isSubtype_type
noncomputable abbrev zbH:=@PySem.wpAny_field
noncomputable abbrev zbI:=@PySem.F.slot_list_append
noncomputable abbrev zbJ:=@Ne.symm
noncomputable abbrev zbK:=@PySem.W.mg_of
noncomputable abbrev zbL:=@Nat.zero_le
noncomputable abbrev zbM:=@List.append_assoc
noncomputable abbrev zbN:=@Array.getElem?_eq_getElem
noncomputable abbrev zbO:=@List.pairwise_iff_getElem
noncomputable abbrev zbP:=@PySem.Heap.get?_update_self
noncomputable abbrev zbQ:=@List.map_nil
noncomputable abbrev zbR:=@Array.forIn_toList
noncomputable abbrev zbS:=@PySem.F.type_list_append
noncomputable abbrev zbT:=@PySem.F.slot_list_pop
noncomputable abbrev zbU:=@List.take_succ
noncomputable abbrev zbV:=@PySem.wpAny_truthy_bool
noncomputable abbrev zbW:=@PyProof.Rows.wpS_mono
noncomputable abbrev zbX:=@Decidable.not_not
noncomputable abbrev zbY:=@PySem.wpAny_dictEntries
noncomputable abbrev zbZ:=@List.nodup_cons
noncomputable abbrev zca:=@PySem.wpAny_specialOf
noncomputable abbrev zcb:=@List.cons.injEq
noncomputable abbrev zcc:=@Option.map_some
noncomputable abbrev zcd:=@PySem.mem_of_lookup
noncomputable abbrev zce:=@List.length_reverse
noncomputable abbrev zcf:=@List.getElem_of_mem
noncomputable abbrev zcg:=@PySem.Heap.SameBut.update
noncomputable abbrev zch:=@PySem.SeqAt.rc_eq_decline_or
noncomputable abbrev zci:=@PySem.SeqAt.rc_ne_decline_or
noncomputable abbrev zcj:=@List.getElem?_append_right
noncomputable abbrev zck:=@List.lookup_cons
noncomputable abbrev zcl:=@Array.getElem?_toList
noncomputable abbrev zcm:=@PySem.Heap.size_push
noncomputable abbrev zcn:=@PySem.F.type_list_pop
noncomputable abbrev zco:=@PySem.wpAny_of_eq
noncomputable abbrev zcp:=@List.nil_append
noncomputable abbrev zcq:=@PySem.Obj.data_mapDictKeys
noncomputable abbrev zcr:=@List.reverse_cons
noncomputable abbrev zcs:=@List.replicate_succ
noncomputable abbrev zct:=@Option.getD_some
noncomputable abbrev zcu:=@List.getElem_map
noncomputable abbrev zcv:=@PySem.F.slot_tuple_eq
noncomputable abbrev zcw:=@List.drop_eq_nil_of_le
noncomputable abbrev zcx:=@PyProof.Rows.callWith_type1
noncomputable abbrev zcy:=@PySem.wpAny_setField_rec
noncomputable abbrev zcz:=@Nat.add_zero
noncomputable abbrev zcA:=@PySem.wpAny_passesOwn
noncomputable abbrev zcB:=@congrArg
noncomputable abbrev zcC:=@PySem.wpAny_standAt
noncomputable abbrev zcD:=@PySem.F.slot_tuple_iterator_next
noncomputable abbrev zcE:=@Nat.add_assoc
noncomputable abbrev zcF:=@List.flatten_cons
noncomputable abbrev zcG:=@List.length_range
noncomputable abbrev zcH:=@List.nodup_append
noncomputable abbrev zcI:=@PySem.F.slot_tuple_hash
noncomputable abbrev zcJ:=@List.getElem?_set_ne
noncomputable abbrev zcK:=@List.pairwise_append
noncomputable abbrev zcL:=@Option.isNone_iff_eq_none
noncomputable abbrev zcM:=@PySem.W.kia_one
noncomputable abbrev zcN:=@Option.isSome_iff_exists
noncomputable abbrev zcO:=@List.length_drop
noncomputable abbrev zcP:=@PySem.F.args_dict_eq_2
noncomputable abbrev zcQ:=@PySem.F.args_dict_ne_2
noncomputable abbrev zcR:=@PySem.wpAny_isInstance
noncomputable abbrev zcS:=@List.drop_length
noncomputable abbrev zcT:=@List.filterMap_cons
noncomputable abbrev zcU:=@List.map_congr_left
noncomputable abbrev zcV:=@PySem.Obj.isFreed_of_dict
noncomputable abbrev zcW:=@List.getElem?_cons_zero
noncomputable abbrev zcX:=@Bool.false_or
noncomputable abbrev zcY:=@PySem.wpAny_Call_Name_kw
noncomputable abbrev zcZ:=@PySem.F.entry_dict_eq
noncomputable abbrev zda:=@PySem.F.entry_dict_ne
noncomputable abbrev zdb:=@PySem.wpAny_typeNameOfWhole_keyiter
noncomputable abbrev zdc:=@Nat.lt_succ_of_lt
noncomputable abbrev zdd:=@of_decide_eq_true
noncomputable abbrev zde:=@List.drop_reverse
noncomputable abbrev zdf:=@Nat.ne_of_gt
noncomputable abbrev zdg:=@PySem.wpAny_typeOf
noncomputable abbrev zdh:=@List.perm_append_comm
noncomputable abbrev zdi:=@List.take_zero
noncomputable abbrev zdj:=@List.take_append_drop
noncomputable abbrev zdk:=@PySem.F.slot_dict_keyiterator_next
noncomputable abbrev zdm:=@List.mem_flatMap
noncomputable abbrev zdn:=@List.getElem_zipWith
noncomputable abbrev zdo:=@List.ext_getElem
noncomputable abbrev zdp:=@decide_true
noncomputable abbrev zdq:=@beq_eq_false_iff_ne
noncomputable abbrev zdr:=@List.mem_filter
noncomputable abbrev zds:=@List.of_mem_zip
noncomputable abbrev zdt:=@List.length_nil
noncomputable abbrev zdu:=@PySem.F.slot_dict_getitem
noncomputable abbrev zdv:=@PySem.pushCells_keeps
noncomputable abbrev zdw:=@List.getElem?_zip_eq_some
noncomputable abbrev zdx:=@List.drop_eq_getElem_cons
noncomputable abbrev zdy:=@PySem.F.args_tuple_add_2
noncomputable abbrev zdz:=@List.zip_cons_cons
noncomputable abbrev zdB:=@Nat.sub_self
noncomputable abbrev zdD:=@Int.zero_add
noncomputable abbrev zdG:=@Bool.not_false
noncomputable abbrev zdH:=@PySem.F.entry_tuple_add
noncomputable abbrev zdI:=@Int.eq_ofNat_of_zero_le
noncomputable abbrev zdJ:=@List.getElem?_cons_succ
noncomputable abbrev zdL:=@List.flatMap_cons
noncomputable abbrev zdM:=@Sum.inr.inj
noncomputable section
set_option Elab.async false
set_option linter.all false
set_option maxRecDepth 100000
namespace L2
open PySem PySem.Spec PyProof.Rows
noncomputable abbrev Key:=Sum Int Str
noncomputable def hU:Key->Value->Bool
 |.inl k,v=>Value.isInt k v
 |.inr x,v=>Value.isStrOf x v
noncomputable def Ki(w:World):Key->Int
 |.inl k=>hashInt k
 |.inr x=>hashStr w x
theorem bp:∀ {k:Key} {v:Value},hU k v=true->(∃i t,k=Sum.inl i/\v=Value.int i t)\/(∃x t,k=Sum.inr x/\v=Value.str x t)
 |.inl i,v,h=>by
  obtain⟨t,e⟩:=Value.isInt_shape (k:=i) (v:=v) h;exact .inl ⟨i,t,rfl,e⟩
 |.inr x,v,h=>by
  obtain⟨t,e⟩:=Value.isStrOf_shape (x:=x) (v:=v) h;exact .inr ⟨x,t,rfl,e⟩
theorem zf(i:Int)(t:Tok):hU (.inl i) (.int i t)=true:=by simp[hU,Value.isInt]
theorem pW(x:Str)(t:Tok):hU (.inr x) (.str x t)=true:=by simp[hU,Value.isStrOf]
theorem Hu(a b:Int):decide ((Sum.inl a:Key)=Sum.inl b)=(a == b):=by
 by_cases e:a=b
 ·subst e;simp
 ·have h:¬ (Sum.inl a:Key)=Sum.inl b:=fun q=>e (Sum.inl.inj q)
  rw[zaK h];exact(zdq.mpr e).symm
theorem GB(a b:Str):decide ((Sum.inr a:Key)=Sum.inr b)=decide (a=b):=by
 by_cases e:a=b
 ·subst e;simp
 ·have h:¬ (Sum.inr a:Key)=Sum.inr b:=fun q=>e (zdM q)
  rw[zaK h,zaK e]
theorem F8(a:Int)(b:Str):decide ((Sum.inl a:Key)=Sum.inr b)=false:=zaK (fun q=>nomatch q)
theorem GZ(a:Str)(b:Int):decide ((Sum.inr a:Key)=Sum.inl b)=false:=zaK (fun q=>nomatch q)
noncomputable def aY(prog:Program)(w:World):PySem.KeyKind prog w Key where
 is:=hU
 hash:=Ki w
 inj:=fun v a b ha hb=>by
  rcases bp ha with⟨i,t,rfl,rfl⟩|⟨x,t,rfl,rfl⟩
  ·rcases bp hb with⟨j,u,rfl,e⟩|⟨y,u,rfl,e⟩
   ·injection e with e1 _;rw[e1]
   ·exact nomatch e
  ·rcases bp hb with⟨j,u,rfl,e⟩|⟨y,u,rfl,e⟩
   ·exact nomatch e
   ·injection e with e1 _;rw[e1]
 byValue:=fun k v h=>by
  rcases bp h with⟨i,t,rfl,rfl⟩|⟨x,t,rfl,rfl⟩<;>rfl
 pyHash:=fun hv h=>by
  rcases bp hv with⟨i,t,rfl,rfl⟩|⟨x,t,rfl,rfl⟩
  ·exact wpAny_pyHash_int h
  ·exact wpAny_pyHash_str h
 eqBool:=fun hu hv h=>by
  rcases bp hu with⟨i,t,rfl,rfl⟩|⟨x,t,rfl,rfl⟩
  ·rcases bp hv with⟨j,u,rfl,rfl⟩|⟨y,u,rfl,rfl⟩
   ·rw[Hu] at h;exact wpAny_eqBool_int h
   ·rw[F8] at h;exact SeqAt.EqAt.int_str i t y u _ _ _ _ h
  ·rcases bp hv with⟨j,u,rfl,rfl⟩|⟨y,u,rfl,rfl⟩
   ·rw[GZ] at h;exact SeqAt.EqAt.str_int x t j u _ _ _ _ h
   ·rw[GB] at h;exact wpAny_eqBool_str h
 «strs»:=fun k x t v h=>by
  rcases bp h with⟨i,u,rfl,e⟩|⟨y,u,rfl,e⟩
  ·exact nomatch e
  ·injection e with e1 _
   subst e1;cases v<;>rfl
theorem wA(prog:Program)(w:World)(k:Key)(v:Value):(aY prog w).is k v=hU k v:=rfl
theorem tj(prog:Program)(w:World)(i:Int)(t:Tok):(aY prog w).is (.inl i) (.int i t)=true:=zf i t
theorem gK(prog:Program)(w:World)(x:Str)(t:Tok):(aY prog w).is (.inr x) (.str x t)=true:=pW x t
inductive V where
 |non|bl (b:Bool)|int (i:Int)|str (x:Str)|byt (b:Array UInt8)|flt (b:UInt64)|ref (a:Addr)|ty (n:String)
 deriving DecidableEq
noncomputable def aB:V->Value->Prop
 |.non,u=>u=Value.none
 |.bl b,u=>u=Value.bool b
 |.int i,u=>∃t,u=Value.int i t
 |.str x,u=>∃t,u=Value.str x t
 |.byt b,u=>∃t,u=Value.bytes b t
 |.flt b,u=>∃t,u=Value.float b t
 |.ref a,u=>u=Value.ref a
 |.ty n,u=>u=Value.type n
noncomputable abbrev ay:List V->List Value->Prop:=Paired aB
theorem ay.length{xs:List V}{us:List Value}(r:ay xs us):xs.length=us.length:=zbb r
theorem ay.get:∀ {xs:List V} {us:List Value} {i:Nat} {x:V},ay xs us->xs[i]?=some x->∃u,us[i]?=some u/\aB x u
 |_,_,_,_,.nil,e=>by simp at e
 |_,_,0,_,.cons r _,e=>by simp at e;subst e;exact⟨_,rfl,r⟩
 |_,_,i+1,x,.cons _ t,e=>by
  obtain⟨u,h1,h2⟩:=ay.get (i:=i) (x:=x) t (by simpa using e)
  exact⟨u,by simpa using h1,h2⟩
theorem ay.append:∀ {xs ys:List V} {us ws:List Value},ay xs us->ay ys ws->ay (xs++ys) (us++ws)
 |_,_,_,_,.nil,s=>s
 |_,_,_,_,.cons r t,s=>.cons r (ay.append t s)
theorem ay.take:∀ {xs:List V} {us:List Value} (n:Nat),ay xs us->ay (xs.take n) (us.take n)
 |_,_,0,_=>.nil
 |_,_,_+1,.nil=>.nil
 |_,_,n+1,.cons r t=>.cons r (ay.take n t)
theorem ay.drop:∀ {xs:List V} {us:List Value} (n:Nat),ay xs us->ay (xs.drop n) (us.drop n)
 |_,_,0,r=>r
 |_,_,_+1,.nil=>.nil
 |_,_,n+1,.cons _ t=>ay.drop n t
section
variable{p:List Value->Prop}{us:List Value}
theorem JV(h:p []):∀us,us.length=0->p us:=fun us e=>zbw.mp e ▸ h
theorem Gy(h:∀a,p [a]):∀us,us.length=1->p us:=fun us e=>by cases us with|nil=>cases e|cons a r=>exact JV (p:=fun r=>p (a::r)) (h a) r (Nat.succ.inj e)
theorem Ih(h:∀a b,p [a,b]):∀us,us.length=2->p us:=fun us e=>by cases us with|nil=>cases e|cons a r=>exact Gy (p:=fun r=>p (a::r)) (h a) r (Nat.succ.inj e)
theorem Hb(h:∀a b c,p [a,b,c]):∀us,us.length=3->p us:=fun us e=>by cases us with|nil=>cases e|cons a r=>exact Ih (p:=fun r=>p (a::r)) (h a) r (Nat.succ.inj e)
theorem J7(h:∀a b c d,p [a,b,c,d]):∀us,us.length=4->p us:=fun us e=>by cases us with|nil=>cases e|cons a r=>exact Hb (p:=fun r=>p (a::r)) (h a) r (Nat.succ.inj e)
end
noncomputable def i7:Option V->Option Value->Prop
 |some v,some u=>aB v u
 |none,none=>True
 |_,_=>False
noncomputable def KV{κ:Type}:List (κ×V)->List (κ×Value)->Prop:=Paired fun(p:κ×V) (q:κ×Value)=>p.1=q.1/\aB p.2 q.2
noncomputable def kV:Key->V
 |.inl i=>.int i
 |.inr x=>.str x
inductive HO where
 |lst (xs:List V)
 |tup (xs:List V)
 |dK (kvs:List (Key×V))|dT (kvs:List (List Key×V))
 |set (S:Int->Bool) (n:Nat)
 |ins (C dx:Addr) (fs:List (Str×V))
 |own (x:Addr)
 |xd (fs:List (Str×V))
 |met (f x:Addr)
 |rng (lo hi:Int)
 |frz (o:Obj) (u:HO)
 |tbl (ps:Array Value)
 |ext (φ:Heap->Prop)
noncomputable abbrev Hp:=Addr->Option HO
noncomputable def upd(H:Hp)(a:Addr)(o:HO):Hp:=fun b=>if b=a then some o else H b
theorem aN{H:Hp}{a:Addr}{o:HO}:upd H a o a=some o:=by unfold upd;rw[zaf rfl]
theorem ah{H:Hp}{a b:Addr}{o:HO}(h:b≠a):upd H a o b=H b:=by unfold upd;rw[zad h]
theorem wG{H:Hp}{a:Addr}{o u:HO}:upd (upd H a o) a u=upd H a u:=by
 funext b;unfold upd;split<;>rfl
theorem HW{H:Hp}{a b:Addr}{o u:HO}(h:H a=some o)(h':H b=some u)(d:o≠u):a≠b:=by
 intro e;subst e;rw[h] at h';exact d (zbj h')
theorem av{H:Hp}{a b:Addr}{o:HO}(h:H a=some o)(h':H b=none):a≠b:=by
 intro e;subst e;rw[h] at h';cases h'
noncomputable def sf(h:Heap)(a:Addr)(items:Array Value):Prop:=IsTup h a items/\∃o,h.get? a=some o/\o.dict=none
theorem sf.lt{h:Heap}{a:Addr}{items:Array Value}(x:sf h a items):a<h.objs.size:=x.1.lt
theorem sf.new(h:Heap)(items:Array Value):sf (h.push { cls:=.type "tuple",data:=.seq items }) h.objs.size items:=⟨IsTup.new h items,_,zan _ rfl,rfl⟩
noncomputable def xw(H:Hp)(a:Addr)(ps qs:Array Value):Prop:=TriplesOk qs.toList/\∀(pos:Pos)(cv:Value),codeAmong pos qs.toList=some cv ->
 ∃(c:Addr)(o:Obj)(vs:Array Value)(t:Tok)(q:Str),cv=.ref c/\H c=some (.frz o (.own a))/\o.data=.fields vs/\vs[1]?=some (.str q t)/\ps[0]?=some (.str q 0)
theorem xw.mono{H H':Hp}{a:Addr}{ps qs:Array Value}(x:xw H a ps qs)(k:∀b o u,H b=some (.frz o u)->H' b=some (.frz o u)):xw H' a ps qs:=
 ⟨x.1,fun pos cv e=>let ⟨c,o,vs,t,q,e1,e2,r⟩:=x.2 pos cv e;⟨c,o,vs,t,q,e1,k _ _ _ e2,r⟩⟩
section
variable(P:Program)(w:World)
noncomputable def bb(H:Hp)(h:Heap)(a:Addr):HO->Prop
 |.lst xs=>xs.length<=sizeLine/\∃(its:List Value)(n:Nat),ay xs its/\h.get? a=some { cls:=.type "list",data:=.seq its.toArray n }
 |.tup xs=>xs.length<=sizeLine/\∃its:List Value,ay xs its/\sf h a its.toArray
 |.dK kvs=>kvs.length<=sizeLine/\(a == sysModules)=false/\∃vs,KV kvs vs/\h.DictOf (aY P w) a vs
 |.dT kvs=>kvs.length<=sizeLine/\(a == sysModules)=false/\∃xs:List (List Key×Addr×Value),
   Paired (fun(p:List Key×V) (q:List Key×Addr×Value)=>p.1=q.1/\H q.2.1=some (.tup (p.1.map kV))/\aB p.2 q.2.2) kvs xs /\
   ∃o es ep,h.get? a=some o/\o.ExactDict/\o.data=.dict es ep/\es.toList=xs.map (entryOfKey (tupleKind (aY P w)))/\(xs.map (·.1)).Nodup
 |.set S n=>h.SetOf (intKind P w) a S n
 |.ins C dx fs=>H dx=some (.own a)/\fs.length<=1000/\dx≠a/\h.get? a=some (W.instObj C dx) /\
   ∃mA,h.Ns1 dx mA/\(∀f,i7 (fs.lookup f) (mA f))/\PySem.Within mA (fs.map (·.1))
 |.own _=>∃o,h.get? a=some o
 |.xd fs=>∃mA,h.Ns1 a mA/\∀f,i7 (fs.lookup f) (mA f)
 |.rng lo hi=>∃t u v,h.get? a=some { cls:=.type "range",data:=.fields #[.int lo t,.int hi u,.int 1 v] }
 |.frz o u=>h.get? a=some o/\bb H h a u
 |.tbl ps=>∃qs:Array Value,h.get? a=some { cls:=.none,data:=.fields qs }/\xw H a ps qs
 |.met f x=>h.get? a=some (W.methodObj (.ref f) (.ref x))
 |.ext φ=>φ h/\(∃o,h.get? a=some o)/\∀h1 h2:Heap,φ h1->(∀o,h1.get? a=some o->h2.get? a=some o)->φ h2
noncomputable def HOk(H:Hp)(h:Heap):Prop:=∀a o,H a=some o->bb P w H h a o
end
section
variable{P:Program}{w:World}{H H':Hp}{h h':Heap}{a:Addr}{o:HO}
theorem bb.lt(x:bb P w H h a o):a<h.objs.size:=by
 cases o with
 |lst xs=>obtain⟨_,_,_,_,e⟩:=x;exact zaq e
 |tup xs=>obtain⟨_,_,_,p⟩:=x;exact p.lt
 |dK kvs=>obtain⟨_,_,_,_,o,_,_,e,_⟩:=x;exact zaq e
 |dT kvs=>obtain⟨_,_,_,_,o,_,_,e,_⟩:=x;exact zaq e
 |set S n=>obtain⟨o,_,_,_,e,_⟩:=x;exact zaq e
 |ins C dx fs=>obtain⟨_,_,_,e,_⟩:=x;exact zaq e
 |own y=>obtain⟨_,e⟩:=x;exact zaq e
 |xd fs=>obtain⟨_,⟨_,_,_,e,_⟩,_⟩:=x;exact zaq e
 |rng lo hi=>obtain⟨_,_,_,e⟩:=x;exact zaq e
 |frz ob u=>obtain⟨e,_⟩:=x;exact zaq e
 |tbl ps=>obtain⟨qs,e,_⟩:=x;exact zaq e
 |met f y=>exact zaq (show h.get? a=some _ from x)
 |ext φ=>obtain⟨_,⟨_,e⟩,_⟩:=x;exact zaq e
theorem Paired.Lc{α β:Type}{F G:α->β->Prop}:∀ {l₁:List α} {l₂:List β},Paired F l₁ l₂->(∀a b,F a b->G a b)->Paired G l₁ l₂
 |_,_,.nil,_=>.nil
 |_,_,.cons r t,f=>.cons (f _ _ r) (Paired.Lc t f)
theorem bb.stay(x:bb P w H h a o)(k:∀b u,(b=a\/H b=some (.own a))->h.get? b=some u->h'.get? b=some u)(ho:∀b,H b=some (.own a)->H' b=some (.own a))(ht:∀b xs,H b=some (.tup xs)->H' b=some (.tup xs))(hf:∀b o u,H b=some (.frz o u)->H' b=some (.frz o u)):bb P w H' h' a o:=by
 induction o with
 |lst xs=>obtain⟨z,its,n,r,e⟩:=x;exact⟨z,its,n,r,k _ _ (.inl rfl) e⟩
 |tup xs=>obtain⟨z,its,r,⟨ob,e,c⟩,ob',e',c'⟩:=x;exact⟨z,its,r,⟨ob,k _ _ (.inl rfl) e,c⟩,ob',k _ _ (.inl rfl) e',c'⟩
 |dK kvs=>obtain⟨z,y,vs,r,ob,es,ep,e,c⟩:=x;exact⟨z,y,vs,r,ob,es,ep,k _ _ (.inl rfl) e,c⟩
 |dT kvs=>
  obtain⟨z,y,xs,r,ob,es,ep,e,c⟩:=x;exact⟨z,y,xs,Paired.Lc r fun p q z=>⟨z.1,ht _ _ z.2.1,z.2.2⟩,ob,es,ep,k _ _ (.inl rfl) e,c⟩
 |set S n=>obtain⟨ob,es,ep,t,e,c⟩:=x;exact⟨ob,es,ep,t,k _ _ (.inl rfl) e,c⟩
 |ins C dx fs=>
  obtain⟨d,z,ne,e,mA,⟨od,es,ep,e2,c⟩,r⟩:=x;exact⟨ho _ d,z,ne,k _ _ (.inl rfl) e,mA,⟨od,es,ep,k _ _ (.inr d) e2,c⟩,r⟩
 |own y=>obtain⟨ob,e⟩:=x;exact⟨ob,k _ _ (.inl rfl) e⟩
 |xd fs=>obtain⟨mA,⟨od,es,ep,e,c⟩,r⟩:=x;exact⟨mA,⟨od,es,ep,k _ _ (.inl rfl) e,c⟩,r⟩
 |rng lo hi=>obtain⟨t,u,v,e⟩:=x;exact⟨t,u,v,k _ _ (.inl rfl) e⟩
 |frz ob u ih=>obtain⟨e,q⟩:=x;exact⟨k _ _ (.inl rfl) e,ih q⟩
 |tbl ps=>obtain⟨qs,e,z⟩:=x;exact⟨qs,k a _ (.inl rfl) e,z.mono hf⟩
 |met f y=>
  have e:h.get? a=some (W.methodObj (.ref f) (.ref y)):=x;show h'.get? a=some (W.methodObj (.ref f) (.ref y));exact k a _ (.inl rfl) e
 |ext φ=>obtain⟨p,⟨o,e⟩,st⟩:=x;exact⟨st _ _ p fun o q=>k _ _ (.inl rfl) q,⟨o,k _ _ (.inl rfl) e⟩,st⟩
theorem HOk.lt(x:HOk P w H h)(e:H a=some o):a<h.objs.size:=(x a o e).lt
theorem HOk.fresh(x:HOk P w H h)(e:h.objs.size<=a):H a=none:=by
 cases q:H a with
 |none=>rfl
 |some u=>exact absurd (zaD (x.lt q) e) (zby _)
theorem HOk.kept(x:HOk P w H h)(k:∀b u,h.get? b=some u->h'.get? b=some u):HOk P w H h':=fun a o e=>
 (x a o e).stay (fun b u _ q=>k b u q) (fun _ q=>q) (fun _ _ q=>q) fun _ _ _ q=>q
theorem HOk.laid(x:HOk P w H h)(k:∀b u,h.get? b=some u->h'.get? b=some u)(hp:h.objs.size<=a)(new:bb P w (upd H a o) h' a o):HOk P w (upd H a o) h':=fun b u e=>by
 have hn:=x.fresh hp;by_cases hb:b=a
 ·subst hb;rw[aN] at e;cases e;exact new
 ·rw[ah hb] at e
  exact(x b u e).stay (fun c v _ q=>k c v q) (fun c q=>by rw[ah (av q hn)];exact q) (fun c xs q=>by rw[ah (av q hn)];exact q) fun c o' u' q=>by rw[ah (av q hn)];exact q
end
noncomputable def Rd(H:Hp)(a:Addr)(u:HO):Prop:=H a=some u\/∃o,H a=some (.frz o u)
theorem Rd.ok{P:Program}{w:World}{H:Hp}{h:Heap}{a:Addr}{u:HO}(r:Rd H a u)(x:HOk P w H h):bb P w H h a u:=by
 rcases r with r|⟨o,r⟩
 ·exact x a u r
 ·obtain⟨_,q⟩:=x a _ r
  exact q
noncomputable def Mut:Option HO->Prop
 |some (.lst _)=>True
 |some (.dK _)=>True
 |some (.dT _)=>True
 |some (.set _ _)=>True
 |some (.ins _ _ _)=>True
 |some (.ext _)=>True
 |_=>False
section
variable{P:Program}{w:World}{H:Hp}{h h':Heap}{x e:Addr}{o':HO}
theorem HOk.write(ok:HOk P w H h)(mu:Mut (H x))(he:e=x\/H e=some (.own x))(k:∀b u,b≠e->h.get? b=some u->h'.get? b=some u)(heo:∃u,h'.get? e=some u)(new:bb P w (upd H x o') h' x o'):HOk P w (upd H x o') h':=fun b u q=>by
 have nown:∀c y,H c=some (.own y)->c≠x:=fun c y r z=>by subst z;rw[r] at mu;exact mu
 have ntup:∀c xs,H c=some (.tup xs)->c≠x:=fun c xs r z=>by subst z;rw[r] at mu;exact mu
 by_cases hb:b=x
 ·subst hb;rw[aN] at q;cases q;exact new
 ·rw[ah hb] at q
  by_cases hbe:b=e
  ·have q':H b=some (.own x):=by
    rcases he with z|z
    ·exact absurd (hbe.trans z) hb
    ·rw[hbe];exact z
   rw[q] at q';cases q';obtain⟨v,hv⟩:=heo;exact⟨v,by rw[hbe];exact hv⟩
  ·refine(ok b u q).stay (fun c v hc r=>k c v ?_ r) (fun c r=>by rw[ah (nown c b r)];exact r) (fun c xs r=>by rw[ah (ntup c xs r)];exact r) fun c o' u' r=>by rw[ah (fun z=>by subst z;rw[r] at mu;exact mu)];exact r
   rcases hc with rfl|hc
   ·exact hbe
   ·rintro rfl
    rcases he with z|z
    ·exact nown c b hc z
    ·rw[hc] at z;cases z;exact hb rfl
end
structure Un(fs ex:List Addr)(H H':Hp)(h h':Heap):Prop where
 keep:∀b o,h.get? b=some o->H b=none->b ∉ fs->b ∉ ex->h'.get? b=some o
 slot:∀b o,h.get? b=some o->H b=none->b∈fs->b ∉ ex->∃sl,h'.get? b=some { o with slots:=sl }
 free:∀b o,h.get? b=some o->H b=none->b ∉ ex->H' b=none
 there:∀b o,h.get? b=some o->b ∉ ex->∃o',h'.get? b=some o'
 tups:∀b xs,H b=some (.tup xs)->H' b=some (.tup xs)
 frzs:∀b o u,H b=some (.frz o u)->H' b=some (.frz o u)
 tbls:∀b ps,H b=some (.tbl ps)->∃more,H' b=some (.tbl (ps++more))
section
variable{fs fs' ex ex':List Addr}{H H1 H2:Hp}{h h1 h2 h':Heap}{a x e:Addr}{o:HO}
theorem Un.any(u:Un fs ex H H1 h h1){b:Addr}{ob:Obj}(q:h.get? b=some ob)(n:H b=none)(hx:b ∉ ex):∃sl,h1.get? b=some { ob with slots:=sl }:=by
 by_cases hb:b∈fs
 ·exact u.slot b ob q n hb hx
 ·exact⟨ob.slots,u.keep b ob q n hb hx⟩
theorem Un.kept(k:∀b u,h.get? b=some u->h'.get? b=some u):Un fs ex H H h h':=
 ⟨fun b ob q _ _ _=>k b ob q,fun b ob q _ _ _=>⟨ob.slots,k b ob q⟩,fun _ _ _ n _=>n,fun b ob q _=>⟨ob,k b ob q⟩,fun _ _ q=>q,fun _ _ _ q=>q,fun _ ps q=>⟨#[],by rw[q];simp⟩⟩
theorem Un.refl:Un fs ex H H h h:=Un.kept fun _ _ q=>q
theorem Un.laid(k:∀b u,h.get? b=some u->h'.get? b=some u)(hp:h.objs.size<=a)(hn:H a=none):Un fs ex H (upd H a o) h h' where
 keep:=fun b u q _ _ _=>k b u q
 slot:=fun b u q _ _ _=>⟨u.slots,k b u q⟩
 free:=fun b u q n _=>by rw[ah (zaF (zaD (zaq q) hp))];exact n
 there:=fun b u q _=>⟨u,k b u q⟩
 tups:=fun b xs q=>by rw[ah (av q hn)];exact q
 frzs:=fun b u xs q=>by rw[ah (av q hn)];exact q
 tbls:=fun b ps q=>⟨#[],by rw[ah (av q hn),q];simp⟩
theorem Un.write(mu:Mut (H x))(he:e=x\/H e=some (.own x))(k:∀b u,b≠e->h.get? b=some u->h'.get? b=some u)(heo:∃u,h'.get? e=some u):Un fs ex H (upd H x o) h h':=by
 have hx:∀b,H b=none->b≠x:=fun b n z=>by subst z;rw[n] at mu;exact mu
 have hb:∀b,H b=none->b≠e:=fun b n z=>by
  subst z;rcases he with r|r
  ·exact hx b n r
  ·rw[n] at r;cases r
 have hm:∀b u,H b=some u->¬ Mut (some u)->b≠x:=fun b u q nm z=>by subst z;rw[q] at mu;exact nm mu
 refine⟨fun b u q n _ _=>k b u (hb b n) q,fun b u q n _ _=>⟨u.slots,k b u (hb b n) q⟩,fun b u q n _=>by rw[ah (hx b n)];exact n,fun b u q _=>?_,
  fun b xs q=>by rw[ah (hm b _ q fun z=>z)];exact q,fun b u xs q=>by rw[ah (hm b _ q fun z=>z)];exact q,fun b ps q=>⟨#[],by rw[ah (hm b _ q fun z=>z),q];simp⟩⟩
 by_cases hbe:b=e
 ·subst hbe;exact heo
 ·exact⟨u,k b u hbe q⟩
end
noncomputable def trk(h:Heap)(H:Hp):List Addr:=(List.range h.objs.size).filter fun a=>(H a).isSome
noncomputable def qX(h:Heap)(H:Hp):Heap:=W.hideAll h (trk h H)
theorem zr(h:Heap)(H:Hp):(qX h H).objs.size=h.objs.size:=W.hideAll_size _ _
theorem CI{h:Heap}{H:Hp}{b:Addr}{o:Obj}(e:h.get? b=some o)(n:H b=none):(qX h H).get? b=some o:=
 W.hideAll_get _ e fun hm=>by
  have q:(H b).isSome=true:=(zdr.mp hm).2;rw[n] at q;simp at q
theorem DP{h:Heap}{H:Hp}{b:Addr}{o:Obj}(e:(qX h H).get? b=some o):h.get? b=some o/\H b=none:=by
 have e':h.get? b=some o:=W.of_hideAll (trk h H) e;refine⟨e',?_⟩
 cases q:H b with
 |none=>rfl
 |some x=>
  have hm:b∈trk h H:=zdr.mpr ⟨zbk.mpr (zaq e'),by simp[q]⟩
  have z:(qX h H).get? b=none:=W.hideAll_none (trk h H) hm;rw[z] at e;cases e
noncomputable def DR(g h:Heap)(L:Addr):List (Addr×Obj):=(List.range h.objs.size).filterMap fun a=>if a=L\/(g.get? a).isSome=true then none else (h.get? a).map fun o=>(a,o)
noncomputable def aJ(g h:Heap)(L d:Addr):List (Addr×Obj):=(DR g h L).filter fun p=>decide (p.1≠d)
noncomputable def iY(K:W.Frag):List (Str×Addr×Addr):=match K.lookup mainGlobals with
 |some ⟨_,_,.dict es _,_⟩=>es.toList.filterMap fun e=>match e.key with
  |.str x _=>(W.tabIn K x).map fun q=>(x,q)
  |_=>none
 |_=>[]
noncomputable def yQ(K:W.Frag)(H:Hp):Prop:=∀q∈iY K,∃ps,H q.2.2=some (.tbl ps)/\ps[0]?=some (.str (q.1 ++ ".<locals>." ++ "<lambda>") 0)
theorem yQ.mono{K:W.Frag}{H H':Hp}(x:yQ K H)(k:∀b ps,H b=some (.tbl ps)->∃more,H' b=some (.tbl (ps++more))):yQ K H':=fun q hq=>by
 obtain⟨ps,e,z⟩:=x q hq;obtain⟨more,e'⟩:=k _ _ e;refine⟨_,e',?_⟩
 have hz:0<ps.size:=by
  rcases Nat.eq_zero_or_pos ps.size with h|h
  ·rw[zbB (by omega)] at z;cases z
  ·exact h
 rw[Array.getElem?_append_left hz];exact z
structure Mod(K:W.Frag)(mg:Str->Option Value)(base:Heap):Prop where
 kin:K.In base
 glob:base.Ns mainGlobals mg
 blt:∃mb,base.Ns builtinsNs mb/\∀x:Str,x≠"__name__"->mb x=bootBuiltins x
 nolimit:base.NoLimit
 bm:∃bm ob,mg "__builtins__"=some (.ref bm)/\bm≠builtinsNs/\base.get? bm=some ob/\ob.cls=.type "module"/\ob.dict=some builtinsNs/\ob.data=.plain
structure Cx where
 prog:Program
 w:World
 K:W.Frag
 mg:Str->Option Value
 base:Heap
 A:Around
 N:List Str
 s₀:Shared
 H₀:Hp
 env:Env
 outer:List Env
 stack:List Env
 ex:List Addr
 fn:Str->Bool
 calm:Bool
 pn:List (Addr×Obj)
 xe:Value->Shared->Prop
noncomputable def frs(l:List Env):List Addr:=l.filterMap (·.frame)
noncomputable abbrev Cx.fs(X:Cx):List Addr:=frs X.outer
noncomputable def Vis(sc:Scope)(x:Str):Prop:=sc.names.lookup x=some .local\/sc.names.lookup x=some .cell\/sc.names.lookup x=some .free
noncomputable def Loc(sc:Scope)(x:Str):Prop:=sc.names.lookup x=some .local\/sc.names.lookup x=some .cell
noncomputable def Kc(env:Env)(h:Heap)(m:Str->Option Value)(x:Str)(u:Value):Prop:=
 (env.kindOf x=some .local/\m x=some u)\/((env.kindOf x=some .cell\/env.kindOf x=some .free)/\∃c,env.cells.lookup x=some c/\h.IsCell c (some u))
structure Cx.Ok(X:Cx):Prop where
 mod:Mod X.K X.mg X.base
 kind:X.env.scope.kind=.function
 glob:X.env.globals=mainGlobals
 blt:X.env.builtins=builtinsNs
 above:X.s₀.heap.objs.size<=X.env.locals
 inj:∀x y c,X.env.cells.lookup x=some c->X.env.cells.lookup y=some c->x=y
 has:∀x,(X.env.kindOf x=some .cell\/X.env.kindOf x=some .free)->∃c,X.env.cells.lookup x=some c
 cab:∀x c,X.fn x=true->X.env.cells.lookup x=some c->X.s₀.heap.objs.size<=c
 hd:X.calm=true->X.A.handled=none
 frames:X.A.frames=some X.stack
 stk:X.stack=X.outer\/(X.stack=X.env::X.outer/\X.env.frame=some X.env.locals)
 exf:∀b∈X.ex,b≠X.env.locals/\∀x c,X.env.cells.lookup x=some c->c≠b
 bs:∀b o,X.base.get? b=some o->X.s₀.heap.get? b=some o/\X.H₀ b=none
 bsz:X.base.objs.size<=X.s₀.heap.objs.size
 noex:∀b o,X.base.get? b=some o->b ∉ X.ex
 exfs:∀b∈X.ex,b ∉ X.fs
 funs:X.s₀.heap.FunFrames X.base X.outer
 frf:∀b∈X.fs,X.H₀ b=none
 tt:yQ X.K X.H₀
structure Inv(X:Cx)(pins:List (Addr×Obj))(σ:List (Option V))(H:Hp)(s:Shared):Prop where
 ok:X.Ok
 os:s.os=X.s₀.os
 bare:AllBare s.gens
 base:Un X.fs X.ex X.H₀ H X.s₀.heap s.heap
 loc:∃m,s.heap.Ns X.env.locals m/\∀(i:Nat)(x:Str)(v:V),X.N[i]?=some x->σ[i]?=some (some v)->Vis X.env.scope x->∃u,aB v u/\Kc X.env s.heap m x u
 cell:∀x c,X.env.cells.lookup x=some c->∃v,s.heap.IsCell c v
 free:H X.env.locals=none
 freeC:∀x c,X.env.cells.lookup x=some c->H c=none
 pin:∀p∈X.pn++pins,s.heap.get? p.1=some p.2/\H p.1=none/\p.1≠X.env.locals/\p.1 ∉ X.fs/\∀v,p.2.data≠.cell v
 hok:HOk X.prog X.w H s.heap
 len:σ.length=X.N.length
section
variable{X:Cx}{pins:List (Addr×Obj)}{σ:List (Option V)}{H H':Hp}{s:Shared}{h':Heap}
theorem Cx.Ok.nofr(ok:X.Ok){b:Addr}{o:Obj}(e:X.base.get? b=some o):b ∉ X.fs:=fun hb=>by
 have:=(ok.funs.mem hb).1;rw[e] at this;cases this
theorem Inv.bs(I:Inv X pins σ H s):∀b o,X.base.get? b=some o->s.heap.get? b=some o/\H b=none:=fun b o e=>
 ⟨I.base.keep b o (I.ok.bs b o e).1 (I.ok.bs b o e).2 (I.ok.nofr e) (I.ok.noex b o e),I.base.free b o (I.ok.bs b o e).1 (I.ok.bs b o e).2 (I.ok.noex b o e)⟩
theorem Inv.bk(I:Inv X pins σ H s):∀b o,X.base.get? b=some o->s.heap.get? b=some o:=fun b o e=>(I.bs b o e).1
theorem Inv.mod(I:Inv X pins σ H s):Mod X.K X.mg X.base:=I.ok.mod
theorem Inv.kIn(I:Inv X pins σ H s):X.K.In s.heap:=I.ok.mod.kin.keeps I.bk
theorem Inv.lt(I:Inv X pins σ H s):X.env.locals<s.heap.objs.size:=let ⟨_,hn,_⟩:=I.loc;hn.lt
theorem Inv.sz(I:Inv X pins σ H s):X.s₀.heap.objs.size<=s.heap.objs.size:=zaN I.ok.above (zbd I.lt)
theorem Inv.nofs(I:Inv X pins σ H s){a:Addr}(h:s.heap.objs.size<=a):a ∉ X.fs:=fun hb=>by
 obtain⟨_,o,ho,_⟩:=I.ok.funs.mem hb;exact absurd (zaD (zaq ho) (zaN I.sz h)) (zby _)
theorem Inv.cne(I:Inv X pins σ H s):∀x c,X.env.cells.lookup x=some c->c≠X.env.locals:=fun x c e z=>by
 obtain⟨v,o,ho,hd⟩:=I.cell x c e;obtain⟨m,⟨o',es,ep,ho',hd',_⟩,_⟩:=I.loc;rw[z,ho'] at ho;cases ho;rw[hd'] at hd;cases hd
theorem Inv.funs(I:Inv X pins σ H s):s.heap.FunFrames X.base X.outer:=by
 have all:∀(l:List Env),(∀b∈frs l,b∈X.fs)->X.s₀.heap.FunFrames X.base l->s.heap.FunFrames X.base l:=by
  intro l
  induction l with
  |nil=>intro _ _;trivial
  |cons env r ih=>
   intro hs hl;obtain⟨hk,⟨L,o,hf,hn,ho,hd⟩,hr⟩:=hl;have hL:L∈X.fs:=hs L (by unfold frs;rw[zcT,hf];exact zau)
   obtain⟨sl,e⟩:=I.base.slot L o ho (I.ok.frf L hL) hL fun z=>I.ok.exfs L z hL;exact⟨hk,⟨L,_,hf,hn,e,hd⟩,ih (fun b hb=>hs b (by unfold frs;rw[zcT,hf];exact zar _ hb)) hr⟩
 exact all X.outer (fun _ hb=>hb) I.ok.funs
theorem Inv.stack(I:Inv X pins σ H s):s.heap.FunFrames X.base X.stack:=by
 rcases I.ok.stk with e|⟨e,hf⟩
 ·rw[e];exact I.funs
 ·rw[e]
  obtain⟨m,hn,_⟩:=I.loc;refine .cons (by rw[I.ok.kind];decide) hf hn ?_ I.funs
  exact Heap.get?_none_of_le (zaN I.ok.bsz I.ok.above)
theorem Inv.KJ(I:Inv X pins σ H s):∀b∈frs X.stack,b∈X.env.locals::X.fs:=fun b hb=>by
 rcases I.ok.stk with e|⟨e,hf⟩
 ·rw[e] at hb;exact zar _ hb
 ·rw[e] at hb
  unfold frs at hb;rw[zcT,hf] at hb;exact hb
theorem Inv.KU(I:Inv X pins σ H s):∀b∈frs X.stack,H b=none:=fun b hb=>by
 rcases zay.mp (I.KJ b hb) with e|hb
 ·rw[e];exact I.free
 ·obtain⟨_,o,ho,_⟩:=I.ok.funs.mem hb
  exact I.base.free b o ho (I.ok.frf b hb) fun z=>I.ok.exfs b z hb
theorem Inv.step{g':Array GenState}{t':Nat}{d':Drawn}{ch:List Addr}(I:Inv X pins σ H s)(hch:∀b∈ch,(b∈X.ex\/X.s₀.heap.objs.size<=b)/\b≠X.env.locals/\(∀x c,X.env.cells.lookup x=some c->c≠b)/\∀p∈X.pn++pins,p.1≠b)(keep:∀b o,b≠X.env.locals->b ∉ X.fs->b ∉ ch->s.heap.get? b=some o->H b=none->h'.get? b=some o)(slot:∀b o,b≠X.env.locals->b∈X.fs->b ∉ ch->s.heap.get? b=some o->H b=none->∃sl,h'.get? b=some { o with slots:=sl })(free:∀b o,b ∉ ch->s.heap.get? b=some o->H b=none->H' b=none)(there:∀b o,b ∉ ch->s.heap.get? b=some o->∃o',h'.get? b=some o')(tups:∀b xs,H b=some (.tup xs)->H' b=some (.tup xs))(frzs:∀b o u,H b=some (.frz o u)->H' b=some (.frz o u))(tbls:∀b ps,H b=some (.tbl ps)->∃more,H' b=some (.tbl (ps++more)))(ns:∀m,s.heap.Ns X.env.locals m->h'.Ns X.env.locals m)(hok:HOk X.prog X.w H' h')(hg:AllBare g'):
  Inv X pins σ H' { s with heap:=h',gens:=g',drawn:=d',toks:=t' }:=by
 have neL:∀b o,X.s₀.heap.get? b=some o->b≠X.env.locals:=fun b o e=>zaF (zaD (zaq e) I.ok.above)
 have neC:∀b o,X.s₀.heap.get? b=some o->b ∉ X.ex->b ∉ ch:=fun b o e hx hb=>by
  rcases(hch b hb).1 with z|z
  ·exact hx z
  ·exact absurd (zaD (zaq e) z) (zby _)
 have cellK:∀x c,X.env.cells.lookup x=some c->∀v,s.heap.IsCell c v->h'.IsCell c v:=fun x c e v ⟨o,ho,hd⟩=>by
  have nch:c ∉ ch:=fun z=>(hch c z).2.2.1 x c e rfl;by_cases hc:c∈X.fs
  ·obtain⟨sl,q⟩:=slot c o (I.cne x c e) hc nch ho (I.freeC x c e)
   exact⟨_,q,hd⟩
  ·exact⟨o,keep c o (I.cne x c e) hc nch ho (I.freeC x c e),hd⟩
 refine⟨I.ok,I.os,hg,⟨fun b o e n hb hx=>?_,fun b o e n hb hx=>?_,fun b o e n hx=>?_,fun b o e hx=>?_,fun b xs e=>tups b xs (I.base.tups b xs e),fun b o xs e=>frzs b o xs (I.base.frzs b o xs e),fun b ps e=>?_⟩,?_,fun x c e=>?_,?_,fun x c e=>?_,fun p hp=>?_,hok,I.len⟩
 ·exact keep b o (neL b o e) hb (neC b o e hx) (I.base.keep b o e n hb hx) (I.base.free b o e n hx)
 ·obtain⟨sl,e1⟩:=I.base.slot b o e n hb hx
  obtain⟨sl',e2⟩:=slot b _ (neL b o e) hb (neC b o e hx) e1 (I.base.free b o e n hx);exact⟨sl',e2⟩
 ·obtain⟨o',e1⟩:=I.base.there b o e hx
  exact free b o' (neC b o e hx) e1 (I.base.free b o e n hx)
 ·obtain⟨o',e1⟩:=I.base.there b o e hx
  exact there b o' (neC b o e hx) e1
 ·obtain⟨m1,e1⟩:=I.base.tbls b ps e
  obtain⟨m2,e2⟩:=tbls b _ e1;exact⟨m1++m2,by rw[e2,Array.append_assoc]⟩
 ·obtain⟨m,hn,hl⟩:=I.loc
  refine⟨m,ns m hn,fun i x v e1 e2 e3=>?_⟩;obtain⟨u,r,l⟩:=hl i x v e1 e2 e3;refine⟨u,r,?_⟩;rcases l with l|⟨k,c,e,z⟩
  ·exact .inl l
  ·exact .inr ⟨k,c,e,cellK x c e _ z⟩
 ·obtain⟨v,z⟩:=I.cell x c e
  exact⟨v,cellK x c e v z⟩
 ·obtain⟨m,⟨o,_,_,ho,_⟩,_⟩:=I.loc
  exact free _ o (fun z=>(hch _ z).2.1 rfl) ho I.free
 ·obtain⟨v,o,ho,hd⟩:=I.cell x c e
  exact free c o (fun z=>(hch c z).2.2.1 x c e rfl) ho (I.freeC x c e)
 ·obtain⟨e,n,ne,nf,d⟩:=I.pin p hp
  have nch:p.1 ∉ ch:=fun z=>(hch p.1 z).2.2.2 p hp rfl;exact⟨keep p.1 p.2 ne nf nch e n,free p.1 p.2 nch e n,ne,nf,d⟩
theorem Inv.un{t':Nat}(I:Inv X pins σ H s)(u:Un X.fs [] H H' s.heap h')(hok:HOk X.prog X.w H' h'):Inv X pins σ H' { s with heap:=h',toks:=t' }:=by
 obtain⟨m,⟨o,es,ep,ho,r⟩,_⟩:=id I.loc;obtain⟨sl,hL⟩:=u.any ho I.free (by simp)
 exact I.step (g':=s.gens) (d':=s.drawn) (ch:=[]) (fun _ z=>nomatch z) (fun b o _ hb _ e n=>u.keep b o e n hb (by simp)) (fun b o _ hb _ e n=>u.slot b o e n hb (by simp)) (fun b o _ e n=>u.free b o e n (by simp)) (fun b o _ e=>u.there b o e (by simp)) u.tups u.frzs u.tbls (fun m' hm=>by
  obtain⟨o',es',ep',ho',r'⟩:=hm;rw[ho] at ho';cases ho'
  exact⟨_,es',ep',hL,r'⟩) hok I.bare
theorem Inv.call{g':Array GenState}{t':Nat}{d':Drawn}{ch:List Addr}(I:Inv X pins σ H s)(u:Un (frs X.stack) ch H H' s.heap h')(hok:HOk X.prog X.w H' h')(hg:AllBare g')(hch:∀b∈ch,(b∈X.ex\/X.s₀.heap.objs.size<=b)/\b≠X.env.locals/\(∀x c,X.env.cells.lookup x=some c->c≠b)/\∀p∈X.pn++pins,p.1≠b):
  Inv X pins σ H' { s with heap:=h',gens:=g',drawn:=d',toks:=t' }:=by
 obtain⟨m,⟨o,es,ep,ho,r⟩,_⟩:=id I.loc;obtain⟨sl,hL⟩:=u.any ho I.free fun z=>(hch _ z).2.1 rfl
 exact I.step (ch:=ch) hch (fun b o hL hb hc e n=>u.keep b o e n (fun z=>(zay.mp (I.KJ b z)).elim hL hb) hc) (fun b o _ _ hc e n=>u.any e n hc) (fun b o hc e n=>u.free b o e n hc) (fun b o hc e=>u.there b o e hc) u.tups u.frzs u.tbls (fun m' hm=>by
  obtain⟨o',es',ep',ho',r'⟩:=hm;rw[ho] at ho';cases ho'
  exact⟨_,es',ep',hL,r'⟩) hok hg
theorem Inv.turned{t':Nat}{it:Addr}(I:Inv X pins σ H s)(k:∀b o,b≠it->s.heap.get? b=some o->h'.get? b=some o)(hn:H it=none)(hL:it≠X.env.locals)(h1:it∈X.ex\/X.s₀.heap.objs.size<=it)(h2:∀x c,X.env.cells.lookup x=some c->c≠it)(h3:∀p∈X.pn++pins,p.1≠it):Inv X pins σ H { s with heap:=h',toks:=t' }:=by
 have nit:∀b u,H b=some u->b≠it:=fun b u e z=>by rw[z,hn] at e;cases e
 refine I.step (g':=s.gens) (d':=s.drawn) (ch:=[it]) (fun b hb=>?_) (fun b o _ _ hc e _=>k b o (fun z=>hc (by simp[z])) e) (fun b o _ _ hc e _=>⟨o.slots,k b o (fun z=>hc (by simp[z])) e⟩) (fun _ _ _ _ n=>n)
  (fun b o hc e=>⟨o,k b o (fun z=>hc (by simp[z])) e⟩) (fun _ _ e=>e) (fun _ _ _ e=>e) (fun b ps e=>⟨#[],by rw[e];simp⟩) (fun m hm=>?_) (fun b u e=>?_) I.bare
 ·have e:b=it:=by simpa using hb
  subst e;exact⟨h1,hL,h2,h3⟩
 ·obtain⟨o,es,ep,ho,r⟩:=hm
  exact⟨o,es,ep,k _ o (zbJ hL) ho,r⟩
 ·refine(I.hok b u e).stay (fun c v hc q=>k c v ?_ q) (fun _ q=>q) (fun _ _ q=>q) fun _ _ _ q=>q
  rcases hc with z|z
  ·rw[z];exact nit b u e
  ·exact nit c _ z
theorem Inv.tok(I:Inv X pins σ H s)(t:Nat):Inv X pins σ H { s with toks:=t }:=I.un (h':=s.heap) (t':=t) Un.refl I.hok
theorem Inv.kept{t':Nat}(I:Inv X pins σ H s)(k:∀b u,s.heap.get? b=some u->h'.get? b=some u):Inv X pins σ H { s with heap:=h',toks:=t' }:=I.un (Un.kept k) (I.hok.kept k)
theorem Inv.laid{a:Addr}{o:HO}{t':Nat}(I:Inv X pins σ H s)(k:∀b u,s.heap.get? b=some u->h'.get? b=some u)(hp:s.heap.objs.size<=a)(new:bb X.prog X.w (upd H a o) h' a o):
  Inv X pins σ (upd H a o) { s with heap:=h',toks:=t' }:=I.un (Un.laid k hp (I.hok.fresh hp)) (I.hok.laid k hp new)
theorem Inv.write{x e:Addr}{o:HO}{t':Nat}(I:Inv X pins σ H s)(mu:Mut (H x))(he:e=x\/H e=some (.own x))(k:∀b u,b≠e->s.heap.get? b=some u->h'.get? b=some u)(heo:∃u,h'.get? e=some u)(new:bb X.prog X.w (upd H x o) h' x o):Inv X pins σ (upd H x o) { s with heap:=h',toks:=t' }:=I.un (Un.write mu he k heo) (I.hok.write mu he k heo new)
theorem Inv.KW{pins':List (Addr×Obj)}(I:Inv X pins σ H s)(h:∀p∈pins',s.heap.get? p.1=some p.2/\H p.1=none/\p.1≠X.env.locals/\p.1 ∉ X.fs/\∀v,p.2.data≠.cell v):Inv X pins' σ H s:=
 ⟨I.ok,I.os,I.bare,I.base,I.loc,I.cell,I.free,I.freeC,fun p hp=>(zaL.mp hp).elim (fun z=>I.pin p (zbn _ z)) (h p),I.hok,I.len⟩
theorem sA{N:List Str}(hN:N.Nodup){i j:Nat}{x:Str}(a:N[i]?=some x)(b:N[j]?=some x):i=j:=by
 obtain⟨h1,e1⟩:=zav.mp a;obtain⟨h2,e2⟩:=zav.mp b;exact(List.getElem_inj hN).mp (e1.trans e2.symm)
theorem pC{M:Model}{A:Around}{E:Value->Shared->Prop}{i:Nat}{x:Str}{v:V}{u:Value}{Q:Unit->Shared->Prop}(I:Inv X pins σ H s)(hN:X.N.Nodup)(hi:X.N[i]?=some x)(hx:Loc X.env.scope x)(r:aB v u)(h:∀s',Inv X pins (σ.set i (some v)) H s'->(∃a,Heap.SameBut a s.heap s'.heap/\(a=X.env.locals\/X.env.cells.lookup x=some a))->Q () s')(hf:X.fn x=true\/X.env.scope.names.lookup x=some .local:=by first|exact .inl rfl|exact .inr rfl|assumption):wpAny M A (storeName X.env x u) Q E s:=by
 obtain⟨m,hn,hl⟩:=id I.loc;have hcls:(X.env.scope.kind == .class || (X.env.scope.kind == .module && X.env.locals != X.env.globals))=false:=by rw[I.ok.kind];rfl
 have hiσ:i<σ.length:=by rw[I.len];exact(zav.mp hi).1
 have cne:=I.cne
 have tracked:∀ {a:Addr} {h':Heap},(∃o,s.heap.get? a=some o/\H a=none)->Heap.SameBut a s.heap h'->HOk X.prog X.w H h':=fun {a h'} ha hs b ob e=>by
  obtain⟨_,_,hfree⟩:=ha;refine(I.hok b ob e).stay (fun c w' hc q=>(hs.2 c ?_).trans q) (fun _ q=>q) (fun _ _ q=>q) fun _ _ _ q=>q;rintro rfl;rcases hc with rfl|hc
  ·rw[hfree] at e;cases e
  ·rw[hfree] at hc;cases hc
 rcases hx with hk|hk
 ·refine wpAny_storeName_local hk hn (fun h' hn' hs=>?_) hcls
  obtain⟨oL,_,_,hoL,_⟩:=id hn;refine h _ ⟨I.ok,I.os,I.bare,⟨fun b o e n hb hx=>?_,fun b o e n hb hx=>?_,I.base.free,fun b o e hx=>?_,I.base.tups,I.base.frzs,I.base.tbls⟩,⟨_,hn',fun j y v' e1 e2 e3=>?_⟩,fun y c e=>?_,I.free,I.freeC,fun p hp=>?_,tracked ⟨oL,hoL,I.free⟩ hs,by simpa using I.len⟩ ⟨_,hs,.inl rfl⟩
  ·exact(hs.2 b (zaF (zaD (zaq e) I.ok.above))).trans (I.base.keep b o e n hb hx)
  ·obtain⟨sl,e1⟩:=I.base.slot b o e n hb hx
   exact⟨sl,(hs.2 b (zaF (zaD (zaq e) I.ok.above))).trans e1⟩
  ·obtain⟨o',e1⟩:=I.base.there b o e hx
   exact⟨o',(hs.2 b (zaF (zaD (zaq e) I.ok.above))).trans e1⟩
  ·by_cases hj:j=i
   ·subst hj
    rw[hi] at e1;cases e1;rw[List.getElem?_set_self hiσ] at e2;cases e2;exact⟨u,r,.inl ⟨hk,by simp⟩⟩
   ·rw[zcJ (zbJ hj)] at e2
    obtain⟨u',r',q⟩:=hl j y v' e1 e2 e3;refine⟨u',r',?_⟩;rcases q with⟨k,e⟩|⟨k,c,e,z⟩
    ·refine .inl ⟨k,?_⟩
     have:y≠x:=fun e=>hj (sA hN e1 (e ▸ hi));simp[this,e]
    ·exact .inr ⟨k,c,e,z.sameBut hs (cne y c e)⟩
  ·obtain⟨w',z⟩:=I.cell y c e
   exact⟨w',z.sameBut hs (cne y c e)⟩
  ·obtain⟨e,n,ne,nf,d⟩:=I.pin p hp
   exact⟨(hs.2 p.1 ne).trans e,n,ne,nf,d⟩
 ·have hfn:X.fn x=true:=by
   rcases hf with z|z
   ·exact z
   ·rw[z] at hk;cases hk
  obtain⟨c,hc⟩:=I.ok.has x (.inl hk);obtain⟨w',z⟩:=I.cell x c hc;refine wpAny_storeName_cell I.ok.kind hk hc z (fun h' hc' hs=>?_);obtain⟨oc,hoc,hocd⟩:=id z;refine h { s with heap:=h' } ⟨I.ok,I.os,I.bare,⟨fun b o e n hb hx=>?_,fun b o e n hb hx=>?_,I.base.free,fun b o e hx=>?_,I.base.tups,I.base.frzs,I.base.tbls⟩,⟨m,hn.sameBut hs (zbJ (cne x c hc)),fun j y v' e1 e2 e3=>?_⟩,fun y c' e=>?_,I.free,I.freeC,fun p hp=>?_,tracked ⟨oc,hoc,I.freeC x c hc⟩ hs,by simpa using I.len⟩ ⟨c,hs,.inr hc⟩
  ·exact(hs.2 b (zaF (zaD (zaq e) (I.ok.cab x c hfn hc)))).trans (I.base.keep b o e n hb hx)
  ·obtain⟨sl,e1⟩:=I.base.slot b o e n hb hx
   exact⟨sl,(hs.2 b (zaF (zaD (zaq e) (I.ok.cab x c hfn hc)))).trans e1⟩
  ·obtain⟨o',e1⟩:=I.base.there b o e hx
   exact⟨o',(hs.2 b (zaF (zaD (zaq e) (I.ok.cab x c hfn hc)))).trans e1⟩
  ·by_cases hj:j=i
   ·subst hj
    rw[hi] at e1;cases e1;rw[List.getElem?_set_self hiσ] at e2;cases e2;exact⟨u,r,.inr ⟨.inl hk,c,hc,hc'⟩⟩
   ·rw[zcJ (zbJ hj)] at e2
    obtain⟨u',r',q⟩:=hl j y v' e1 e2 e3;refine⟨u',r',?_⟩;rcases q with q|⟨k,c',e,z'⟩
    ·exact .inl q
    ·refine .inr ⟨k,c',e,z'.sameBut hs ?_⟩
     rintro rfl;exact hj (sA hN e1 (I.ok.inj _ _ _ e hc ▸ hi))
  ·by_cases hcc:c'=c
   ·subst hcc;exact⟨_,hc'⟩
   ·obtain⟨w2,z2⟩:=I.cell y c' e
    exact⟨w2,z2.sameBut hs hcc⟩
  ·obtain⟨e,n,ne,nf,d⟩:=I.pin p hp
   refine⟨(hs.2 p.1 ?_).trans e,n,ne,nf,d⟩;intro q;rw[q,hoc] at e;have q':oc=p.2:=zbj e;exact d w' (by rw[←q'];exact hocd)
theorem mT{M:Model}{A:Around}{E:Value->Shared->Prop}{i:Nat}{x:Str}{v:V}{u:Value}{Q:Unit->Shared->Prop}(I:Inv X pins σ H s)(hN:X.N.Nodup)(hi:X.N[i]?=some x)(hx:Loc X.env.scope x)(r:aB v u)(h:∀s',Inv X pins (σ.set i (some v)) H s'->Q () s')(hf:X.fn x=true\/X.env.scope.names.lookup x=some .local:=by first|exact .inl rfl|exact .inr rfl|assumption):wpAny M A (storeName X.env x u) Q E s:=
 pC I hN hi hx r (fun s' I' _=>h s' I') hf
theorem Inv.call'{s':Shared}{ch:List Addr}(I:Inv X pins σ H s)(ho:s'.os=s.os)(u:Un (frs X.stack) ch H H' s.heap s'.heap)(hok:HOk X.prog X.w H' s'.heap)(hg:AllBare s'.gens)(hch:∀b∈ch,(b∈X.ex\/X.s₀.heap.objs.size<=b)/\b≠X.env.locals/\(∀x c,X.env.cells.lookup x=some c->c≠b)/\∀p∈X.pn++pins,p.1≠b):Inv X pins σ H' s':=by
 obtain⟨h',g',d',t',o'⟩:=s';have e:o'=s.os:=ho;subst e;exact I.call (g':=g') (t':=t') (d':=d') u hok hg hch
end
noncomputable abbrev XK:=Value->Option Addr->Hp->Prop
noncomputable abbrev St:=List (Option V)
noncomputable abbrev VK:=V->Hp->Prop
noncomputable abbrev TE:=St->Hp->VK->Prop
noncomputable abbrev TT:=St->Hp->(Bool->Hp->Prop)->Prop
noncomputable abbrev TA:=St->Hp->(List V->Hp->Prop)->Prop
structure iL where
 nx:St->Hp->Prop
 rt:VK
 bk:St->Hp->Prop:=fun _ _=>False
 ct:St->Hp->Prop:=fun _ _=>False
noncomputable abbrev TS:=iL->St->Hp->Prop
noncomputable def EP(X:Cx)(pins:List (Addr×Obj))(σ:St)(Q:VK)(u:Value)(s':Shared):Prop:=∃v H',Inv X pins σ H' s'/\aB v u/\Q v H'
noncomputable def TP(X:Cx)(pins:List (Addr×Obj))(σ:St)(Q:Bool->Hp->Prop)(b:Bool)(s':Shared):Prop:=∃H',Inv X pins σ H' s'/\Q b H'
noncomputable def AP(X:Cx)(pins:List (Addr×Obj))(σ:St)(Q:List V->Hp->Prop)(us:List Value)(s':Shared):Prop:=∃vs H',Inv X pins σ H' s'/\ay vs us/\Q vs H'
noncomputable def SP(X:Cx)(pins:List (Addr×Obj))(D:iL)(f:Flow)(s':Shared):Prop:=
 match f with
 |.next=>∃σ' H',Inv X pins σ' H' s'/\D.nx σ' H'
 |.brk=>∃σ' H',Inv X pins σ' H' s'/\D.bk σ' H'
 |.cont=>∃σ' H',Inv X pins σ' H' s'/\D.ct σ' H'
 |.ret u=>∃v σ' H',Inv X pins σ' H' s'/\aB v u/\D.rt v H'
noncomputable def PEd(X:Cx)(e:Expr)(t:TE):Prop:=
 ∀(pins:List (Addr×Obj)) (s:Shared) (σ:St) (H:Hp) (Q:VK),Inv X pins σ H s->t σ H Q->wpAny (model X.prog X.w) X.A (eval e X.env) (EP X pins σ Q) X.xe s
structure PE(X:Cx)(e:Expr)(t:TE):Prop where
 run:PEd X e t
noncomputable instance {X:Cx} {e:Expr} {t:TE}:CoeFun (PE X e t) (fun _=>PEd X e t):=⟨PE.run⟩
noncomputable instance {X:Cx} {e:Expr} {t:TE}:Coe (PE X e t) (PEd X e t):=⟨PE.run⟩
noncomputable def PT(X:Cx)(e:Expr)(t:TT):Prop:=
 ∀(pins:List (Addr×Obj)) (s:Shared) (σ:St) (H:Hp) (Q:Bool->Hp->Prop),Inv X pins σ H s->t σ H Q->wpAny (model X.prog X.w) X.A (isTrue e X.env (eval e X.env)) (TP X pins σ Q) X.xe s
noncomputable def PW(X:Cx)(e:Expr)(t:TT):Prop:=
 ∀(whole:Sem Value) (pins:List (Addr×Obj)) (s:Shared) (σ:St) (H:Hp) (Q:Bool->Hp->Prop),Inv X pins σ H s->t σ H Q->wpAny (model X.prog X.w) X.A (isTrue e X.env whole) (TP X pins σ Q) X.xe s
theorem PW.pt{X:Cx}{e:Expr}{t:TT}(h:PW X e t):PT X e t:=h _
noncomputable def PAd(X:Cx)(es:List Expr)(t:TA):Prop:=
 ∀(pos:Pos) (pins:List (Addr×Obj)) (s:Shared) (σ:St) (H:Hp) (Q:List V->Hp->Prop),Inv X pins σ H s->t σ H Q->wpAny (model X.prog X.w) X.A (spliced (backTo pos (starEach es X.env))) (AP X pins σ Q) X.xe s
structure PA(X:Cx)(es:List Expr)(t:TA):Prop where
 run:PAd X es t
noncomputable instance {X:Cx} {es:List Expr} {t:TA}:CoeFun (PA X es t) (fun _=>PAd X es t):=⟨PA.run⟩
noncomputable instance {X:Cx} {es:List Expr} {t:TA}:Coe (PA X es t) (PAd X es t):=⟨PA.run⟩
noncomputable def PSd(X:Cx)(st:Stmt)(t:TS):Prop:=
 ∀(pins:List (Addr×Obj)) (s:Shared) (σ:St) (H:Hp) (D:iL),Inv X pins σ H s->t D σ H->wpAny (model X.prog X.w) X.A (exec st X.env) (SP X pins D) X.xe s
structure PS(X:Cx)(st:Stmt)(t:TS):Prop where
 run:PSd X st t
noncomputable instance {X:Cx} {st:Stmt} {t:TS}:CoeFun (PS X st t) (fun _=>PSd X st t):=⟨PS.run⟩
noncomputable instance {X:Cx} {st:Stmt} {t:TS}:Coe (PS X st t) (PSd X st t):=⟨PS.run⟩
noncomputable def HE(X:Cx)(st:List Stmt)(t:TS):Prop:=
 ∀(pins:List (Addr×Obj)) (s:Shared) (σ:St) (H:Hp) (D:iL),Inv X pins σ H s->t D σ H->wpAny (model X.prog X.w) X.A (execs st X.env) (SP X pins D) X.xe s
structure PSs(X:Cx)(st:List Stmt)(t:TS):Prop where
 run:HE X st t
noncomputable instance {X:Cx} {st:List Stmt} {t:TS}:CoeFun (PSs X st t) (fun _=>HE X st t):=⟨PSs.run⟩
noncomputable instance {X:Cx} {st:List Stmt} {t:TS}:Coe (PSs X st t) (HE X st t):=⟨PSs.run⟩
theorem thn{α:Type}{t:Sem α}{Q Q':α->Shared->Prop}{M:Model}{A:Around}{E:Value->Shared->Prop}{s:Shared}(h:wpAny M A t Q E s)(hQ:∀a s,Q a s->Q' a s):wpAny M A t Q' E s:=zbi h hQ fun _ _ x=>x
section
variable{X:Cx}
noncomputable def GT(i:Nat):TE:=fun σ H Q=>∃v,σ[i]?=some (some v)/\Q v H
noncomputable def tC(v:V):TE:=fun _ H Q=>Q v H
theorem zK{i:Nat}{x:Str}{pos:Pos}(hN:X.N[i]?=some x)(hv:Vis X.env.scope x)(hd:(x == ("__debug__":Str))=false:=by decide)(hcd:(x == ("__classdict__":Str))=false:=by decide):PE X (.Name x pos) (GT i):=.mk <| by
 intro pins s σ H Q I h;obtain⟨v,e,h⟩:=h;obtain⟨m,hn,hl⟩:=I.loc;obtain⟨u,r,l⟩:=hl i x v hN e hv;have fin:EP X pins σ Q u s:=⟨v,H,I,r,h⟩;rcases l with⟨hk,hm⟩|⟨hk,c,hc,hcell⟩
 ·exact wpAny_Name (wpAny_loadName_local I.ok.kind hk hn hm fin) hd
 ·rcases hk with hk|hk
  ·exact wpAny_Name (wpAny_loadName_cell I.ok.kind hk hc hcell fin) hd
  ·exact wpAny_Name (wpAny_loadName_free I.ok.kind hk hc hcell fin hcd) hd
theorem ai{i j pos}:PE X (.Constant (.int i) j pos) (tC (.int i)):=.mk <| fun _ _ _ H _ I h=>wpAny_Constant_int ⟨.int i,H,I.tok _,⟨_,rfl⟩,h⟩
theorem eY{b j pos}:PE X (.Constant (.bool b) j pos) (tC (.bl b)):=.mk <| fun _ _ _ H _ I h=>Constant_bool ⟨.bl b,H,I,rfl,h⟩
theorem aQ{x j pos}:PE X (.Constant (.str x) j pos) (tC (.str x)):=.mk <| fun _ _ _ H _ I h=>Calls.Constant_str ⟨.str x,H,I.tok _,⟨_,rfl⟩,h⟩
noncomputable def Gl(X:Cx)(x:Str):Prop:=X.env.kindOf x=some .globalImplicit
theorem qK{E:Value->Shared->Prop}{pins:List (Addr×Obj)}{s:Shared}{σ:St}{H:Hp}{x:Str}{u:Value}{pos:Pos}{Q:Value->Shared->Prop}(I:Inv X pins σ H s)(hg:Gl X x)(hm:X.mg x=some u)(h:Q u s)(hd:(x == ("__debug__":Str))=false:=by decide):wpAny (model X.prog X.w) X.A (eval (.Name x pos) X.env) Q E s:=
 Calls.Name_function_global I.ok.kind hg (Calls.loadGlobal_global (by rw[I.ok.glob];exact I.mod.glob.keeps I.bk) hm h) hd
theorem kA{E:Value->Shared->Prop}{pins:List (Addr×Obj)}{s:Shared}{σ:St}{H:Hp}{x:Str}{u:Value}{pos:Pos}{Q:Value->Shared->Prop}(I:Inv X pins σ H s)(hg:Gl X x)(hm:X.mg x=none)(hv:bootBuiltins x=some u)(h:Q u s)(hn:x≠"__name__":=by decide)(hd:(x == ("__debug__":Str))=false:=by decide):wpAny (model X.prog X.w) X.A (eval (.Name x pos) X.env) Q E s:=by
 obtain⟨mb,h1,h2⟩:=I.mod.blt;exact Calls.Name_function_global I.ok.kind hg (Calls.loadGlobal_builtin (by rw[I.ok.glob];exact I.mod.glob.keeps I.bk) hm (by rw[I.ok.blt];exact h1.keeps I.bk) ((h2 x hn).trans hv) h) hd
theorem DT{x:Str}{v:V}{u:Value}{pos:Pos}(hg:Gl X x)(hm:X.mg x=some u)(r:aB v u)(hd:(x == ("__debug__":Str))=false:=by decide):PE X (.Name x pos) (tC v):=.mk <|
 fun _ _ _ H _ I h=>qK I hg hm ⟨v,H,I,r,h⟩ hd
theorem ii{x:Str}{v:V}{u:Value}{pos:Pos}(hg:Gl X x)(hm:X.mg x=none)(hv:bootBuiltins x=some u)(r:aB v u)(hn:x≠"__name__":=by decide)(hd:(x == ("__debug__":Str))=false:=by decide):PE X (.Name x pos) (tC v):=.mk <|
 fun _ _ _ H _ I h=>kA I hg hm hv ⟨v,H,I,r,h⟩ hn hd
variable{a b:Expr}{ta tb:TE}{pos:Pos}
noncomputable def PC(X:Cx)(op:CmpOp)(a b:Expr)(t:TE):Prop:=
 ∀(pins:List (Addr×Obj)) (s:Shared) (σ:St) (H:Hp) (Q:VK),Inv X pins σ H s->t σ H Q ->
  wpAny (model X.prog X.w) X.A (eval a X.env) (fun v s₁=>wpAny (model X.prog X.w) X.A (eval b X.env) (fun u s₂=>wpAny (model X.prog X.w) X.A (compareOp op v u) (EP X pins σ Q) X.xe s₂) X.xe s₁) X.xe s
theorem BS(b:Expr){op:CmpOp}(h:op≠.In)(h2:op≠.NotIn):behindInMarks op b=false:=by
 have e1:(op == CmpOp.In)=false:=by cases op<;>first|rfl|exact absurd rfl h
 have e2:(op == CmpOp.NotIn)=false:=by cases op<;>first|rfl|exact absurd rfl h2
 cases b<;>simp[behindInMarks,e1,e2]
noncomputable def tB(t:TE):TT:=fun σ H Q=>t σ H fun x H1=>∃c,x=.bl c/\Q c H1
theorem Hn{op:CmpOp}{t:TE}(h:PC X op a b t)(h1:behindInMarks op b=false:=by first|exact BS _ (by decide) (by decide)|rfl):PT X (.Compare a [op] [b] pos) (tB t):=by
 intro pins s σ H Q I hw;refine wpAny_isTrue_Compare1 (thn (h pins s σ H _ I hw) fun v s1 h1=>thn h1 fun u s2 h2=>thn h2 fun c s3 ⟨x,H1,I1,r1,q1⟩=>?_) h1;obtain⟨d,rfl,q⟩:=q1;cases r1;exact zbV ⟨H1,I1,q⟩
variable{tA tB':TT}{aJ:List Expr}
noncomputable def Ic(t u:TT):TT:=fun σ H Q=>t σ H fun c H1=>if c=true then u σ H1 Q else Q false H1
noncomputable def tOr(t u:TT):TT:=fun σ H Q=>t σ H fun c H1=>if c=true then Q true H1 else u σ H1 Q
noncomputable def JC(t:TT):TT:=fun σ H Q=>t σ H fun c H1=>Q (!c) H1
theorem lX(ha:PT X a tA):PW X (.BoolOp .And [a] pos) tA:=by
 intro wh pins s σ H Q I h;refine isTrue_and (thn (ha pins s σ H Q I h) fun c s1 e=>?_)
 cases c with
 |true=>exact isTrue_and_nil e
 |false=>exact e
theorem iZ(ha:PT X a tA):PW X (.BoolOp .Or [a] pos) tA:=by
 intro wh pins s σ H Q I h;refine isTrue_or (thn (ha pins s σ H Q I h) fun c s1 e=>?_)
 cases c with
 |false=>exact isTrue_or_nil e
 |true=>exact e
theorem kC(ha:PT X a tA)(hb:PW X (.BoolOp .And (b::aJ) pos) tB'):PW X (.BoolOp .And (a::b::aJ) pos) (Ic tA tB'):=by
 intro wh pins s σ H Q I h;refine isTrue_and (thn (ha pins s σ H _ I h) fun c s1 ⟨H1,I1,q1⟩=>?_)
 cases c with
 |true=>exact hb wh pins s1 σ H1 Q I1 q1
 |false=>exact⟨H1,I1,q1⟩
theorem jA(ha:PT X a tA)(hb:PW X (.BoolOp .Or (b::aJ) pos) tB'):PW X (.BoolOp .Or (a::b::aJ) pos) (tOr tA tB'):=by
 intro wh pins s σ H Q I h;refine isTrue_or (thn (ha pins s σ H _ I h) fun c s1 ⟨H1,I1,q1⟩=>?_)
 cases c with
 |true=>exact⟨H1,I1,q1⟩
 |false=>exact hb wh pins s1 σ H1 Q I1 q1
theorem dF(ha:PT X a tA):PT X (.UnaryOp .Not a pos) (JC tA):=by
 intro pins s σ H Q I h;exact isTrue_not (ha pins s σ H (fun c H1=>Q (!c) H1) I h)
theorem B5{op}{t:TE}(h:PE X a t):PE X (.BoolOp op [a] pos) t:=.mk <| fun pins s σ H Q I hw=>BoolOp_one (h pins s σ H Q I hw)
noncomputable def tIf(t:TT)(ta tb:TE):TE:=fun σ H Q=>t σ H fun c H1=>if c=true then ta σ H1 Q else tb σ H1 Q
theorem jR{c:Expr}(hc:PT X c tA)(ha:PE X a ta)(hb:PE X b tb):PE X (.IfExp c a b pos) (tIf tA ta tb):=.mk <| by
 intro pins s σ H Q I h;refine wpAny_IfExp (thn (hc pins s σ H _ I h) fun d s1 ⟨H1,I1,q1⟩=>?_)
 cases d with
 |true=>exact ha pins s1 σ H1 Q I1 q1
 |false=>exact hb pins s1 σ H1 Q I1 q1
end
noncomputable def SqL(K:W.Frag)(H:Hp)(a:Addr)(xs:List V):Prop:=
 Rd H a (.lst xs) \/
  ∃(o:Obj)(its:Array Value)(n:Nat),K.lookup a=some o/\o.cls=.type "list"/\o.dict=none/\o.data=.seq its n/\its.size<=sizeLine/\ay xs its.toList
noncomputable def SqT(K:W.Frag)(H:Hp)(a:Addr)(xs:List V):Prop:=
 Rd H a (.tup xs) \/
  ∃(o:Obj)(its:Array Value)(n:Nat),K.lookup a=some o/\o.cls=.type "tuple"/\o.data=.seq its n/\its.size<=sizeLine/\ay xs its.toList
noncomputable def Kg:Value->Option V
 |.none=>some .non
 |.bool b=>some (.bl b)
 |.int i _=>some (.int i)
 |.str x _=>some (.str x)
 |.bytes b _=>some (.byt b)
 |.float b _=>some (.flt b)
 |.ref a=>some (.ref a)
 |.type n=>some (.ty n)
 |_=>none
theorem aB.abs{x:V}{u:Value}(r:aB x u):Kg u=some x:=by
 cases x with
 |non=>cases r;rfl
 |bl _=>cases r;rfl
 |int _=>obtain⟨t,rfl⟩:=r;rfl
 |str _=>obtain⟨t,rfl⟩:=r;rfl
 |byt _=>obtain⟨t,rfl⟩:=r;rfl
 |flt _=>obtain⟨t,rfl⟩:=r;rfl
 |ref _=>cases r;rfl
 |ty _=>cases r;rfl
theorem aB.inj{x y:V}{u:Value}(r:aB x u)(q:aB y u):x=y:=zbj (r.abs.symm.trans q.abs)
theorem ay.inj:∀ {xs ys:List V} {us:List Value},ay xs us->ay ys us->xs=ys
 |_,_,_,.nil,.nil=>rfl
 |_,_,_,.cons r t,.cons r' t'=>by rw[r.inj r',ay.inj t t']
section
variable{X:Cx}{pins:List (Addr×Obj)}{σ:St}{H:Hp}{s:Shared}{a:Addr}{xs ys:List V}
theorem SqL.of{K:W.Frag}(h:H a=some (.lst xs)):SqL K H a xs:=.inl (.inl h)
theorem SqT.of{K:W.Frag}(h:H a=some (.tup xs)):SqT K H a xs:=.inl (.inl h)
theorem Inv.list(I:Inv X pins σ H s)(h:SqL X.K H a xs):∃its:List Value,ay xs its/\PlainL s.heap a its.toArray/\xs.length<=sizeLine:=by
 rcases h with h|⟨o,its,n,hk,hc,hd,hs,hz,r⟩
 ·obtain⟨z,its,n,r,e⟩:=h.ok I.hok
  exact⟨its,r,⟨_,n,e,rfl,rfl,rfl⟩,z⟩
 ·refine⟨its.toList,r,⟨o,n,I.kIn a o hk,hc,hd,by simpa using hs⟩,?_⟩
  have e:=r.length;simp only[zaY] at e;omega
theorem Inv.tuple(I:Inv X pins σ H s)(h:SqT X.K H a xs):∃its:List Value,ay xs its/\IsTup s.heap a its.toArray/\xs.length<=sizeLine:=by
 rcases h with h|⟨o,its,n,hk,hc,hs,hz,r⟩
 ·obtain⟨z,its,r,p⟩:=h.ok I.hok
  exact⟨its,r,p.1,z⟩
 ·refine⟨its.toList,r,⟨o,I.kIn a o hk,hc,n,by simpa using hs⟩,?_⟩
  have e:=r.length;simp only[zaY] at e;omega
theorem Inv.KQ(I:Inv X pins σ H s)(h:SqL X.K H a xs)(h':SqL X.K H a ys):xs=ys:=by
 obtain⟨its,r,⟨o,n,e,_,_,d⟩,_⟩:=I.list h;obtain⟨its',r',⟨o',n',e',_,_,d'⟩,_⟩:=I.list h';rw[e] at e';cases e';rw[d] at d';injection d' with d1 _;have:its=its':=by simpa using zcB Array.toList d1
 subst this;exact r.inj r'
theorem Inv.KL(I:Inv X pins σ H s)(h:SqT X.K H a xs)(h':SqT X.K H a ys):xs=ys:=by
 obtain⟨its,r,⟨o,e,_,n,d⟩,_⟩:=I.tuple h;obtain⟨its',r',⟨o',e',_,n',d'⟩,_⟩:=I.tuple h';rw[e] at e';cases e';rw[d] at d';injection d' with d1 _;have:its=its':=by simpa using zcB Array.toList d1
 subst this;exact r.inj r'
end
noncomputable abbrev Cx.wish(X:Cx)(E:Value->Shared->Prop):Cx:={ X with xe:=E }
noncomputable abbrev Cx.nox(X:Cx):Cx:=X.wish fun _ _=>False
theorem Cx.Ok.wish{X:Cx}(ok:X.Ok)(E:Value->Shared->Prop):(X.wish E).Ok:=
 ⟨ok.mod,ok.kind,ok.glob,ok.blt,ok.above,ok.inj,ok.has,ok.cab,ok.hd,ok.frames,ok.stk,ok.exf,ok.bs,ok.bsz,ok.noex,ok.exfs,ok.funs,ok.frf,ok.tt⟩
theorem Cx.Ok.unwish{X:Cx}{E:Value->Shared->Prop}(ok:(X.wish E).Ok):X.Ok:=
 ⟨ok.mod,ok.kind,ok.glob,ok.blt,ok.above,ok.inj,ok.has,ok.cab,ok.hd,ok.frames,ok.stk,ok.exf,ok.bs,ok.bsz,ok.noex,ok.exfs,ok.funs,ok.frf,ok.tt⟩
section
variable{X:Cx}{pins:List (Addr×Obj)}{σ:St}{H:Hp}{s:Shared}{E:Value->Shared->Prop}
theorem Inv.wish(I:Inv X pins σ H s)(E:Value->Shared->Prop):Inv (X.wish E) pins σ H s:=⟨I.ok.wish E,I.os,I.bare,I.base,I.loc,I.cell,I.free,I.freeC,I.pin,I.hok,I.len⟩
theorem Inv.unwish(I:Inv (X.wish E) pins σ H s):Inv X pins σ H s:=⟨I.ok.unwish,I.os,I.bare,I.base,I.loc,I.cell,I.free,I.freeC,I.pin,I.hok,I.len⟩
theorem SP.unwish{D:iL}{f:Flow}{s':Shared}(h:SP (X.wish E) pins D f s'):SP X pins D f s':=by
 cases f with
 |next=>obtain⟨σ',H',I,q⟩:=h;exact⟨σ',H',I.unwish,q⟩
 |brk=>obtain⟨σ',H',I,q⟩:=h;exact⟨σ',H',I.unwish,q⟩
 |cont=>obtain⟨σ',H',I,q⟩:=h;exact⟨σ',H',I.unwish,q⟩
 |ret u=>obtain⟨v,σ',H',I,r,q⟩:=h;exact⟨v,σ',H',I.unwish,r,q⟩
theorem PSs.nox{st:List Stmt}{t:TS}(h:PSs X.nox st t):PSs X st t:=.mk <| fun pins s σ H D I hw=>
 zbi (h pins s σ H D (I.wish _) hw) (fun _ _ q=>q.unwish) fun _ _ z=>False.elim z
end
section
variable{X:Cx}{st:Stmt}{aJ:List Stmt}{t u:TS}{e:Expr}{te:TE}{pos:Pos}
noncomputable def EW:TS:=fun D σ H=>D.nx σ H
noncomputable def IS(t u:TS):TS:=fun D σ H=>t { D with nx:=u D } σ H
theorem a9:PSs X [] EW:=.mk <| fun _ _ σ H _ I h=>wpAny_execs_nil ⟨σ,H,I,h⟩
theorem ag(h1:PS X st t)(h2:PSs X aJ u):PSs X (st::aJ) (IS t u):=.mk <| by
 intro pins s σ H D I h;refine wpAny_execs_cons (thn (h1 pins s σ H { D with nx:=u D } I h) fun f s1 q=>?_)
 cases f with
 |next=>
  obtain⟨σ',H',I',q⟩:=q;exact h2 pins s1 σ' H' D I' q
 |ret v=>exact q
 |brk=>exact q
 |cont=>exact q
theorem ak(h1:PS X st t):PSs X [st] t:=.mk <| by
 intro pins s σ H D I h;refine wpAny_execs_cons (thn (h1 pins s σ H D I h) fun f s1 q=>?_)
 cases f with
 |next=>exact wpAny_execs_nil q
 |ret v=>exact q
 |brk=>exact q
 |cont=>exact q
theorem Inv.quiet{pins:List (Addr×Obj)}{σ:St}{H:Hp}{s:Shared}(I:Inv X pins σ H s):interactive X.env=false:=by simp[interactive,I.ok.kind]
noncomputable def Fv(te:TE):TS:=fun D σ H=>te σ H fun _ H1=>D.nx σ H1
theorem dq(he:PE X e te)(hs:swapsWith e none pos.line X.env=pure false:=by rfl):PS X (.Expr e pos) (Fv te):=.mk <| by
 intro pins s σ H D I h;exact wpAny_Expr_any (thn (he pins s σ H _ I h) fun v s1 ⟨x,H1,I1,r1,q1⟩=>⟨σ,H1,I1,q1⟩) I.quiet hs
noncomputable def HU(te:TE):TS:=fun D σ H=>te σ H D.rt
theorem aG(he:PE X e te):PS X (.Return (some e) pos) (HU te):=.mk <| by
 intro pins s σ H D I h;exact wpAny_Return_some (thn (he pins s σ H _ I h) fun v s1 ⟨x,H1,I1,r1,q1⟩=>⟨x,σ,H1,I1,r1,q1⟩)
noncomputable def Iv(c:TT)(t u:TS):TS:=fun D σ H=>c σ H fun b H1=>if b=true then t D σ H1 else u D σ H1
theorem bM{c:Expr}{a b:List Stmt}{tc:TT}(hc:PT X c tc)(ha:PSs X a t)(hb:PSs X b u):PS X (.If c a b pos) (Iv tc t u):=.mk <| by
 intro pins s σ H D I h;refine wpAny_If (thn (hc pins s σ H _ I h) fun d s1 ⟨H1,I1,q1⟩=>?_)
 cases d with
 |true=>exact ha pins s1 σ H1 D I1 q1
 |false=>exact hb pins s1 σ H1 D I1 q1
end
noncomputable abbrev TG:=V->St->Hp->(St->Hp->Prop)->Prop
noncomputable abbrev TGs:=List V->St->Hp->(St->Hp->Prop)->Prop
noncomputable def PG(X:Cx)(target:Expr)(t:TG):Prop:=
 ∀(pins:List (Addr×Obj)) (s:Shared) (σ:St) (H:Hp) (v:V) (u:Value) (Q:St->Hp->Prop),Inv X pins σ H s->aB v u->t v σ H Q ->
  wpAny (model X.prog X.w) X.A (assign target X.env u) (fun _ s'=>∃σ' H',Inv X pins σ' H' s'/\Q σ' H') X.xe s
noncomputable def PGs(X:Cx)(ts:List Expr)(t:TGs):Prop:=
 ∀(pins:List (Addr×Obj)) (s:Shared) (σ:St) (H:Hp) (vs:List V) (us:List Value) (Q:St->Hp->Prop),Inv X pins σ H s->ay vs us->t vs σ H Q ->
  wpAny (model X.prog X.w) X.A (assignInOrder ((assignEach ts X.env).map (·.2)) us) (fun _ s'=>∃σ' H',Inv X pins σ' H' s'/\Q σ' H') X.xe s
noncomputable abbrev TIp:=V->V->Hp->VK->Prop
noncomputable def PIp(X:Cx)(op:Operator)(t:TIp):Prop:=
 ∀(pins:List (Addr×Obj)) (s:Shared) (σ:St) (H:Hp) (x y:V) (v u:Value) (Q:VK),Inv X pins σ H s->aB x v->aB y u->t x y H Q ->
  wpAny (model X.prog X.w) X.A (inplaceOp op v u) (EP X pins σ Q) X.xe s
section
variable{X:Cx}{pos:Pos}
noncomputable def yg(i:Nat):TG:=fun v σ H Q=>Q (σ.set i (some v)) H
theorem au{i:Nat}{x:Str}(hN:X.N.Nodup)(hi:X.N[i]?=some x)(hx:Loc X.env.scope x)(hf:X.fn x=true\/X.env.scope.names.lookup x=some .local:=by first|exact .inl rfl|exact .inr rfl|assumption):PG X (.Name x pos) (yg i):=by
 intro pins s σ H v u Q I r h;exact wpAny_assign_Name (mT I hN hi hx r (fun s' I'=>⟨_,H,I',h⟩) hf)
noncomputable def HS:TGs:=fun vs σ H Q=>vs=[]/\Q σ H
noncomputable def EH(t:TG)(u:TGs):TGs:=fun vs σ H Q=>∃v r,vs=v::r/\t v σ H fun σ' H'=>u r σ' H' Q
theorem gn:PGs X [] HS:=by
 intro pins s σ H vs us Q I r h;obtain⟨e,h⟩:=h;subst e;cases r;exact assignInOrder_nil ⟨σ,H,I,h⟩
theorem bf{e:Expr}{es:List Expr}{t:TG}{u:TGs}(h1:PG X e t)(h2:PGs X es u)(hs:(assignEach (e::es) X.env).map (·.2)=assign e X.env::(assignEach es X.env).map (·.2):=by rfl):PGs X (e::es) (EH t u):=by
 intro pins s σ H vs us Q I r h;obtain⟨v,vr,e1,h⟩:=h;subst e1
 cases r with
 |cons r rr=>
  rw[hs];refine assignInOrder_cons (thn (h1 pins s σ H _ _ _ I r h) fun _ s1 ⟨σ1,H1,I1,q1⟩=>?_);exact h2 pins s1 σ1 H1 _ _ Q I1 rr q1
noncomputable def F9(K:W.Frag)(n:Nat)(t:TGs):TG:=fun v σ H Q=>∃a xs,v=.ref a/\SqT K H a xs/\xs.length=n/\t xs σ H Q
theorem Gf{es:List Expr}{k:Nat}{t:TGs}{n:Nat}(hc:X.calm=true)(h:PGs X es t)(hn:(assignEach es X.env).length=n:=by rfl)(hst:(assignEach es X.env).findIdx? (·.1)=none:=by rfl):PG X (.Tuple es k pos) (F9 X.K n t):=by
 intro pins s σ H v u Q I r hw;obtain⟨a,xs,e1,hq,hl,hw⟩:=hw;subst e1;cases r;obtain⟨its,rv,ht,hz⟩:=I.tuple hq;refine assign_Tuple_tuple (I.ok.hd hc) ht (by simp[hn,←hl,rv.length]) hst fun h' hx=>?_
 have I1:Inv X pins σ H { s with heap:=h' }:=I.kept (t':=s.toks) fun b o e=>hx b o (zaF (zaq e)) e;exact h pins _ σ H xs _ Q I1 (by simpa using rv) hw
noncomputable def Dv(te:TE)(g:TG):TS:=fun D σ H=>te σ H fun x H1=>g x σ H1 D.nx
theorem qQ{tg e:Expr}{te:TE}{g:TG}(he:PE X e te)(hg:PG X tg g)(hs:swapsWithSole [tg] e pos.line X.env=pure false:=by rfl)(hw:swappedStores [tg] e X.env=pure none:=by rfl)(h1:(assignEach [tg] X.env).map (·.2)=[assign tg X.env]:=by rfl):PS X (.Assign [tg] e pos) (Dv te g):=.mk <| by
 intro pins s σ H D I h;refine wpAny_Assign_stores (thn (he pins s σ H _ I h) fun v s1 ⟨x,H1,I1,r1,q1⟩=>?_) hs hw;rw[h1];exact thn (hg pins s1 σ H1 x v _ I1 r1 q1) fun _ s2 q=>q
theorem aO{i:Nat}{x:Str}{e:Expr}{te:TE}{pos':Pos}(hN:X.N.Nodup)(hi:X.N[i]?=some x)(hx:Loc X.env.scope x)(he:PE X e te)(hs:swapsWith e (some (.Name x pos')) pos.line X.env=pure false:=by rfl)(hf:X.fn x=true\/X.env.scope.names.lookup x=some .local:=by first|exact .inl rfl|exact .inr rfl|assumption):
  PS X (.Assign [.Name x pos'] e pos) (Dv te (yg i)):=.mk <| by
 intro pins s σ H D I h;refine wpAny_Assign_Name (thn (he pins s σ H _ I h) fun v s1 ⟨y,H1,I1,r1,q1⟩=>?_) hs;exact mT I1 hN hi hx r1 (fun s2 I2=>⟨_,H1,I2,q1⟩) hf
noncomputable def IH(i:Nat)(te:TE)(ti:TIp):TS:=fun D σ H=>∃x,σ[i]?=some (some x)/\te σ H fun y H1=>ti x y H1 fun z H2=>D.nx (σ.set i (some z)) H2
theorem F5{i:Nat}{x:Str}{e:Expr}{te:TE}{op:Operator}{ti:TIp}{pos':Pos}(hN:X.N.Nodup)(hi:X.N[i]?=some x)(hx:Loc X.env.scope x)(he:PE X e te)(ho:PIp X op ti)(hf:X.fn x=true\/X.env.scope.names.lookup x=some .local:=by first|exact .inl rfl|exact .inr rfl|assumption):
  PS X (.AugAssign (.Name x pos') op e pos) (IH i te ti):=.mk <| by
 intro pins s σ H D I h;obtain⟨v,e1,h⟩:=h;obtain⟨m,hn,hl⟩:=I.loc;have vis:Vis X.env.scope x:=by rcases hx with k|k;exact .inl k;exact .inr (.inl k)
 obtain⟨u,r,l⟩:=hl i x v hi e1 vis;refine wpAny_AugAssign_Name ?_
 have go:wpAny (model X.prog X.w) X.A (eval e X.env) (fun w s₂=>wpAny (model X.prog X.w) X.A (inplaceOp op u w) (fun r s₃=>wpAny (model X.prog X.w) X.A (storeName X.env x r) (fun _=>SP X pins D .next) X.xe s₃) X.xe s₂) X.xe s:=by
  refine thn (he pins s σ H _ I h) fun w s1 ⟨y,H1,I1,r1,q1⟩=>?_;refine thn (ho pins s1 σ H1 v y u w _ I1 r r1 q1) fun z s2 ⟨zv,H2,I2,r2,q2⟩=>?_;exact mT I2 hN hi hx r2 (fun s3 I3=>⟨_,H2,I3,q2⟩) hf
 rcases l with⟨hk,hm⟩|⟨hk,c,hc,hcell⟩
 ·exact wpAny_loadName_local I.ok.kind hk hn hm go
 ·rcases hk with hk|hk
  ·exact wpAny_loadName_cell I.ok.kind hk hc hcell go
  ·rcases hx with k|k
   ·have:X.env.scope.names.lookup x=some .free:=hk
    rw[k] at this;cases this
   ·have:X.env.scope.names.lookup x=some .free:=hk
    rw[k] at this;cases this
end
section
variable{X:Cx}{pos:Pos}
noncomputable def At(c:TT)(tb:TS):TS:=fun D σ H=>∃W:Nat->St->Hp->Prop,(∃m,W m σ H)/\∀m σ H,W m σ H ->
 c σ H fun b H1=>if b=true then ∃N:St->Hp->Prop,(∀σ' H',N σ' H'->∃m',m'<m/\W m' σ' H')/\tb { D with nx:=N,ct:=N,bk:=D.nx } σ H1 else D.nx σ H1
theorem jO{c:Expr}{body:List Stmt}{tc:TT}{tb:TS}(hp:PassesOwn (model X.prog X.w) X.A X.env X.xe)(hc:PT X c tc)(hb:PSs X body tb):PS X (.While c body [] pos) (At tc tb):=.mk <| by
 intro pins s σ H D I h;obtain⟨W,⟨m0,w0⟩,turn⟩:=h;refine wpAny_While (codeAny_whileLoop (fun n s'=>∃σ' H',Inv X pins σ' H' s'/\W n σ' H') ?_ m0 ⟨σ,H,I,w0⟩);rintro n s1 ⟨σ1,H1,I1,w1⟩;refine zcA hp (thn (hc pins s1 σ1 H1 _ I1 (turn n σ1 H1 w1)) fun b s2 ⟨H2,I2,q2⟩=>?_)
 cases b with
 |true=>
  obtain⟨N,hN,q2⟩:=q2;rw[zaf rfl];refine zcA hp (thn (hb pins s2 σ1 H2 _ I2 q2) fun f s3 q3=>?_)
  cases f with
  |next=>
   obtain⟨σ3,H3,I3,n3⟩:=q3;obtain⟨m',hm,w3⟩:=hN σ3 H3 n3;exact⟨m',hm,σ3,H3,I3,w3⟩
  |cont=>
   obtain⟨σ3,H3,I3,n3⟩:=q3;obtain⟨m',hm,w3⟩:=hN σ3 H3 n3;exact⟨m',hm,σ3,H3,I3,w3⟩
  |brk=>exact q3
  |ret v=>exact q3
 |false=>
  rw[zad zat];exact wpAny_execs_nil ⟨σ1,H2,I2,q2⟩
end
structure It where
 go:Nat->Hp->Prop
 yld:Nat->Hp->V->Hp->Prop
 stop:Nat->Hp->Prop
noncomputable def fM(X:Cx)(pins:List (Addr×Obj))(H:Hp)(b:Addr):Prop:=
 H b=none/\b≠X.env.locals/\b ∉ X.fs/\(b∈X.ex\/X.s₀.heap.objs.size<=b)/\(∀x c,X.env.cells.lookup x=some c->c≠b)/\∀p∈X.pn++pins,p.1≠b
theorem Inv.KY{X:Cx}{pins:List (Addr×Obj)}{σ:St}{H H':Hp}{s:Shared}{b:Addr}(I:Inv X pins σ H s)(hb:s.heap.objs.size<=b)(hn:H' b=none):fM X pins H' b:=by
 refine⟨hn,zdf (zaD I.lt hb),I.nofs hb,.inr (zaN I.sz hb),fun x c e z=>?_,fun p hp z=>?_⟩
 ·obtain⟨v,q⟩:=I.cell x c e
  exact absurd (zaD q.lt (by rw[z];exact hb)) (zby _)
 ·exact absurd (zaD (zaq (I.pin p hp).1) (by rw[z];exact hb)) (zby _)
structure um(P:Program)(w:World)(K:W.Frag)(tg:Expr)(J:It)(fp:List Addr)(it:Addr)(tn:Nat->Heap->Prop):Prop where
 mem:it∈fp
 obj:∀i h,tn i h->∀b∈fp,∃o,h.get? b=some o/\∀v,o.data≠.cell v
 keep:∀i h h',tn i h->(∀b∈fp,∀o,h.get? b=some o->h'.get? b=some o)->tn i h'
 item:∀(X:Cx),X.prog=P->X.w=w->X.K=K->X.calm=true->∀(i:Nat) (pins:List (Addr×Obj)) (s:Shared) (σ:St) (H:Hp) (E:Value->Shared->Prop),Inv X pins σ H s->(∀b∈fp,fM X pins H b)->tn i s.heap->J.go i H ->
  wpAny (model P w) X.A (pyNext (.ref it)) (fun r s1=>∃u,r=some u /\
   wpAny (model P w) X.A (letOwnedTupleGo tg (.ref it) u) (fun _ s2=>∃x H',Inv X pins σ H' s2/\aB x u/\J.yld i H x H'/\tn (i+1) s2.heap/\∀b∈fp,H' b=none) E s1) E s
 done:∀(X:Cx),X.prog=P->X.w=w->X.K=K->X.calm=true->∀(i:Nat) (pins:List (Addr×Obj)) (s:Shared) (σ:St) (H:Hp) (E:Value->Shared->Prop),Inv X pins σ H s->(∀b∈fp,fM X pins H b)->tn i s.heap->J.stop i H ->
  wpAny (model P w) X.A (pyNext (.ref it)) (fun r s1=>r=none/\Inv X pins σ H s1) E s
 self:∀(A:Around)(i:Nat)(s:Shared)(Q:Value->Shared->Prop)(E:Value->Shared->Prop),tn i s.heap->Q (.ref it) s->wpAny (model P w) A (pyIter (.ref it)) Q E s
noncomputable abbrev TI:=St->Hp->(It->Hp->Prop)->Prop
noncomputable def PIE(X:Cx)(pins:List (Addr×Obj))(σ:St)(tg:Expr)(R:It->Hp->Prop)(itv:Value)(s2:Shared):Prop:=
 ∃(it:Addr)(fp:List Addr)(tn:Nat->Heap->Prop)(J:It)(H':Hp),itv=.ref it/\Inv X pins σ H' s2/\um X.prog X.w X.K tg J fp it tn/\tn 0 s2.heap/\(∀b∈fp,fM X pins H' b)/\R J H'
noncomputable def PI(X:Cx)(tg iter:Expr)(wi:TI):Prop:=
 ∀(pins:List (Addr×Obj)) (s:Shared) (σ:St) (H:Hp) (R:It->Hp->Prop),Inv X pins σ H s->wi σ H R ->
  wpAny (model X.prog X.w) X.A (eval iter X.env) (fun v s1=>wpAny (model X.prog X.w) X.A (pyIter v) (PIE X pins σ tg R) X.xe s1) X.xe s
theorem wZ{M:Model}{A:Around}{E:Value->Shared->Prop}{s:Shared}{tg:Expr}{it:Addr}{u:Value}{o:Obj}{n:String}{vs:Array Value}{Q:Unit->Shared->Prop}(ho:s.heap.get? it=some o)(hc:o.cls=.type n)(hd:o.data=.fields vs)(hn:["enumerate","zip","dict_itemiterator","dict_reverseitemiterator","odict_iterator","itertools.zip_longest","itertools.pairwise"].contains n=false)(hQ:Q () s):wpAny M A (letOwnedTupleGo tg (.ref it) u) Q E s:=by
  unfold letOwnedTupleGo
  cases tg<;>first
    |exact zab hQ
    | (cases u<;>first
        |exact zab hQ
        | (refine zaa (zaI ho ?_)
           rw[hc,hd];show wpAny M A (if (["enumerate","zip","dict_itemiterator","dict_reverseitemiterator","odict_iterator","itertools.zip_longest","itertools.pairwise"].contains n && vs[0]? == some (rawInt _))=true then _ else _) Q E s
           rw[zad (by intro h;rw[hn,Bool.false_and] at h;cases h)]
           exact zab hQ))
noncomputable def Itl(K:W.Frag)(a:Addr):It:=
 ⟨fun i H=>∃xs x,SqL K H a xs/\xs[i]?=some x,fun i H x H'=>H'=H/\∀xs,SqL K H a xs->xs[i]?=some x,fun i H=>∃xs,SqL K H a xs/\xs.length<=i⟩
noncomputable def Itt(K:W.Frag)(a:Addr):It:=
 ⟨fun i H=>∃xs x,SqT K H a xs/\xs[i]?=some x,fun i H x H'=>H'=H/\∀xs,SqT K H a xs->xs[i]?=some x,fun i H=>∃xs,SqT K H a xs/\xs.length<=i⟩
noncomputable def Itr(lo:Int)(n:Nat):It:=⟨fun i _=>i<n,fun i H x H'=>H'=H/\x=.int (lo+i),fun i _=>n<=i⟩
theorem yM{P:Program}{w:World}{K:W.Frag}{tg:Expr}(a it:Addr):um P w K tg (Itl K a) [it] it (fun i h=>h.IsListIter it a i) where
 mem:=by simp
 obj:=fun i h st b hb=>by
  have e:b=it:=by simpa using hb
  subst e;obtain⟨o,e,c,d⟩:=st;exact⟨o,e,fun v z=>by rw[d] at z;cases z⟩
 keep:=fun i h h' st k=>st.at fun o e=>k it (by simp) o e
 item:=by
  intro X hP hw hK hc i pins s σ H E I hf st hg;subst hP hw hK;obtain⟨xs,x,hq,hx⟩:=hg;obtain⟨its,rv,p,hz⟩:=I.list hq;obtain⟨u,hu,ru⟩:=rv.get hx;obtain⟨f0,f1,f2,f3,f4,f5⟩:=hf it (by simp)
  refine wpAny_pyNext_list_item st p.isList (x:=u) (by simpa using hu) fun h' st' sb=>?_
  have I1:Inv X pins σ H { s with heap:=h' }:=I.turned (t':=s.toks) (fun b o hb e=>(sb.2 b hb).trans e) f0 f1 f3 f4 f5;obtain⟨o,e,c,d⟩:=id st';exact⟨u,rfl,wZ (s:={ s with heap:=h' }) e c d (by decide) ⟨x,H,I1,ru,⟨rfl,fun ys hy=>by rw[I.KQ hy hq];exact hx⟩,st',fun b hb=>(hf b hb).1⟩⟩
 done:=by
  intro X hP hw hK hc i pins s σ H E I hf st hg;subst hP hw hK;obtain⟨xs,hq,hx⟩:=hg;obtain⟨its,rv,p,hz⟩:=I.list hq;obtain⟨f0,f1,f2,f3,f4,f5⟩:=hf it (by simp)
  have hl:=rv.length;exact wpAny_pyNext_list_end (I.ok.hd hc) st p.isList (by simp;omega) fun h' eb=>⟨rfl,I.turned (t':=s.toks) (fun b o hb e=>eb b o hb e) f0 f1 f3 f4 f5⟩
 self:=fun _ _ _ _ _ st h=>wpAny_pyIter_listiter st h
theorem vO{P:Program}{w:World}{K:W.Frag}{tg:Expr}(a it:Addr):um P w K tg (Itt K a) [it] it (fun i h=>h.IsTupleIter it a i) where
 mem:=by simp
 obj:=fun i h st b hb=>by
  have e:b=it:=by simpa using hb
  subst e;obtain⟨o,e,c,d⟩:=st;exact⟨o,e,fun v z=>by rw[d] at z;cases z⟩
 keep:=fun i h h' st k=>st.at fun o e=>k it (by simp) o e
 item:=by
  intro X hP hw hK hc i pins s σ H E I hf st hg;subst hP hw hK;obtain⟨xs,x,hq,hx⟩:=hg;obtain⟨its,rv,p,hz⟩:=I.tuple hq;obtain⟨u,hu,ru⟩:=rv.get hx;obtain⟨f0,f1,f2,f3,f4,f5⟩:=hf it (by simp)
  refine wpAny_pyNext_tuple_item st (show s.heap.IsTuple a its.toArray from p) (x:=u) (by simpa using hu) fun h' st' sb=>?_
  have I1:Inv X pins σ H { s with heap:=h' }:=I.turned (t':=s.toks) (fun b o hb e=>(sb.2 b hb).trans e) f0 f1 f3 f4 f5;obtain⟨o,e,c,d⟩:=id st';exact⟨u,rfl,wZ (s:={ s with heap:=h' }) e c d (by decide) ⟨x,H,I1,ru,⟨rfl,fun ys hy=>by rw[I.KL hy hq];exact hx⟩,st',fun b hb=>(hf b hb).1⟩⟩
 done:=by
  intro X hP hw hK hc i pins s σ H E I hf st hg;subst hP hw hK;obtain⟨xs,hq,hx⟩:=hg;obtain⟨its,rv,p,hz⟩:=I.tuple hq;obtain⟨f0,f1,f2,f3,f4,f5⟩:=hf it (by simp)
  have hl:=rv.length;exact wpAny_pyNext_tuple_end (I.ok.hd hc) st (show s.heap.IsTuple a its.toArray from p) (by simp;omega) fun h' eb=>⟨rfl,I.turned (t':=s.toks) (fun b o hb e=>eb b o hb e) f0 f1 f3 f4 f5⟩
 self:=fun _ _ _ _ _ st h=>wpAny_pyIter_tupleiter st h
theorem vg{P:Program}{w:World}{K:PySem.W.Frag}{tg:Expr}(it:Addr)(lo:Int)(n:Nat):um P w K tg (Itr lo n) [it] it (fun i h=>IsRangeIter h it (lo+(i:Nat)*1) ((n:Int)-(i:Nat)) 1) where
 mem:=by simp
 obj:=fun i h st b hb=>by
  have e:b=it:=by simpa using hb
  subst e
  exact⟨_,st,fun v z=>by
   have z':Data.fields _=Data.cell v:=z
   cases z'⟩
 keep:=fun i h h' st k=>k it (by simp) _ st
 item:=by
  intro X hP hw hK hc i pins s σ H E I hf st hg;subst hP hw hK;obtain⟨f0,f1,f2,f3,f4,f5⟩:=hf it (by simp)
  have W:=Walks.range (prog:=X.prog) (w:=X.w) (I.ok.hd hc) it lo 1 n;refine W.item i s _ _ hg st fun v h' tk hv st' kk=>?_;obtain⟨t,rfl⟩:=hv;have I1:Inv X pins σ H { s with heap:=h',toks:=tk }:=I.turned (fun b o hb e=>kk b o (by simpa using hb) e) f0 f1 f3 f4 f5
  refine⟨_,rfl,wZ (s:={ s with heap:=h',toks:=tk }) (n:="range_iterator") st' rfl rfl (by decide) ⟨.int (lo+i),H,I1,⟨t,?_⟩,⟨rfl,rfl⟩,st',fun b hb=>(hf b hb).1⟩⟩
  rw[Int.mul_one]
 done:=by
  intro X hP hw hK hc i pins s σ H E I hf st hg;subst hP hw hK;obtain⟨f0,f1,f2,f3,f4,f5⟩:=hf it (by simp)
  exact wpAny_pyNext_range_end (I.ok.hd hc) st (by have:n<=i:=hg;omega) fun h' eb=>⟨rfl,I.turned (t':=s.toks) (fun b o hb e=>eb b o hb e) f0 f1 f3 f4 f5⟩
 self:=fun _ _ _ _ _ st h=>wpAny_pyIter_rangeiter st h
section
variable{X:Cx}{tg:Expr}
theorem tD{pins:List (Addr×Obj)}{σ:St}{H:Hp}{s:Shared}{R:It->Hp->Prop}{E:Value->Shared->Prop}{lo hi:Int}{t u v:Tok}{tk:Nat}(I:Inv X pins σ H s)(h1:-(2^62)<=lo)(h2:lo<2^62)(h3:-(2^62)<=hi)(h4:hi<2^62)(q:R (Itr lo (hi-lo).toNat) H):wpAny (model X.prog X.w) X.A (pyIter (.ref s.heap.objs.size)) (PIE X pins σ tg R) E { s with heap:=s.heap.push { cls:=.type "range",data:=.fields #[.int lo t,.int hi u,.int 1 v] },toks:=tk }:=by
 refine wpAny_pyIter_range (IsRange.new ..) (small_one h1 h2 h3 h4) ?_;have I1:Inv X pins σ H { s with heap:=s.heap.push { cls:=.type "range",data:=.fields #[.int lo t,.int hi u,.int 1 v] },toks:=tk }:=I.kept fun b o e=>zac _ e
 refine⟨(s.heap.push { cls:=.type "range",data:=.fields #[.int lo t,.int hi u,.int 1 v] }).objs.size,[(s.heap.push { cls:=.type "range",data:=.fields #[.int lo t,.int hi u,.int 1 v] }).objs.size],_,_,H,rfl,
  I1.kept (t':=tk) fun b o e=>zac _ e,vg _ lo (hi-lo).toNat,?_,fun b hb=>?_,q⟩
 ·have e1:lo+((0:Nat):Int)*1=lo:=by simp
  have e2:(((hi-lo).toNat:Nat):Int)-((0:Nat):Int)=Builtin.Range.rangeSize lo hi 1:=by rw[rangeSize_one];split<;>omega
  show IsRangeIter _ _ (lo+((0:Nat):Int)*1) ((((hi-lo).toNat:Nat):Int)-((0:Nat):Int)) 1;rw[e1,e2];exact zan _ rfl
 ·have e:b=(s.heap.push { cls:=.type "range",data:=.fields #[.int lo t,.int hi u,.int 1 v] }).objs.size:=by simpa using hb
  subst e;exact I1.KY (zaj _) (I1.hok.fresh (zaj _))
noncomputable def EU(ta:TA):TI:=fun σ H R=>ta σ H fun vs H1=>∃j:Int,vs=[.int j]/\-(2^62)<=j/\j<2^62/\R (Itr 0 j.toNat) H1
noncomputable def FO(ta:TA):TI:=fun σ H R=>ta σ H fun vs H1=>∃i j:Int,vs=[.int i,.int j]/\(-(2^62)<=i/\i<2^62/\-(2^62)<=j/\j<2^62)/\R (Itr i (j-i).toNat) H1
theorem ck{a:Expr}{ta:TA}{p pos:Pos}(hg:Gl X "range")(hm:X.mg "range"=none)(ha:PA X [a] ta)(hs:starEach [a] X.env=[(false,eval a X.env)]:=by rfl):PI X tg (.Call (.Name "range" p) [a] [] pos) (EU ta):=by
 intro pins s σ H R I h;refine Call_ (kA I hg hm boot_range (zcx (thn (ha pos pins s σ H _ I h) fun us s1 ⟨vs,H1,I1,r1,q1⟩=>?_) hs rfl));obtain⟨j,e,q1,q2,q⟩:=q1;subst e
 cases r1 with
 |cons r rr=>
  cases rr;obtain⟨t,rfl⟩:=r;exact call_range_1 (tD I1 (by omega) (by omega) q1 q2 (by simpa using q))
theorem pY{a b:Expr}{ta:TA}{p pos:Pos}(hg:Gl X "range")(hm:X.mg "range"=none)(ha:PA X [a,b] ta)(hs:starEach [a,b] X.env=[(false,eval a X.env),(false,eval b X.env)]:=by rfl)(hs2:starEach [b] X.env=[(false,eval b X.env)]:=by rfl):
  PI X tg (.Call (.Name "range" p) [a,b] [] pos) (FO ta):=by
 intro pins s σ H R I h;refine Call_ (kA I hg hm boot_range (zcx (thn (ha pos pins s σ H _ I h) fun us s1 ⟨vs,H1,I1,r1,q1⟩=>?_) (by rw[hs,hs2]) (by rw[hs2];rfl)))
 obtain⟨i,j,e,⟨q1,q2,q3,q4⟩,q⟩:=q1;subst e
 cases r1 with
 |cons r rr=>
  cases rr with
  |cons r' rr=>
   cases rr;obtain⟨t,rfl⟩:=r;obtain⟨t',rfl⟩:=r';exact call_range_2 (tD I1 q1 q2 q3 q4 q)
noncomputable def FS(wi:TI)(g:TG)(tb:TS):TS:=fun D σ H=>wi σ H fun J H1=>∃W:Nat->Nat->St->Hp->Prop,(∃m,W 0 m σ H1)/\∀i m σ H,W i m σ H ->
 (J.stop i H/\D.nx σ H)\/(J.go i H/\∃N:St->Hp->Prop,(∀σ' H',N σ' H'->∃m',m'<m/\W (i+1) m' σ' H')/\∀x H',J.yld i H x H'->g x σ H' fun σ2 H2=>tb { D with nx:=N,ct:=N,bk:=D.nx } σ2 H2)
noncomputable def ku(fp:List Addr)(h:Heap):List (Addr×Obj):=fp.filterMap fun b=>(h.get? b).map fun o=>(b,o)
theorem dM{fp:List Addr}{h:Heap}{b:Addr}{o:Obj}(hb:b∈fp)(e:h.get? b=some o):(b,o)∈ku fp h:=List.mem_filterMap.mpr ⟨b,hb,by rw[e];rfl⟩
theorem yG{fp:List Addr}{h:Heap}{p:Addr×Obj}(hp:p∈ku fp h):p.1∈fp/\h.get? p.1=some p.2:=by
 obtain⟨b,hb,e⟩:=List.mem_filterMap.mp hp
 cases q:h.get? b with
 |none=>rw[q] at e;cases e
 |some o=>
  rw[q] at e;have e':(b,o)=p:=zbj e;subst e';exact⟨hb,q⟩
theorem Inv.pinned{pins:List (Addr×Obj)}{σ:St}{H:Hp}{s:Shared}{fp:List Addr}(I:Inv X pins σ H s)(hf:∀b∈fp,fM X pins H b)(ho:∀b∈fp,∃o,s.heap.get? b=some o/\∀v,o.data≠.cell v):Inv X (pins++ku fp s.heap) σ H s:=
 I.KW fun p hp=>(zaL.mp hp).elim (fun z=>I.pin p (zaC _ z)) fun z=>by
  obtain⟨hb,e⟩:=yG z;obtain⟨f0,f1,f2,_⟩:=hf p.1 hb;obtain⟨o,e',d⟩:=ho p.1 hb;rw[e] at e';cases e';exact⟨e,f0,f1,f2,d⟩
theorem Inv.unpinned{pins pl:List (Addr×Obj)}{σ:St}{H:Hp}{s:Shared}(I:Inv X (pins++pl) σ H s):Inv X pins σ H s:=I.KW fun p hp=>I.pin p (zaC _ (zbn _ hp))
theorem eQ{iter:Expr}{body:List Stmt}{wi:TI}{g:TG}{tb:TS}{pos:Pos}(hp:PassesOwn (model X.prog X.w) X.A X.env X.xe)(hc:X.calm=true)(hi:PI X tg iter wi)(hg:PG X tg g)(hb:PSs X body tb)(hs:∀x,foldedSetIterable iter X.env x=pure x:=by intro _;rfl):PS X (.For tg iter body [] pos) (FS wi g tb):=.mk <| by
 intro pins s σ H D I h;refine wpAny_For (thn (hi pins s σ H _ I h) fun v s1 h1=>thn h1 fun itv s2 h2=>?_) hs;obtain⟨it,fp,tn,J,H2,e,I2,T,st2,f2,W,⟨m0,w0⟩,turn⟩:=h2;subst e;have stat:∀ {H':Hp},(∀b∈fp,H' b=none)->∀b∈fp,fM X pins H' b:=fun hn b hb=>⟨hn b hb,(f2 b hb).2⟩;refine codeAny_forLoop_any (fun n s'=>∃i σ' H',Inv X pins σ' H' s'/\tn i s'.heap/\(∀b∈fp,H' b=none)/\W i n σ' H') ?_ m0 ⟨0,σ,H2,I2,st2,fun b hb=>(f2 b hb).1,w0⟩
 rintro n s3 ⟨i,σ3,H3,I3,st3,fr3,w3⟩;rcases turn i n σ3 H3 w3 with⟨stop,qn⟩|⟨go,N,hN,step⟩
 ·refine zcA hp (thn (T.done X rfl rfl rfl hc i pins s3 σ3 H3 X.xe I3 (stat fr3) st3 stop) fun r s4 ⟨hr,I4⟩=>?_)
  subst hr;exact wpAny_execs_nil ⟨σ3,H3,I4,qn⟩
 ·refine zcA hp (thn (T.item X rfl rfl rfl hc i pins s3 σ3 H3 X.xe I3 (stat fr3) st3 go) fun r s4 ⟨u,hr,h4⟩=>?_)
  subst hr;refine zcA hp (thn h4 fun _ s5 ⟨x,H5,I5,r5,y5,st5,fr5⟩=>?_);have I5':=I5.pinned (stat fr5) (T.obj _ _ st5);refine zcA hp (thn (hg _ s5 σ3 H5 x u _ I5' r5 (step x H5 y5)) fun _ s6 ⟨σ6,H6,I6,q6⟩=>?_);refine zcA hp (thn (hb _ s6 σ6 H6 _ I6 q6) fun f s7 q7=>?_)
  have again:∀ {σ7:St} {H7:Hp},Inv X (pins++ku fp s5.heap) σ7 H7 s7->N σ7 H7->∃m,m<n/\∃i σ' H',Inv X pins σ' H' s7/\tn i s7.heap/\(∀b∈fp,H' b=none)/\W i m σ' H':=fun {σ7 H7} I7 n7=>by
   obtain⟨m',hm,w7⟩:=hN σ7 H7 n7;refine⟨m',hm,i+1,σ7,H7,I7.unpinned,T.keep _ _ _ st5 fun b hb o e=>(I7.pin (b,o) (zaC _ (zaC _ (dM hb e)))).1,fun b hb=>?_,w7⟩;obtain⟨o,e,d⟩:=T.obj _ _ st5 b hb;exact(I7.pin (b,o) (zaC _ (zaC _ (dM hb e)))).2.1
  cases f with
  |next=>obtain⟨σ7,H7,I7,n7⟩:=q7;exact again I7 n7
  |cont=>obtain⟨σ7,H7,I7,n7⟩:=q7;exact again I7 n7
  |brk=>obtain⟨σ7,H7,I7,q7⟩:=q7;exact⟨σ7,H7,I7.unpinned,q7⟩
  |ret v=>obtain⟨x7,σ7,H7,I7,r7,q7⟩:=q7;exact⟨x7,σ7,H7,I7.unpinned,r7,q7⟩
end
noncomputable abbrev R2:=V->V->Hp->VK->Prop
noncomputable def OpR(X:Cx)(f:Value->Value->Sem Value)(r:R2):Prop:=
 ∀(pins:List (Addr×Obj)) (s:Shared) (σ:St) (H:Hp) (x y:V) (v u:Value) (Q:VK),Inv X pins σ H s->aB x v->aB y u->r x y H Q ->
  wpAny (model X.prog X.w) X.A (f v u) (EP X pins σ Q) X.xe s
noncomputable def UnR(X:Cx)(f:Value->Sem Value)(r:V->Hp->VK->Prop):Prop:=
 ∀(pins:List (Addr×Obj)) (s:Shared) (σ:St) (H:Hp) (x:V) (v:Value) (Q:VK),Inv X pins σ H s->aB x v->r x H Q ->
  wpAny (model X.prog X.w) X.A (f v) (EP X pins σ Q) X.xe s
noncomputable def cW(X:Cx)(f:Value)(r:List V->Hp->VK->Prop):Prop:=
 ∀(pins:List (Addr×Obj)) (s:Shared) (σ:St) (H:Hp) (xs:List V) (us:List Value) (Q:VK),Inv X pins σ H s->ay xs us->r xs H Q ->
  wpAny (model X.prog X.w) X.A (call f us) (EP X pins σ Q) X.xe s
noncomputable def JS(X:Cx)(r:V->Hp->(Bool->Hp->Prop)->Prop):Prop:=
 ∀(pins:List (Addr×Obj)) (s:Shared) (σ:St) (H:Hp) (x:V) (v:Value) (Q:Bool->Hp->Prop),Inv X pins σ H s->aB x v->r x H Q ->
  wpAny (model X.prog X.w) X.A (truthy v) (TP X pins σ Q) X.xe s
noncomputable def tOp(r:R2)(ta tb:TE):TE:=fun σ H Q=>ta σ H fun x H1=>tb σ H1 fun y H2=>r x y H2 Q
noncomputable def tUn(r:V->Hp->VK->Prop)(ta:TE):TE:=fun σ H Q=>ta σ H fun x H1=>r x H1 Q
noncomputable def rI(C:Int->Int->Prop)(g:Int->Int->V):R2:=fun x y H Q=>∃i j,x=.int i/\y=.int j/\C i j/\Q (g i j) H
noncomputable def rI0(g:Int->Int->V):R2:=fun x y H Q=>∃i j,x=.int i/\y=.int j/\Q (g i j) H
noncomputable def rU(g:Int->V):V->Hp->VK->Prop:=fun x H Q=>∃i,x=.int i/\Q (g i) H
section
variable{X:Cx}{a b c:Expr}{ta tb tc:TE}{pos:Pos}
theorem Gd(ha:PE X a ta)(hb:PE X b tb){pins:List (Addr×Obj)}{s:Shared}{σ:St}{H:Hp}{R:V->V->Hp->Prop}(I:Inv X pins σ H s)(h:ta σ H fun x H1=>tb σ H1 fun y H2=>R x y H2){Q:Value->Shared->Prop}{f:Value->Value->Sem Value}(hf:∀v u s2 x y H2,Inv X pins σ H2 s2->aB x v->aB y u->R x y H2->wpAny (model X.prog X.w) X.A (f v u) Q X.xe s2):
  wpAny (model X.prog X.w) X.A (eval a X.env) (fun v s₁=>wpAny (model X.prog X.w) X.A (eval b X.env) (fun u s₂=>wpAny (model X.prog X.w) X.A (f v u) Q X.xe s₂) X.xe s₁) X.xe s:=by
 refine thn (ha pins s σ H _ I h) fun v s1 ⟨x,H1,I1,r1,q1⟩=>?_;refine thn (hb pins s1 σ H1 _ I1 q1) fun u s2 ⟨y,H2,I2,r2,q2⟩=>?_;exact hf v u s2 x y H2 I2 r1 r2 q2
theorem aE{op:Operator}{r:R2}(ho:OpR X (binaryOp op) r)(ha:PE X a ta)(hb:PE X b tb):PE X (.BinOp a op b pos) (tOp r ta tb):=.mk <| by
 intro pins s σ H Q I h;exact wpAny_BinOp (Gd ha hb I h fun v u s2 x y H2 I2 rx ry q=>ho pins s2 σ H2 x y v u Q I2 rx ry q)
theorem A0{op:UnaryOp}{r:V->Hp->VK->Prop}(ho:UnR X (unaryOp op) r)(ha:PE X a ta):PE X (.UnaryOp op a pos) (tUn r ta):=.mk <| by
 intro pins s σ H Q I h;exact UnaryOp_ (thn (ha pins s σ H _ I h) fun v s1 ⟨x,H1,I1,r1,q1⟩=>ho pins s1 σ H1 x v Q I1 r1 q1)
theorem opI{f:Value->Value->Sem Value}{C:Int->Int->Prop}{g:Int->Int->Int}(rule:∀(i j:Int)(t u:Tok)(s:Shared)(Q:Value->Shared->Prop)(E:Value->Shared->Prop),C i j->Q (.int (g i j) s.toks) { s with toks:=s.toks+1 }->wpAny (model X.prog X.w) X.A (f (.int i t) (.int j u)) Q E s):
  OpR X f (rI C fun i j=>.int (g i j)):=by
 intro pins s σ H x y v u Q I rx ry h;obtain⟨i,j,rfl,rfl,hc,q⟩:=h;obtain⟨t,rfl⟩:=rx;obtain⟨t',rfl⟩:=ry;exact rule i j t t' s _ _ hc ⟨.int (g i j),H,I.tok _,⟨_,rfl⟩,q⟩
theorem A8{f:Value->Value->Sem Value}{g:Int->Int->Int}(rule:∀(i j:Int)(t u:Tok)(s:Shared)(Q:Value->Shared->Prop)(E:Value->Shared->Prop),Q (.int (g i j) s.toks) { s with toks:=s.toks+1 }->wpAny (model X.prog X.w) X.A (f (.int i t) (.int j u)) Q E s):
  OpR X f (rI0 fun i j=>.int (g i j)):=by
 intro pins s σ H x y v u Q I rx ry h;obtain⟨i,j,rfl,rfl,q⟩:=h;obtain⟨t,rfl⟩:=rx;obtain⟨t',rfl⟩:=ry;exact rule i j t t' s _ _ ⟨.int (g i j),H,I.tok _,⟨_,rfl⟩,q⟩
theorem DG{f:Value->Value->Sem Value}{g:Int->Int->Bool}(rule:∀(i j:Int)(t u:Tok)(s:Shared)(Q:Value->Shared->Prop)(E:Value->Shared->Prop),Q (.bool (g i j)) s->wpAny (model X.prog X.w) X.A (f (.int i t) (.int j u)) Q E s):
  OpR X f (rI0 fun i j=>.bl (g i j)):=by
 intro pins s σ H x y v u Q I rx ry h;obtain⟨i,j,rfl,rfl,q⟩:=h;obtain⟨t,rfl⟩:=rx;obtain⟨t',rfl⟩:=ry;exact rule i j t t' s _ _ ⟨.bl (g i j),H,I,rfl,q⟩
noncomputable def Ke(i j:Int):Prop:=0<j/\j<1073741824
noncomputable def Gg(i j:Int):Prop:=0<=j/\j<=1000000/\i.natAbs<2^64
noncomputable def oI(i j:Int):Prop:=(-(2^64)<i/\i<2^64)\/(-(2^64)<j/\j<2^64)
theorem oI.ok{i j:Int}(h:oI i j):IntMulOk i j:=by
 rcases h with⟨h1,h2⟩|⟨h1,h2⟩
 ·exact .of_left (intBits_le_64 h1 h2)
 ·exact .of_right (intBits_le_64 h1 h2)
theorem vP(k:Nat):(0:Int)<=2^k:=by
 rw[two_pow_cast];exact Int.natCast_nonneg _
theorem dh:OpR X (binaryOp .Add) (rI0 fun i j=>.int (i+j)):=A8 fun _ _ _ _ _ _ _ q=>add_int q
theorem nO:OpR X (binaryOp .Sub) (rI0 fun i j=>.int (i-j)):=A8 fun _ _ _ _ _ _ _ q=>sub_int q
theorem nh:OpR X (binaryOp .Mult) (rI oI fun i j=>.int (i*j)):=opI fun _ _ _ _ _ _ _ hc q=>mul_int q hc.ok
theorem mf:OpR X (binaryOp .FloorDiv) (rI Ke fun i j=>.int (i / j)):=opI fun i j _ _ _ _ _ hc q=>by
 have h1:(0:Int)<j:=hc.1;have h2:j<1073741824:=hc.2;exact floordiv_int (by omega) (by rw[Int.fdiv_eq_ediv_of_nonneg i (by omega)];exact q) (.inl (PyProof.noPylong_small (by omega)))
theorem jb:OpR X (binaryOp .Mod) (rI (fun _ j=>0<j) fun i j=>.int (i%j)):=opI fun i j _ _ _ _ _ hc q=>by
 have h1:(0:Int)<j:=hc;exact mod_int' (by omega) (by rw[Int.fmod_eq_emod_of_nonneg i (by omega)];exact q)
theorem Gx:OpR X (binaryOp .Pow) (rI Gg fun i j=>.int (i^j.toNat)):=opI fun _ _ _ _ _ _ _ hc q=>pow_int_small hc.1 hc.2.1 hc.2.2 q
theorem gM:OpR X (binaryOp .LShift) (rI Gg fun i j=>.int (i*2^j.toNat)):=opI fun _ _ _ _ _ _ _ hc q=>lshift_int_small hc.1 hc.2.1 hc.2.2 q
theorem qr:OpR X (binaryOp .RShift) (rI (fun _ j=>0<=j) fun i j=>.int (i / 2^j.toNat)):=opI fun i j _ _ _ _ _ hc q=>
 rshift_int hc (by rw[Int.fdiv_eq_ediv_of_nonneg i (vP _)];exact q)
theorem j0:OpR X (binaryOp .BitAnd) (rI0 fun i j=>.int (Builtin.bitAnd i j)):=A8 fun _ _ _ _ _ _ _ q=>and_int q
theorem xQ:OpR X (binaryOp .BitOr) (rI0 fun i j=>.int (Builtin.bitOr i j)):=A8 fun _ _ _ _ _ _ _ q=>or_int q
theorem Ec:OpR X (inplaceOp .Add) (rI0 fun i j=>.int (i+j)):=A8 fun _ _ _ _ _ _ _ q=>iadd_int q
theorem unI{f:Value->Sem Value}{g:Int->Int}(rule:∀(i:Int)(t:Tok)(s:Shared)(Q:Value->Shared->Prop)(E:Value->Shared->Prop),Q (.int (g i) s.toks) { s with toks:=s.toks+1 }->wpAny (model X.prog X.w) X.A (f (.int i t)) Q E s):
  UnR X f (rU fun i=>.int (g i)):=by
 intro pins s σ H x v Q I rx h;obtain⟨i,rfl,q⟩:=h;obtain⟨t,rfl⟩:=rx;exact rule i t s _ _ ⟨.int (g i),H,I.tok _,⟨_,rfl⟩,q⟩
theorem vp:UnR X (unaryOp .USub) (rU fun i=>.int (-i)):=unI fun _ _ _ _ _ q=>neg_int q
end
section
variable{X:Cx}{a b c:Expr}{ta tb tc:TE}{pos:Pos}
theorem ye:OpR X (compareOp .Lt) (rI0 fun i j=>.bl (decide (i<j))):=DG fun _ _ _ _ _ _ _ q=>lt_int q
theorem Ff:OpR X (compareOp .LtE) (rI0 fun i j=>.bl (decide (i<=j))):=DG fun _ _ _ _ _ _ _ q=>le_int q
theorem EG:OpR X (compareOp .Gt) (rI0 fun i j=>.bl (decide (j<i))):=DG fun _ _ _ _ _ _ _ q=>gt_int q
theorem Jh:OpR X (compareOp .GtE) (rI0 fun i j=>.bl (decide (j<=i))):=DG fun _ _ _ _ _ _ _ q=>ge_int q
theorem aR(b:Expr){op:CmpOp}(h:op≠.In:=by decide)(h2:op≠.NotIn:=by decide):behindInMarks op b=false:=by
 have e1:(op == CmpOp.In)=false:=by cases op<;>first|rfl|exact absurd rfl h
 have e2:(op == CmpOp.NotIn)=false:=by cases op<;>first|rfl|exact absurd rfl h2
 cases b<;>simp[behindInMarks,e1,e2]
theorem l7{op:CmpOp}{r:R2}(ho:OpR X (compareOp op) r)(ha:PE X a ta)(hb:PE X b tb)(hm:behindInMarks op b=false):PE X (.Compare a [op] [b] pos) (tOp r ta tb):=.mk <| by
 intro pins s σ H Q I h;exact wpAny_Compare1 (Gd ha hb I h fun v u s2 x y H2 I2 rx ry q=>ho pins s2 σ H2 x y v u Q I2 rx ry q) hm
noncomputable def xq(t:TE):TT:=fun σ H Q=>t σ H fun x H'=>∃k,x=.bl k/\Q k H'
theorem aF{op:CmpOp}{r:R2}(ho:OpR X (compareOp op) r)(ha:PE X a ta)(hb:PE X b tb)(hm:behindInMarks op b=false):PT X (.Compare a [op] [b] pos) (xq (tOp r ta tb)):=by
 intro pins s σ H Q I h
 refine wpAny_isTrue_Compare1 (thn (ha pins s σ H _ I h) fun v s1 ⟨x,H1,I1,r1,q1⟩=>thn (hb pins s1 σ H1 _ I1 q1) fun u s2 ⟨y,H2,I2,r2,q2⟩=>
  thn (ho pins s2 σ H2 x y v u _ I2 r1 r2 q2) fun c s3 ⟨z,H3,I3,r3,k,e,q3⟩=>?_) hm
 subst e;cases r3;exact zbV ⟨H3,I3,q3⟩
noncomputable def Ag(r r':R2)(ta tb tc:TE):TE:=fun σ H Q=>ta σ H fun x H1=>tb σ H1 fun y H2=>r x y H2 fun z H3=>∃k,z=.bl k /\
 (if k=true then tc σ H3 fun w' H4=>r' y w' H4 Q else Q (.bl false) H3)
theorem tI{op op':CmpOp}{r r':R2}(ho:OpR X (compareOp op) r)(ho':OpR X (compareOp op') r')(ha:PE X a ta)(hb:PE X b tb)(hc:PE X c tc)(hm:lastMarks [op,op'] [b,c]=false:=by with_unfolding_all rfl):PT X (.Compare a [op,op'] [b,c] pos) (xq (Ag r r' ta tb tc)):=by
 intro pins s σ H Q I h
 refine isTrue_chain (thn (ha pins s σ H _ I h) fun v s1 ⟨x,H1,I1,r1,q1⟩=>test_link (thn (hb pins s1 σ H1 _ I1 q1) fun u s2 ⟨y,H2,I2,r2,q2⟩=>
  thn (ho pins s2 σ H2 x y v u _ I2 r1 r2 q2) fun d s3 ⟨z,H3,I3,r3,k,e,q3⟩=>?_)) hm
 subst e;cases r3;refine zbV ?_
 cases k with
 |false=>
  obtain⟨k',e',q'⟩:=q3;cases e';exact ite_ff ⟨H3,I3,q'⟩
 |true=>
  refine ite_tt (test_last (thn (hc pins s3 σ H3 _ I3 q3) fun w' s4 ⟨z',H4,I4,r4,q4⟩=>thn (ho' pins s4 σ H4 y z' u w' _ I4 r2 r4 q4) fun d' s5 ⟨z2,H5,I5,r5,k2,e2,q5⟩=>?_));subst e2;cases r5;exact zbV ⟨H5,I5,q5⟩
noncomputable def sH(K:W.Frag)(x:V)(H:Hp)(k:Bool):Prop:=
 match x with
 |.non=>k=false
 |.bl b=>k=b
 |.int i=>k=(i != 0)
 |.str y=>y.length<=sizeLine/\k=((y.length:Int) != 0)
 |.byt y=>y.size<=sizeLine/\k=((y.size:Int) != 0)
 |.ref p=>(∃xs,SqL K H p xs/\k=!xs.isEmpty)\/(∃xs,SqT K H p xs/\k=!xs.isEmpty)\/∃kvs,H p=some (.dK kvs)/\k=!kvs.isEmpty
 |_=>False
theorem vK{κ:Type}{kvs:List (κ×V)}{vs:List (κ×Value)}(r:KV kvs vs):(!vs.isEmpty)=!kvs.isEmpty:=by
 cases r<;>rfl
theorem mD{xs:List V}{its:List Value}(r:ay xs its):(!its.toArray.isEmpty)=!xs.isEmpty:=by
 cases r<;>simp
theorem nV:(sizeLine:Nat)<2^63:=by rw[sizeLine_eq];decide
theorem vQ:JS X (fun x H Q=>∃k,sH X.K x H k/\Q k H):=by
 intro pins s σ H x v Q I rx h;obtain⟨k,e,q⟩:=h;have hl:=nV;have hs:sizeLine=16777216:=sizeLine_eq
 cases x with
 |non=>
  cases rx;have e':k=false:=e;subst e';exact truthy_none ⟨H,I,q⟩
 |bl b=>
  cases rx;have e':k=b:=e;subst e';exact zbV ⟨H,I,q⟩
 |int i=>
  obtain⟨t,rfl⟩:=rx;have e':k=(i != 0):=e;subst e';exact PySem.P.truthy_int ⟨H,I,q⟩
 |str y=>
  obtain⟨t,rfl⟩:=rx;obtain⟨hy,e'⟩:y.length<=sizeLine/\k=((y.length:Int) != 0):=e;subst e';exact PySem.P.truthy_str (by omega) ⟨H,I.tok _,q⟩
 |byt y=>
  obtain⟨t,rfl⟩:=rx;obtain⟨hy,e'⟩:y.size<=sizeLine/\k=((y.size:Int) != 0):=e;subst e';exact W.truthy_bytes (by omega) ⟨H,I.tok _,q⟩
 |ref p=>
  cases rx;have e':(∃xs,SqL X.K H p xs/\k=!xs.isEmpty)\/(∃xs,SqT X.K H p xs/\k=!xs.isEmpty)\/∃kvs,H p=some (.dK kvs)/\k=!kvs.isEmpty:=e;rcases e' with⟨xs,hx,e'⟩|⟨xs,hx,e'⟩|⟨kvs,hx,e'⟩
  ·subst e'
   obtain⟨its,r,pl,hz⟩:=I.list hx;have hlen:=r.length;exact wpAny_truthy_list pl.isList (by simp only[zao];omega) ⟨H,I.tok _,by rw[mD r];exact q⟩
  ·subst e'
   obtain⟨its,r,pl,hz⟩:=I.tuple hx;have hlen:=r.length;exact truthy_tuple pl (by simp only[zao];omega) ⟨H,I.tok _,by rw[mD r];exact q⟩
  ·subst e'
   obtain⟨hz,hS,vs,r,m⟩:kvs.length<=sizeLine/\(p == sysModules)=false/\∃vs,KV kvs vs/\s.heap.DictOf (aY X.prog X.w) p vs:=I.hok p _ hx;have hlen:kvs.length=vs.length:=zbb r;exact wpAny_truthy_dict hS m (by omega) ⟨H,I.tok _,by rw[vK r];exact q⟩
 |_=>exact(show False from e).elim
theorem Ck(ha:PE X a ta)(he:∀whole,isTrue a X.env whole=(do let v ← whole;standAt a.pos;holding [v] (truthy v))):
  PT X a (fun σ H Q=>ta σ H fun x H'=>∃k,sH X.K x H' k/\Q k H'):=by
 intro pins s σ H Q I h;exact isTrue_plain (thn (ha pins s σ H _ I h) fun v s1 ⟨x,H1,I1,r1,q1⟩=>vQ pins s1 σ H1 x v Q I1 r1 q1) (he _)
theorem gE{x:V}{us:List Value}(r:ay [x] us):∃u,us=[u]/\aB x u:=by
 cases r with
 |cons r1 r2=>cases r2;exact⟨_,rfl,r1⟩
theorem zB{x y:V}{us:List Value}(r:ay [x,y] us):∃u w',us=[u,w']/\aB x u/\aB y w':=by
 cases r with
 |cons r1 r2=>
  cases r2 with
  |cons r3 r4=>cases r4;exact⟨_,_,rfl,r1,r3⟩
theorem nw:cW X (.builtin "abs") (fun xs H Q=>∃i,xs=[.int i]/\Q (.int (if i<0 then -i else i)) H):=by
 intro pins s σ H xs us Q I r h;obtain⟨i,rfl,q⟩:=h;obtain⟨u,rfl,t,rfl⟩:=gE r;exact call_abs_int fun u tk=>⟨.int (if i<0 then -i else i),H,I.tok _,⟨_,rfl⟩,q⟩
theorem kr(hc:X.calm=true):cW X (.builtin "max") (fun xs H Q=>∃i j,xs=[.int i,.int j]/\Q (.int (if j>i then j else i)) H):=by
 intro pins s σ H xs us Q I r h;obtain⟨i,j,rfl,q⟩:=h;obtain⟨u,w',rfl,⟨t,rfl⟩,⟨t',rfl⟩⟩:=zB r;refine max_two_ints (I.ok.hd hc) fun h' tk k=>⟨_,H,I.kept k,?_,q⟩;by_cases hj:j>i
 ·rw[zaf hj,zaf hj];exact⟨_,rfl⟩
 ·rw[zad hj,zad hj];exact⟨_,rfl⟩
theorem yX(hc:X.calm=true):cW X (.builtin "min") (fun xs H Q=>∃i j,xs=[.int i,.int j]/\Q (.int (if j<i then j else i)) H):=by
 intro pins s σ H xs us Q I r h;obtain⟨i,j,rfl,q⟩:=h;obtain⟨u,w',rfl,⟨t,rfl⟩,⟨t',rfl⟩⟩:=zB r;refine min_two_ints (I.ok.hd hc) fun h' tk k=>⟨_,H,I.kept k,?_,q⟩;by_cases hj:j<i
 ·rw[zaf hj,zaf hj];exact⟨_,rfl⟩
 ·rw[zad hj,zad hj];exact⟨_,rfl⟩
theorem pe:cW X (.type "int") (fun xs H Q=>(∃i,xs=[.int i]/\Q (.int i) H)\/∃k,xs=[.bl k]/\Q (.int (if k then 1 else 0)) H):=by
 intro pins s σ H xs us Q I r h;rcases h with⟨i,rfl,q⟩|⟨k,rfl,q⟩
 ·obtain⟨u,rfl,t,rfl⟩:=gE r
  exact call_int_int ⟨.int i,H,I,⟨_,rfl⟩,q⟩
 ·obtain⟨u,rfl,r1⟩:=gE r
  cases r1;exact call_int_bool ⟨.int (if k then 1 else 0),H,I.tok _,⟨_,rfl⟩,q⟩
noncomputable def D9(K:W.Frag)(x:V)(H:Hp)(n:Nat):Prop:=
 match x with
 |.str y=>y.length<=sizeLine/\n=y.length
 |.byt y=>y.size<=sizeLine/\n=y.size
 |.ref p=>(∃xs,SqL K H p xs/\n=xs.length)\/∃xs,SqT K H p xs/\n=xs.length
 |_=>False
theorem Au:cW X (.builtin "len") (fun xs H Q=>∃x n,xs=[x]/\D9 X.K x H n/\Q (.int n) H):=by
 intro pins s σ H xs us Q I r h;obtain⟨x,n,rfl,e,q⟩:=h;obtain⟨u,rfl,rx⟩:=gE r;have hl:=nV;have hs:sizeLine=16777216:=sizeLine_eq
 cases x with
 |str y=>
  obtain⟨t,rfl⟩:=rx;obtain⟨hy,e'⟩:y.length<=sizeLine/\n=y.length:=e;subst e';exact len_str (by omega) ⟨.int _,H,I.tok _,⟨_,rfl⟩,q⟩
 |byt y=>
  obtain⟨t,rfl⟩:=rx;obtain⟨hy,e'⟩:y.size<=sizeLine/\n=y.size:=e;subst e';exact W.len_bytes (by omega) ⟨.int _,H,I.tok _,⟨_,rfl⟩,q⟩
 |ref p=>
  cases rx;have e':(∃xs,SqL X.K H p xs/\n=xs.length)\/∃xs,SqT X.K H p xs/\n=xs.length:=e;rcases e' with⟨xs,hx,e'⟩|⟨xs,hx,e'⟩
  ·subst e'
   obtain⟨its,r',pl,hz⟩:=I.list hx;have hlen:=r'.length;exact Calls.call_len_list pl.isList (by simp only[zao];omega) ⟨.int xs.length,H,I.tok _,⟨_,by simp only[zao];rw[hlen]⟩,q⟩
  ·subst e'
   obtain⟨its,r',pl,hz⟩:=I.tuple hx;have hlen:=r'.length;exact len_tuple pl (by simp only[zao];omega) ⟨.int xs.length,H,I.tok _,⟨_,by simp only[zao];rw[hlen]⟩,q⟩
 |_=>exact(show False from e).elim
end
structure GQ(h:Heap)(x dx C:Addr)(mA:Str->Option Value):Prop where
 obj:h.get? x=some (W.instObj C dx)
 ns:h.Ns1 dx mA
 ne:dx≠x
set_option tactic.hygienic true in
theorem zq{h:Heap}{dx:Addr}{mA:Str->Option Value}(n:h.Ns1 dx mA):∃od,h.get? dx=some od/\∀name,W.lookIn name od=some (mA name):=by
 obtain⟨o,es,ep,ho,hd,hk,_,hm⟩:=n;refine⟨o,ho,fun name=>?_⟩;have e:=hm name;unfold nsFind findBy at e;rw[←Array.find?_toList] at e
 unfold W.lookIn;rw[hd];dsimp only;split
 ·rename_i y q
  rw[q] at e;exact zcB some e
 ·rename_i q
  rw[q] at e
  have a:es.toList.any (·.refKey)=false:=by
   rw[List.any_eq_false];intro y hy;obtain⟨z,t,hkey⟩:=hk y (Array.mem_toList_iff.mp hy);simp[DictEntry.refKey,hkey]
  have a':¬ es.toList.any (·.refKey)=true:=by rw[a];exact zat
  rw[zad a'];exact zcB some e
theorem GQ.look{h:Heap}{x dx C:Addr}{mA:Str->Option Value}(I:GQ h x dx C mA):∃od,W.InstAt h x (W.instObj C dx) C (some od)/\∀name,W.lookIn name od=some (mA name):=
 let ⟨od,ho,hl⟩:=zq I.ns
 ⟨od,⟨I.obj,rfl,rfl,ho⟩,hl⟩
theorem i7.some_of{v:V}{o:Option Value}(r:i7 (some v) o):∃u,o=some u/\aB v u:=by
 cases o with
 |none=>exact(show False from r).elim
 |some u=>exact⟨u,rfl,r⟩
section
variable{P:Program}{w:World}{H H':Hp}{h h':Heap}{a C dx:Addr}{fs fs':List (Str×V)}
theorem Do(hok:HOk P w H h)(e:H a=some (.ins C dx fs)):∃mA,GQ h a dx C mA/\(∀f,i7 (fs.lookup f) (mA f))/\PySem.Within mA (fs.map (·.1))/\fs.length<=1000/\H dx=some (.own a):=by
 obtain⟨d,z,ne,ob,mA,n,r,q⟩:=(show bb P w H h a (.ins C dx fs) from hok a _ e)
 exact⟨mA,⟨ob,n,ne⟩,r,q,z,d⟩
end
structure Cls(K:W.Frag)(C:Addr):Prop where
 pg:W.plainGet K C Str.empty=true
 hd:W.hasDictIn K C=true
 po:W.plainOver K C=true
 sa:W.findIn K (.ref C) "__setattr__"=some (some (.builtin "object.__setattr__"))
theorem Cls.get{K:W.Frag}{C:Addr}(c:Cls K C)(f:Str):W.plainGet K C f=true:=c.pg
structure Con(K:W.Frag)(C:Addr)(f:Str)(v:V)(u:Value):Prop where
 at_:W.findIn K (.ref C) f=some (some u)
 rel:aB v u
 get:W.specialIn K u "__get__"=some none
 cp:W.copiedNames.contains f=false
structure Kq(K:W.Frag)(C:Addr)(m:Str)(f:Addr):Prop where
 at_:W.findIn K (.ref C) m=some (some (.ref f))
 fn:W.isFn K (.ref f)=true
 kp:W.keepIn K (.ref f)=true
section
variable{X:Cx}{pins:List (Addr×Obj)}{σ:St}{H:Hp}{s:Shared}{A:Around}{E:Value->Shared->Prop}{Q:Value->Shared->Prop}{c:Value}{b:Bool}
inductive j7 (K:PySem.W.Frag) (H:Hp):V->Value->Prop where
 |non:j7 K H .non (.type "NoneType")
 |bl (x:Bool):j7 K H (.bl x) (.type "bool")
 |int (i:Int):j7 K H (.int i) (.type "int")
 |str (x:Str):j7 K H (.str x) (.type "str")
 |flt (x:UInt64):j7 K H (.flt x) (.type "float")
 |lst {a:Addr} {xs:List V} (e:H a=some (.lst xs)):j7 K H (.ref a) (.type "list")
 |frz {a:Addr} {o:Obj} {xs:List V} (e:H a=some (.frz o (.lst xs))):j7 K H (.ref a) (.type "list")
 |tup {a:Addr} {xs:List V} (e:H a=some (.tup xs)):j7 K H (.ref a) (.type "tuple")
 |dK {a:Addr} {kvs:List (Key×V)} (e:H a=some (.dK kvs)):j7 K H (.ref a) (.type "dict")
 |dT {a:Addr} {kvs:List (List Key×V)} (e:H a=some (.dT kvs)):j7 K H (.ref a) (.type "dict")
 |ins {a C dx:Addr} {fs:List (Str×V)} (e:H a=some (.ins C dx fs)) (cl:Cls K C) (ha:PySem.W.findIn K (.ref C) "__class__"=some (some (.builtin "object.__class__")))
   (hn:PySem.W.specialIn K (.builtin "object.__class__") "__get__"=some (some (.builtin "getset_descriptor.__get__"))) (htk:PySem.W.takesIn K (.builtin "object.__class__")=some true)
   (hm:PySem.W.mroIn K C (.type "object")=some true):j7 K H (.ref a) (.ref C)
theorem yW{x:V}{u t:Value}(I:Inv X pins σ H s)(rx:aB x u)(ty:j7 X.K H x t)(e:W.kitOne X.K t c=some b)(h:∀tk,Q (.bool b) { s with toks:=tk }):
  wpAny (model X.prog X.w) A (call (.builtin "isinstance") [u,c]) Q E s:=by
 cases ty with
 |non=>cases (show u=Value.none from rx);exact zcM W.kitx_none I.kIn True.intro e (fun z=>nomatch z) h
 |bl y=>cases (show u=Value.bool y from rx);exact zcM W.kitx_bool I.kIn True.intro e (fun z=>nomatch z) h
 |int i=>obtain⟨t,q⟩:=(show ∃t,u=Value.int i t from rx);cases q;exact zcM W.kitx_int I.kIn True.intro e (fun z=>nomatch z) h
 |str y=>obtain⟨t,q⟩:=(show ∃t,u=Value.str y t from rx);cases q;exact zcM W.kitx_str I.kIn True.intro e (fun z=>nomatch z) h
 |flt y=>obtain⟨t,q⟩:=(show ∃t,u=Value.float y t from rx);cases q;exact zcM W.kitx_float I.kIn True.intro e (fun z=>nomatch z) h
 | @lst a xs ea=>
  cases (show u=Value.ref a from rx)
  obtain⟨_,_,n,_,h1⟩:=(show bb X.prog X.w H s.heap a (.lst xs) from I.hok a _ ea)
  exact zcM W.kitx_list I.kIn ⟨_,h1,rfl⟩ e (fun z=>nomatch z) h
 | @frz a ob xs ea=>
  cases (show u=Value.ref a from rx)
  obtain⟨_,_,_,n,_,h1⟩:=(show bb X.prog X.w H s.heap a (.frz ob (.lst xs)) from I.hok a _ ea)
  exact zcM W.kitx_list I.kIn ⟨_,h1,rfl⟩ e (fun z=>nomatch z) h
 | @tup a xs ea=>
  cases (show u=Value.ref a from rx)
  obtain⟨_,_,_,p⟩:=(show bb X.prog X.w H s.heap a (.tup xs) from I.hok a _ ea)
  obtain⟨o,h1,h2,_⟩:=p.1;exact zcM W.kitx_tuple I.kIn ⟨o,h1,h2⟩ e (fun z=>nomatch z) h
 | @dK a kvs ea=>
  cases (show u=Value.ref a from rx)
  obtain⟨_,_,vs,_,p⟩:=(show bb X.prog X.w H s.heap a (.dK kvs) from I.hok a _ ea)
  obtain⟨o,es,ep,h1,h2,_⟩:=p;exact zcM W.kitx_dict I.kIn ⟨o,h1,h2.1⟩ e (fun z=>nomatch z) h
 | @dT a kvs ea=>
  cases (show u=Value.ref a from rx)
  obtain⟨_,_,xs,_,o,es,ep,h1,h2,_⟩:=(show bb X.prog X.w H s.heap a (.dT kvs) from I.hok a _ ea)
  exact zcM W.kitx_dict I.kIn ⟨o,h1,h2.1⟩ e (fun z=>nomatch z) h
 | @ins a C dx fs ea cl ha hn htk hm=>
  cases (show u=Value.ref a from rx)
  obtain⟨mA,O,_⟩:=Do I.hok ea;obtain⟨od,J,_⟩:=O.look;exact zcM (W.kitx_own (cl.get _) cl.hd ha hn htk hm) I.kIn J e (fun z=>nomatch z) h
end
structure cw(k:Nat)(A:Around):Prop where
 hd:A.handled=none
 dp:A.depth+3*k+5<recursionLimit
 un:A.units+16*k+200<cLine
 gd:A.guards=some []
theorem cw.mono{j k:Nat}{A:Around}(r:cw k A)(h:j<=k):cw j A:=⟨r.hd,by have:=r.dp;omega,by have:=r.un;omega,r.gd⟩
theorem cw.deeper{k:Nat}{A:Around}(r:cw (k+1) A)(env:Env):cw k (A.deeper env):=
 ⟨r.hd,by have:=r.dp;show A.depth+1+3*k+5<_;omega,by have:=r.un;show A.units+3+16*k+200<_;omega,r.gd⟩
theorem cw.depth{k:Nat}{A:Around}(r:cw k A):A.depth<recursionLimit:=by have:=r.dp;omega
theorem cw.units{k:Nat}{A:Around}(r:cw k A):A.units+64<cLine:=by have:=r.un;omega
noncomputable def Hw:TA:=fun _ H Q=>Q [] H
noncomputable def jI(ta:TE)(tr:TA):TA:=fun σ H Q=>ta σ H fun x H1=>tr σ H1 fun xs H2=>Q (x::xs) H2
section
variable{X:Cx}{e:Expr}{es:List Expr}{te:TE}{t:TA}{pos:Pos}
theorem af:PA X [] Hw:=.mk <| fun _ _ _ _ H Q I h=>Calls.spliced_nil ⟨[],H,I,.nil,h⟩
theorem ab(ha:PE X e te)(hr:PA X es t)(hs:starEach (e::es) X.env=(false,eval e X.env)::starEach es X.env:=by rfl):PA X (e::es) (jI te t):=.mk <| by
 intro pos pins s σ H Q I h;rw[hs];show wpAny _ _ (spliced ((false,eval e X.env)::backTo pos (starEach es X.env))) _ _ s;refine Calls.spliced_cons (thn (ha pins s σ H _ I h) fun u s1 ⟨x,H1,I1,r1,q1⟩=>?_);exact thn (hr pos pins s1 σ H1 _ I1 q1) fun us s2 ⟨xs,H2,I2,r2,q2⟩=>⟨x::xs,H2,I2,.cons r1 r2,q2⟩
noncomputable def Jv(t:TA):TE:=fun σ H Q=>t σ H fun xs H1=>xs.length<=sizeLine/\∀p,H1 p=none->Q (.ref p) (upd H1 p (.tup xs))
noncomputable def GW(t:TA):TE:=fun σ H Q=>t σ H fun xs H1=>xs.length<=sizeLine/\∀p,H1 p=none->Q (.ref p) (upd H1 p (.lst xs))
theorem cu{x1}(h:PA X es t):PE X (.Tuple es x1 pos) (Jv t):=.mk <| by
 intro pins s σ H Q I hq;refine wpAny_Tuple_spliced (thn (h pos pins s σ H _ I hq) fun us s1 ⟨xs,H1,I1,r,z,q⟩=>⟨by rw[←r.length];exact z,?_⟩)
 have hf:H1 s1.heap.objs.size=none:=I1.hok.fresh (zaj _);refine⟨.ref s1.heap.objs.size,upd H1 s1.heap.objs.size (.tup xs),I1.laid (t':=s1.toks) (fun b u e=>zac _ e) (zaj _) ?_,rfl,q _ hf⟩;exact⟨z,us,r,⟨_,zan _ rfl,rfl,_,rfl⟩,_,zan _ rfl,rfl⟩
theorem du(h:PA X es t):PE X (.List es pos) (GW t):=.mk <| by
 intro pins s σ H Q I hq;refine wpAny_List_spliced (thn (h pos pins s σ H _ I hq) fun us s1 ⟨xs,H1,I1,r,z,q⟩=>⟨by rw[←r.length];exact z,?_⟩)
 have hf:H1 s1.heap.objs.size=none:=I1.hok.fresh (zaj _);refine⟨.ref s1.heap.objs.size,upd H1 s1.heap.objs.size (.lst xs),I1.laid (t':=s1.toks) (fun b u e=>zac _ e) (zaj _) ?_,rfl,q _ hf⟩;exact⟨z,us,0,r,zan _ rfl⟩
end
noncomputable abbrev Sp:=List V->Hp->VK->XK->Prop
noncomputable abbrev CXT:=List Env->Hp->Shared->XK->Value->Shared->Prop
structure tS(P:Program)(w:World)(K:W.Frag)(mg:Str->Option Value)(base:Heap)(A:Around)(outer:List Env)(s:Shared)(H:Hp):Prop where
 frames:A.frames=some outer
 mod:Mod K mg base
 bs:∀b o,base.get? b=some o->s.heap.get? b=some o/\H b=none
 bsz:base.objs.size<=s.heap.objs.size
 funs:s.heap.FunFrames base outer
 frf:∀b∈frs outer,H b=none
 tt:yQ K H
 hok:HOk P w H s.heap
 bare:AllBare s.gens
noncomputable def CE(outer:List Env)(P:Program)(w:World)(H:Hp)(s:Shared)(Q:VK)(u:Value)(s':Shared):Prop:=
 ∃v H',s'.os=s.os/\AllBare s'.gens/\Un (frs outer) [] H H' s.heap s'.heap/\HOk P w H' s'.heap/\aB v u/\Q v H'
noncomputable def CR(CX:CXT)(outer:List Env)(P:Program)(w:World)(H:Hp)(s:Shared)(Q:VK)(E:XK)(r:Result)(s':Shared):Prop:=
 match r with
 |.ok (.ret u)=>CE outer P w H s Q u s'
 |.ok _=>False
 |.error e=>CX outer H s E e s'
structure a7(P:Program)(w:World)(K:W.Frag)(mg:Str->Option Value)(base:Heap)(CX:CXT)(k:Nat)(f:Addr)(fd:FuncData)(ps:List Str)(sp:Sp):Prop where
 len:∀vs H Q E,sp vs H Q E->vs.length=ps.length
 run:∀(A:Around)(outer:List Env)(s:Shared)(H:Hp)(args:Args)(us:List Value)(vs:List V)(Q:VK)(E:XK),cw k A->tS P w K mg base A outer s H->BindsTo s fd args (ps.zip us)->ay vs us->sp vs H Q E ->
  codeAny (model P w) A (.call (.ref f) args) (CR CX outer P w H s Q E) s
section
variable{X:Cx}{pins:List (Addr×Obj)}{σ:St}{H:Hp}{s s':Shared}
theorem Inv.env0(I:Inv X pins σ H s):tS X.prog X.w X.K X.mg X.base X.A X.stack s H:=
 ⟨I.ok.frames,I.ok.mod,I.bs,zaN I.ok.bsz I.sz,I.stack,I.KU,I.ok.tt.mono I.base.tbls,I.hok,I.bare⟩
theorem Inv.after{Q:VK}{u:Value}(I:Inv X pins σ H s)(h:CE X.stack X.prog X.w H s Q u s'):EP X pins σ Q u s':=by
 obtain⟨v,H',os,bare,un,hok,r,q⟩:=h;obtain⟨hh,g,d,t,os'⟩:=s';obtain rfl:os'=s.os:=os;exact⟨v,H',I.call (h':=hh) (g':=g) (d':=d) (t':=t) (ch:=[]) un hok bare (fun b z=>absurd z (by simp)),r,q⟩
end
noncomputable def EK(sp:Sp)(dvs:List V)(E:XK)(t:TA):TE:=fun σ H Q=>t σ H fun vs H1=>sp (vs++dvs) H1 Q E
noncomputable def bq(K:W.Frag)(fd:FuncData)(ps:List Str)(ds:List Value):Prop:=
 ∀(s:Shared)(us:List Value),K.In s.heap->(us++ds).length=ps.length->BindsTo s fd ⟨us,[]⟩ (ps.zip (us++ds))
theorem bq.all{K:W.Frag}{fd:FuncData}{ps:List Str}(h:∀us:List Value,us.length=ps.length->bindArgs fd ⟨us,[]⟩=pure (ps.zip us)):bq K fd ps []:=fun s us _ hl=>by
 rw[zaM] at hl ⊢;exact .of_eq (h us hl)
noncomputable def uU(CX:CXT)(X:Cx)(E:XK):Prop:=∀(pins:List (Addr×Obj)) (σ:St) (H:Hp) (s:Shared) (e:Value) (s':Shared),Inv X pins σ H s->CX X.stack H s E e s'->X.xe e s'
section
variable{X:Cx}{CX:CXT}{k:Nat}{f C:Addr}{fd:FuncData}{ps:List Str}{sp:Sp}{dvs:List V}{ds:List Value}{E:XK}{x m:Str}{p pos apos:Pos}{e o:Expr}{es:List Expr}{ta:TE}{t:TA}
theorem Hc{pins:List (Addr×Obj)}{σ:St}{H:Hp}{s:Shared}{Q:VK}{us:List Value}{vs:List V}(F:a7 X.prog X.w X.K X.mg X.base CX k f fd ps sp)(hr:cw k X.A)(hb:bq X.K fd ps ds)(hd:ay dvs ds)(hx:uU CX X E)(I:Inv X pins σ H s)(r:ay vs us)(h:sp (vs++dvs) H Q E):wpAny (model X.prog X.w) X.A (call (.ref f) us) (EP X pins σ Q) X.xe s:=by
 have r2:ay (vs++dvs) (us++ds):=r.append hd;have hl:(us++ds).length=ps.length:=by rw[←r2.length];exact F.len _ _ _ _ h
 refine wpAny_call (codeAny_mono (F.run X.A X.stack s H ⟨us,[]⟩ (us++ds) (vs++dvs) Q E hr I.env0 (hb s us I.kIn hl) r2 h) fun r s' hq=>?_)
 cases r with
 |error e=>exact hx pins σ H s e s' I hq
 |ok fl=>
  cases fl with
  |ret u=>exact I.after hq
  |next=>exact False.elim hq
  |brk=>exact False.elim hq
  |cont=>exact False.elim hq
theorem aH(F:a7 X.prog X.w X.K X.mg X.base CX k f fd ps sp)(hr:cw k X.A)(hg:Gl X x)(hm:X.mg x=some (.ref f))(hk:W.keepIn X.K (.ref f)=true)(hb:bq X.K fd ps ds)(hd:ay dvs ds)(hx:uU CX X E)(ha:PA X (e::es) t)(hdb:(x == ("__debug__":Str))=false:=by decide)(he:starEach (e::es) X.env=(false,eval e X.env)::starEach es X.env:=by rfl)(hpl:(backTo pos (starEach es X.env)).any (·.1)=false:=by rfl):
  PE X (.Call (.Name x p) (e::es) [] pos) (EK sp dvs E t):=.mk <| by
 intro pins s σ H Q I h;refine zcY (qK I hg hm ?_ hdb);refine W.callWith_K (h₀:=X.base) I.ok.mod.kin hk (thn (ha pos pins s σ H _ I h) fun us s1 ⟨vs,H1,I1,r,q⟩=>⟨I1.kIn,?_⟩) he hpl;exact Hc F hr hb hd hx I1 r q
structure Mk(K:W.Frag)(C f:Addr):Prop where
 makes:W.makesIn K C=true
 init:W.findIn K (.ref C) "__init__"=some (some (.ref f))
 fn:W.isFn K (.ref f)=true
 kp:W.keepIn K (.ref C)=true
end
section
variable{X:Cx}{CX:CXT}{k:Nat}{f C:Addr}{fd:FuncData}{ps ks:List Str}{sp:Sp}{E:XK}{x m:Str}{p pos apos kpos:Pos}{e o:Expr}{es:List Expr}{kws:List Keyword}{te ta:TE}{t tk:TA}{nm:Option Str}
structure JY(K:W.Frag)(fd:FuncData)(ps ks:List Str)(g:List Value->List Value->List Value)(gV:List V->List V->List V):Prop where
 to:∀(s:Shared)(us ws:List Value),K.In s.heap->(g us ws).length=ps.length->BindsTo s fd ⟨us,ks.zip ws⟩ (ps.zip (g us ws))
 rel:∀ {vs:List V} {us:List Value} {zs:List V} {ws:List Value},ay vs us->ay zs ws->ay (gV vs zs) (g us ws)
variable{g:List Value->List Value->List Value}{gV:List V->List V->List V}
end
structure aK(N P:List Str)(sc:Scope):Prop where
 kind:sc.kind=.function
 co:sc.isCoroutine=false
 gen:sc.isGenerator=false
 nd:N.Nodup
 pre:N.take P.length=P
 par:∀x∈P,sc.names.lookup x=some .local\/sc.names.lookup x=some .cell
 nofree:∀y∈sc.names,y.2≠.free
theorem pR{kindOf:Str->Option NameKind}{x:Str}:∀ {binds:List (Str×Value)} {m:Str->Option Value},(∀v,(x,v) ∉ binds)->bindL kindOf binds m x=m x
 | [],_,_=>rfl
 |(n,v)::r,m,h=>by
  unfold bindL;rw[pR fun w hw=>h w (zar _ hw)];split
  ·have:x≠n:=by rintro rfl;exact h v zau
   simp[this]
  ·rfl
theorem pK{kindOf:Str->Option NameKind}{x:Str}:∀ {binds:List (Str×Value)} {m:Str->Option Value},(∀v,(x,v) ∉ binds)->bindC kindOf binds m x=m x
 | [],_,_=>rfl
 |(n,v)::r,m,h=>by
  unfold bindC;rw[pK fun w hw=>h w (zar _ hw)];split
  ·rfl
  ·have:x≠n:=by rintro rfl;exact h v zau
   simp[this]
theorem pL{kindOf:Str->Option NameKind}{x:Str}{v:Value}:∀ {P:List Str} {vs:List Value} {i:Nat} {m:Str->Option Value},P.Nodup->P[i]?=some x->vs[i]?=some v->kindOf x=some .local ->
  bindL kindOf (P.zip vs) m x=some v
 | [],_,_,_,_,h,_,_=>by simp at h
 |_::_,[],_,_,_,_,h,_=>by simp at h
 |p::P,w::vs,0,m,nd,h1,h2,hk=>by
  simp at h1 h2;subst h1;subst h2;show bindL kindOf ((p,w)::P.zip vs) m p=_;unfold bindL;rw[pR fun v hv=>(zbZ.mp nd).1 (zds hv).1,zaf hk];simp
 |p::P,w::vs,i+1,m,nd,h1,h2,hk=>by
  show bindL kindOf ((p,w)::P.zip vs) m x=_;unfold bindL;exact pL (i:=i) (zbZ.mp nd).2 (by simpa using h1) (by simpa using h2) hk
theorem pH{kindOf:Str->Option NameKind}{x:Str}{v:Value}:∀ {P:List Str} {vs:List Value} {i:Nat} {m:Str->Option Value},P.Nodup->P[i]?=some x->vs[i]?=some v->kindOf x≠some .local ->
  bindC kindOf (P.zip vs) m x=some v
 | [],_,_,_,_,h,_,_=>by simp at h
 |_::_,[],_,_,_,_,h,_=>by simp at h
 |p::P,w::vs,0,m,nd,h1,h2,hk=>by
  simp at h1 h2;subst h1;subst h2;show bindC kindOf ((p,w)::P.zip vs) m p=_;unfold bindC;rw[pK fun v hv=>(zbZ.mp nd).1 (zds hv).1,zad hk];simp
 |p::P,w::vs,i+1,m,nd,h1,h2,hk=>by
  show bindC kindOf ((p,w)::P.zip vs) m x=_;unfold bindC;exact pH (i:=i) (zbZ.mp nd).2 (by simpa using h1) (by simpa using h2) hk
noncomputable def start(N:List Str)(vs:List V):St:=vs.map some++List.replicate (N.length-vs.length) none
noncomputable def oJ(CX:CXT)(P:Program)(w:World)(K:W.Frag)(mg:Str->Option Value)(base:Heap)(N:List Str)(qual:Str)(scope:Scope)(f:Addr)(cd:Value)(A:Around)(outer:List Env)(s:Shared)(H:Hp)(E:XK):Cx where
 prog:=P
 w:=w
 K:=K
 mg:=mg
 base:=base
 A:=A.deeper (envOfC qual scope s.heap.objs.size f cd)
 N:=N
 s₀:=s
 H₀:=H
 env:=envOfC qual scope s.heap.objs.size f cd
 outer:=outer
 stack:=envOfC qual scope s.heap.objs.size f cd::outer
 ex:=[]
 calm:=true
 fn:=fun _=>true
 pn:=[]
 xe:=fun e s'=>wpAny (model P w) (A.deeper (envOfC qual scope s.heap.objs.size f cd)) (leaving (envOfC qual scope s.heap.objs.size f cd) e) (fun _ s''=>CX outer H s E e s'') (fun e' s''=>CX outer H s E e' s'') s'
theorem sI{sc:Scope}{n:Nat}{x:Str}(h:sc.names.lookup x=some .cell):∃c,(cellsFrom n sc.names []).lookup x=some c:=by
 have q:=W.cellsFrom_some sc.names n [] (.inl h);exact zcN.mp q
theorem yI{CX:CXT}{P:Program}{w:World}{K:W.Frag}{mg:Str->Option Value}{base:Heap}{N ps:List Str}{qual:Str}{scope:Scope}{f:Addr}{cd:Value}{A:Around}{outer:List Env}{s s1:Shared}{H:Hp}{E:XK}{us:List Value}{vs:List V}(S:aK N ps scope)(hd:A.handled=none)(e0:tS P w K mg base A outer s H)(hl:vs.length=ps.length)(r:ay vs us)(x:InCallC s s.heap.objs.size (bindL (envOfC qual scope s.heap.objs.size f cd).kindOf (ps.zip us) fun _=>none) (cellsFrom (s.heap.objs.size+1) scope.names []) (bindC (envOfC qual scope s.heap.objs.size f cd).kindOf (ps.zip us) fun _=>none) s1):
  Inv (oJ CX P w K mg base N qual scope f cd A outer s H E) [] (start N vs) H s1:=by
 have hpl:ps.length<=N.length:=by have:=zcB List.length S.pre;rw[zbh] at this;omega
 obtain⟨h1,tk,rfl,hk⟩:=x.done;have noA:∀b:Addr,b ∉ (oJ CX P w K mg base N qual scope f cd A outer s H E).ex:=fun b z=>absurd (show b∈([]:List Addr) from z) (by simp)
 refine⟨⟨e0.mod,S.kind,rfl,rfl,zaj _,fun y z c h1 h2=>?_,fun y hy=>?_,fun y c _ h=>?_,fun _=>hd,Around.frames_deeper e0.frames,.inr ⟨rfl,rfl⟩,fun b z=>absurd z (noA b),e0.bs,e0.bsz,fun b _ _=>noA b,fun b z=>absurd z (noA b),e0.funs,e0.frf,e0.tt⟩,
  rfl,e0.bare,Un.kept hk,⟨_,x.toInCall.ns,fun i y v h1 h2 h3=>?_⟩,fun y c h=>⟨_,x.cell y c h⟩,e0.hok.fresh (zaj _),fun y c h=>?_,fun p hp=>absurd (show p∈([]:List (Addr×Obj)) from hp) (by simp),e0.hok.kept hk,?_⟩
 ·exact name_of_addr x.apart (zcd h1) (zcd h2)
 ·have hy:scope.names.lookup y=some .cell\/scope.names.lookup y=some .free:=hy
  rcases hy with hy|hy
  ·exact sI hy
  ·exact absurd rfl (S.nofree _ (zcd hy))
 ·exact zbd (x.above y c (zcd h))
 ·have hi:i<vs.length:=by
   unfold start at h2;by_cases hi:i<vs.length
   ·exact hi
   ·rw[zcj (by simpa using hi)] at h2
    rw[List.getElem?_replicate] at h2;split at h2<;>cases h2
  have ha:vs[i]?=some v:=by
   unfold start at h2;rw[zbo (by simpa using hi),zam] at h2
   cases e:vs[i]? with
   |none=>rw[e] at h2;cases h2
   |some a=>rw[e] at h2;cases h2;rfl
  obtain⟨u,hu,rv⟩:=r.get ha
  have hp:ps[i]?=some y:=by
   rw[←S.pre,List.getElem?_take_of_lt (by omega)];exact h1
  have ndP:ps.Nodup:=by rw[←S.pre];exact S.nd.sublist (List.take_sublist _ _)
  refine⟨u,rv,?_⟩;rcases S.par y (zaz hp) with k|k
  ·exact .inl ⟨k,pL ndP hp hu k⟩
  ·obtain⟨c,e⟩:=sI (n:=s.heap.objs.size+1) k
   refine .inr ⟨.inl k,c,e,?_⟩;have q:=x.cell y c e;rw[pH ndP hp hu (by show scope.names.lookup y≠_;rw[k];decide)] at q
   exact q
 ·exact e0.hok.fresh (zbd (x.above y c (zcd h)))
 ·unfold start
  show _=N.length;rw[zaw,zaA,List.length_replicate];omega
theorem Fj{CX:CXT}{P:Program}{w:World}{K:W.Frag}{mg:Str->Option Value}{base:Heap}{k:Nat}{f:Addr}{name qual:Str}{params:Arguments}{body:List Stmt}{scope:Scope}{dV kV doc pm cdv ct oc:Value}{an od:Option Addr}{osl:Array (Option Value)}{N ps:List Str}{sp:Sp}(lk:K.lookup f=some ⟨oc,od,.func (W.fnOf name qual params body scope dV kV doc pm an cdv ct),osl⟩)(hcd:W.codeIn K cdv qual=true)(S:aK N ps scope)(len:∀vs H Q E,sp vs H Q E->vs.length=ps.length)
  (hbody:∀(A:Around)(outer:List Env)(s:Shared)(H:Hp)(vs:List V)(Q:VK)(E:XK),cw k (A.deeper (envOfC qual scope s.heap.objs.size f cdv))->sp vs H Q E ->
   ∃t,PSs (oJ CX P w K mg base N qual scope f cdv A outer s H E) body t/\t { nx:=fun _ H'=>Q .non H',rt:=Q } (start N vs) H) :
  a7 P w K mg base CX (k+1) f (W.fnOf name qual params body scope dV kV doc pm an cdv ct) ps sp:=by
 refine⟨len,fun A outer s H args us vs Q E hr e0 hb r hsp=>?_⟩;have hl:=len _ _ _ _ hsp;have KX:K.In s.heap:=e0.mod.kin.keeps fun b o e=>(e0.bs b o e).1;have lim:s.heap.NoLimit:=e0.mod.nolimit.keeps fun b o e=>(e0.bs b o e).1
 have hkind:∀y∈ps.zip us,scope.names.lookup y.1=some .local\/(scope.names.lookup y.1=some .cell/\((cellsFrom (s.heap.objs.size+1) scope.names []).lookup y.1).isSome=true):=fun⟨n,v⟩ hy=>by
  rcases S.par n (zds hy).1 with q|q
  ·exact .inl q
  ·exact .inr ⟨q,W.cellsFrom_some _ _ _ (.inl q)⟩
 refine codeAny_call_function hr.depth (KX _ _ lk) rfl S.co S.gen rfl (W.codeRec_of KX hcd) (hb _ _ _ _ ?_);refine wpAny_newFunctionEnv_cells S.kind hkind fun env he s1 x=>?_;subst he;refine⟨lim.keeps x.toInCall.keep,codeAny_func ?_⟩;obtain⟨t,ht,hq⟩:=hbody A outer s H vs Q E (hr.deeper _) hsp;have I:Inv (oJ CX P w K mg base N qual scope f cdv A outer s H E) [] (start N vs) H s1:=yI S hr.hd e0 hl r x
 refine zbi (ht [] s1 (start N vs) H _ I hq) (fun fl s' hs=>?_) fun e s' hs=>hs
 have fin:∀ {σ':St} {H':Hp} {v:V} {u:Value},Inv (oJ CX P w K mg base N qual scope f cdv A outer s H E) [] σ' H' s'->aB v u->Q v H'->CE outer P w H s Q u s':=
  fun {σ' H' v u} J rv q=>⟨v,H',J.os,J.bare,J.base,J.hok,rv,q⟩
 cases fl with
 |ret u=>
  obtain⟨v,σ',H',J,rv,q⟩:=hs;exact fin J rv q
 |next=>
  obtain⟨σ',H',J,q⟩:=hs;exact fin (v:=V.non) (u:=Value.none) J rfl q
 |brk=>
  obtain⟨_,_,_,q⟩:=hs;exact False.elim q
 |cont=>
  obtain⟨_,_,_,q⟩:=hs;exact False.elim q
section
variable{X:Cx}{x:Str}{p pos:Pos}{e:Expr}{es:List Expr}{t:TA}{id T:String}{r:List V->Hp->VK->Prop}
noncomputable def tCB(r:List V->Hp->VK->Prop)(t:TA):TE:=fun σ H Q=>t σ H fun vs H1=>r vs H1 Q
theorem aM(hc:cW X (.builtin id) r)(hg:Gl X x)(hm:X.mg x=none)(hv:bootBuiltins x=some (.builtin id))(ha:PA X (e::es) t)(hn:x≠"__name__":=by decide)(hdb:(x == ("__debug__":Str))=false:=by decide)(he:starEach (e::es) X.env=(false,eval e X.env)::starEach es X.env:=by rfl)(hpl:(backTo pos (starEach es X.env)).any (·.1)=false:=by rfl):PE X (.Call (.Name x p) (e::es) [] pos) (tCB r t):=.mk <| by
 intro pins s σ H Q I h;refine zcY (kA I hg hm hv ?_ hn hdb);exact PyProof.Rows.callWith_builtin1 (thn (ha pos pins s σ H _ I h) fun us s1 ⟨vs,H1,I1,r1,q1⟩=>hc pins s1 σ H1 vs us Q I1 r1 q1) he hpl
theorem cV(hc:cW X (.type T) r)(hg:Gl X x)(hm:X.mg x=none)(hv:bootBuiltins x=some (.type T))(ha:PA X (e::es) t)(hn:x≠"__name__":=by decide)(hdb:(x == ("__debug__":Str))=false:=by decide)(he:starEach (e::es) X.env=(false,eval e X.env)::starEach es X.env:=by rfl)(hpl:(backTo pos (starEach es X.env)).any (·.1)=false:=by rfl):PE X (.Call (.Name x p) (e::es) [] pos) (tCB r t):=.mk <| by
 intro pins s σ H Q I h;refine zcY (kA I hg hm hv ?_ hn hdb);exact zcx (thn (ha pos pins s σ H _ I h) fun us s1 ⟨vs,H1,I1,r1,q1⟩=>hc pins s1 σ H1 vs us Q I1 r1 q1) he hpl
end
end L2
namespace HT
open PySem PyProof.Rows
section
open PySem.SeqAt
open PySem.AutoSeq1 (wpAny_loadPart')
open PySem.MeetsSeq PySem.MeetsSeq2 PySem.MeetsSeq3
end
section
variable{prog:Program}{w:World}{A:Around}{E:Value->Shared->Prop}{s:Shared}
theorem cat_tup{t b:Addr}{vs ws:List Value}{Q:Value->Shared->Prop}(ht:IsTup s.heap t vs.toArray)(hb:IsTup s.heap b ws.toArray)(hv:vs≠[])(h1:ws=[]->Q (.ref t) s)(h2:ws≠[]->Q (.ref s.heap.objs.size) { s with heap:=s.heap.push { cls:=.type "tuple",data:=.seq (vs++ws).toArray } })(hsz:vs.length+ws.length<=sizeLine):wpAny (model prog w) A (binaryOp .Add (.ref t) (.ref b)) Q E s:=by
 obtain⟨⟨cls,dd,data,sl⟩,ho,hc,n,hd⟩:=id ht;obtain⟨⟨cls2,dd2,data2,sl2⟩,ho2,hc2,n2,hd2⟩:=id hb;simp only at hc hd hc2 hd2;subst hc hd hc2 hd2;have e:vs.toArray++ws.toArray=(vs++ws).toArray:=by simp
 by_cases hw:ws=[]
 ·exact concat_meets ⟨_,ho,rfl⟩ ⟨_,ho2,rfl⟩ noFill_tuple_add seq_tuple_add PySem.F.slot_tuple_add zdH (zdy _ _)
   (tuple_addW1 t b vs.toArray ws.toArray n n2 dd dd2 sl sl2 (by simpa using hv) (by simp[hw])) ⟨ho,ho2,h1 hw⟩
 ·refine concat_meets ⟨_,ho,rfl⟩ ⟨_,ho2,rfl⟩ noFill_tuple_add seq_tuple_add PySem.F.slot_tuple_add zdH (zdy _ _)
   (tuple_addW2 t b vs.toArray ws.toArray n n2 dd dd2 sl sl2 (by simpa using hv) (by simpa using hw) (by rw[zao,zao];exact hsz)) ⟨ho,ho2,?_⟩
  rw[e];exact h2 hw
noncomputable def sIx(n d:Nat):Option Int->Nat
 |none=>d
 |some v=>if v<0 then (v+(n:Int)).toNat else min v.toNat n
theorem Gc(n d:Nat)(hd:d<=n)(o:Option Int):sIx n d o<=n:=by
 cases o with
 |none=>exact hd
 |some v=>
  show (if v<0 then (v+(n:Int)).toNat else min v.toNat n)<=n
  by_cases hv:v<0
  ·rw[zaf hv];omega
  ·rw[zad hv];exact Nat.min_le_right _ _
theorem yh(v:Int)(n d:Nat):(if v<0 then max (v+(n:Int)) 0 else min v (n:Int))=((sIx n d (some v):Nat):Int):=by
 show (if v<0 then max (v+(n:Int)) 0 else min v (n:Int))=(((if v<0 then (v+(n:Int)).toNat else min v.toNat n):Nat):Int)
 by_cases hv:v<0
 ·simp only[zaf hv];omega
 ·simp only[zad hv];omega
theorem wx(lo hi:Option Int)(n:Nat):Builtin.Slice.sliceAdjust lo hi 1 (n:Int)=(((sIx n 0 lo:Nat):Int),((sIx n n hi:Nat):Int)):=by
 have h1:¬ ((1:Int)<0):=by omega
 unfold Builtin.Slice.sliceAdjust;simp only[h1,zaP];refine Prod.ext ?_ ?_
 ·cases lo with
  |none=>rfl
  |some v=>exact yh v n 0
 ·cases hi with
  |none=>rfl
  |some v=>exact yh v n n
theorem vT(i j:Nat):Builtin.Slice.slicePlaces (i:Int) (j:Int) 1=j-i:=by
 unfold Builtin.Slice.slicePlaces;have h1:(1:Int)>0:=by omega
 simp only[h1,zaX,Int.ediv_one];split<;>omega
theorem nX{v:Value}{o:Option Int}{Q:Option Int->Shared->Prop}(p:IsPart v o)(h:Q o s):wpAny (model prog w) A (Builtin.Slice.slicePartIndex v) Q E s:=by
 cases p with
 |none=>exact slicePart_none h
 |int i t=>exact slicePart_int h
theorem sliceApplied_gen{sl:Addr}{vl vu:Value}{lo hi:Option Int}{n:Nat}{Q:Int×Int×Nat->Shared->Prop}(hs:s.heap.IsSliceOf sl vl vu .none)(pl:IsPart vl lo)(pu:IsPart vu hi)(h:Q (((sIx n 0 lo:Nat):Int),1,sIx n n hi-sIx n 0 lo) s):wpAny (model prog w) A (Builtin.Slice.sliceApplied (.ref sl) (pure (n:Int))) Q E s:=by
 obtain⟨os,hos,hcs,hds⟩:=id hs;unfold Builtin.Slice.sliceApplied Builtin.Slice.sliceFields;refine zaa (zaa (zbH hos hds (x:=vl) rfl (zaa (zbH hos hds (x:=vu) rfl (zaa (zbH hos hds (x:=.none) rfl (zab ?_)))))));refine zaa (slicePart_none ?_);show wpAny _ _ (if ((1:Int) == 0)=true then _ else _) _ _ s
 rw[zad (by decide)]
 refine zaa (nX pl (zaa (nX pu (zaa (zab ?_)))));show wpAny _ _ (match Builtin.Slice.sliceAdjust lo hi 1 (n:Int) with|(lo,hi)=>pure (lo,(1:Int),Builtin.Slice.slicePlaces lo hi 1)) _ _ s
 rw[wx lo hi n];show wpAny _ _ (pure (((sIx n 0 lo:Nat):Int),(1:Int),Builtin.Slice.slicePlaces ((sIx n 0 lo:Nat):Int) ((sIx n n hi:Nat):Int) 1)) _ _ s;rw[vT];exact zab h
theorem B2(xs:Array Value)(i k:Nat):((List.range k).filterMap fun(m:Nat)=>xs[((i:Int)+(m:Int)*1).toNat]?).toArray=((xs.toList.drop i).take k).toArray:=by
 have e:(fun(m:Nat)=>xs[((i:Int)+(m:Int)*1).toNat]?)=fun m=>xs[i+m]?:=by
  funext m
  have:((i:Int)+(m:Int)*1).toNat=i+m:=by omega
  rw[this]
 rw[e];have:=pick_run xs i k;rw[List.filterMap_map] at this;have e2:((fun x=>xs[x]?) ∘ fun x=>i+x)=fun m=>xs[i+m]?:=rfl;rw[e2] at this;rw[this]
theorem getItem_tuple_cut{t sl:Addr}{items:Array Value}{vl vu:Value}{lo hi:Option Int}{Q:Value->Shared->Prop}(ht:IsTup s.heap t items)(hs:s.heap.IsSliceOf sl vl vu .none)(pl:IsPart vl lo)(pu:IsPart vu hi)(hw:¬ (sIx items.size 0 lo=0/\sIx items.size items.size hi=items.size))(h:Q (.ref s.heap.objs.size) { s with heap:=s.heap.push { cls:=.type "tuple",data:=.seq ((items.toList.drop (sIx items.size 0 lo)).take (sIx items.size items.size hi-sIx items.size 0 lo)).toArray } })(hsz:items.size<=sizeLine):wpAny (model prog w) A (getItem (.ref t) (.ref sl)) Q E s:=by
 have htake:sizeOk (.seq ((items.toList.drop (sIx items.size 0 lo)).take (sIx items.size items.size hi-sIx items.size 0 lo)).toArray):=by
  show ((items.toList.drop (sIx items.size 0 lo)).take (sIx items.size items.size hi-sIx items.size 0 lo)).toArray.size<=sizeLine;rw[zao,zbh,zcO,zaY];omega
 have hj:sIx items.size items.size hi<=items.size:=Gc _ _ (zaj _) hi;obtain⟨os,hos,hcs,hds⟩:=id hs;have hTs:s.TypeIs (.ref sl) "slice":=⟨os,hos,hcs⟩;unfold getItem
 try with_reducible refine zbs ?_
 first|refine zaa (zab ?_)|skip
 refine zaa (wpAny_sequenceKey ht.typeIs (by decide) ?_)
 refine zaa (zbx (name:=Str.ofString "__getitem__") ht.typeIs zbm
  (zbt zbm ht.typeIs entry_tuple_getitem ?_ (args_tuple_getitem _ _)))
 show wpAny _ _ (Builtin.Tuple.tupleItemsOf (.ref t) >>= _) _ _ s;refine zaa (tupleItemsOf_ ht ?_);refine zaa (zdg hTs ?_);rw[zaf (by decide)]
 refine zaa (sliceApplied_gen hs pl pu ?_)
 have hno:¬ ((((sIx items.size 0 lo:Nat):Int) == 0 && (1:Int) == 1 && (sIx items.size items.size hi-sIx items.size 0 lo) == items.size)=true):=by
  intro q;rw[zax,zax] at q;have q1:((sIx items.size 0 lo:Nat):Int)=0:=eq_of_beq q.1.1;have q2:sIx items.size items.size hi-sIx items.size 0 lo=items.size:=eq_of_beq q.2;exact hw ⟨by omega,by omega⟩
 show wpAny _ _ (if (((sIx items.size 0 lo:Nat):Int) == 0 && (1:Int) == 1 && (sIx items.size items.size hi-sIx items.size 0 lo) == items.size)=true then _ else _) _ _ s
 rw[zad hno,B2]
 first
  |exact zaa (m:=Builtin.Tuple.tupleExact _) (zbv (zab ⟨_,rfl,zab h⟩) htake)
  |exact zaa (m:=Builtin.Tuple.tupleExact _) (zbv (zaa (zab (zab ⟨_,rfl,zab h⟩))) htake)
  |exact zaa (zaa (m:=Builtin.Tuple.tupleExact _) (zbv (zab (zab ⟨_,rfl,zab h⟩)) htake))
  |exact zaa (zaa (m:=Builtin.Tuple.tupleExact _) (zbv (zab ⟨_,rfl,zab h⟩) htake))
end
end HT
namespace L2
open PySem PySem.Spec PyProof.Rows
noncomputable abbrev TO:=St->Hp->(Option Int->Hp->Prop)->Prop
noncomputable def PO(X:Cx)(e:Option Expr)(t:TO):Prop:=
 ∀(pins:List (Addr×Obj)) (s:Shared) (σ:St) (H:Hp) (Q:Option Int->Hp->Prop),Inv X pins σ H s->t σ H Q ->
  wpAny (model X.prog X.w) X.A (evalPart e X.env) (fun u s'=>∃o H',Inv X pins σ H' s'/\IsPart u o/\Q o H') X.xe s
noncomputable def x6:TO:=fun _ H Q=>Q none H
noncomputable def FM(t:TE):TO:=fun σ H Q=>t σ H fun x H1=>∃i,x=.int i/\Q (some i) H1
section
variable{X:Cx}{e:Expr}{te:TE}{lo hi:Option Expr}{tl th:TO}{pos p2:Pos}
theorem xb:PO X none x6:=by
 intro pins s σ H Q I h;rw[evalPart_none];exact zab ⟨none,H,I,.none,h⟩
theorem wW(h:PE X e te):PO X (some e) (FM te):=by
 intro pins s σ H Q I hw;rw[evalPart_some];refine thn (h pins s σ H _ I hw) fun u s1 ⟨x,H1,I1,r1,q1⟩=>?_;obtain⟨i,rfl,q⟩:=q1;obtain⟨t,rfl⟩:=r1;exact⟨some i,H1,I1,.int i t,q⟩
noncomputable def SlR(X:Cx)(r:V->Option Int->Option Int->Hp->VK->Prop):Prop:=
 ∀(pins:List (Addr×Obj)) (s:Shared) (σ:St) (H:Hp) (x:V) (v vl vu:Value) (lo hi:Option Int) (sl:Addr) (Q:VK),Inv X pins σ H s->aB x v->s.heap.IsSliceOf sl vl vu .none->IsPart vl lo->IsPart vu hi->r x lo hi H Q ->
  ∃T id,typeLookup (.type T) "__getitem__"=pure (some (.builtin id))/\s.TypeIs v T/\wpAny (model X.prog X.w) X.A (getItem v (.ref sl)) (EP X pins σ Q) X.xe s
noncomputable def tSl(r:V->Option Int->Option Int->Hp->VK->Prop)(te:TE)(tl th:TO):TE:=fun σ H Q=>te σ H fun x H1=>tl σ H1 fun l H2=>th σ H2 fun u H3=>r x l u H3 Q
theorem uG{r:V->Option Int->Option Int->Hp->VK->Prop}(hr:SlR X r)(he:PE X e te)(hl:PO X lo tl)(hu:PO X hi th):PE X (.Subscript e (.Slice lo hi none p2) pos) (tSl r te tl th):=.mk <| by
 intro pins s σ H Q I h;refine Subscript_ (thn (he pins s σ H _ I h) fun v s1 ⟨x,H1,I1,r1,q1⟩=>?_);refine wpAny_Slice (thn (hl pins s1 σ H1 _ I1 q1) fun vl s2 ⟨l,H2,I2,pl,q2⟩=>thn (hu pins s2 σ H2 _ I2 q2) fun vu s3 ⟨u,H3,I3,pu,q3⟩=>?_);rw[evalPart_none];refine zab ?_;have I4:Inv X pins σ H3 { s3 with heap:=s3.heap.push { cls:=.type "slice",data:=.fields #[vl,vu,.none] } }:=I3.kept (t':=s3.toks) fun b ob q=>zac _ q
 obtain⟨T,id,hT,ht,hg⟩:=hr pins { s3 with heap:=s3.heap.push { cls:=.type "slice",data:=.fields #[vl,vu,.none] } } σ H3 x v vl vu l u s3.heap.objs.size Q I4 r1 (Heap.IsSliceOf.new ..) pl pu q3;show wpAny (model X.prog X.w) X.A (subscriptTail e (.Slice lo hi none p2) v (.ref s3.heap.objs.size)) (EP X pins σ Q) X.xe { s3 with heap:=s3.heap.push { cls:=.type "slice",data:=.fields #[vl,vu,.none] } };exact tail_any (ops:=[.ref s3.heap.objs.size,v]) ht hT hg (by with_unfolding_all rfl)
noncomputable def qY(xs:List V)(lo hi:Option Int):List V:=(xs.drop (HT.sIx xs.length 0 lo)).take (HT.sIx xs.length xs.length hi-HT.sIx xs.length 0 lo)
theorem lp(xs:List V)(lo hi:Option Int):(qY xs lo hi).length<=xs.length:=by
 unfold qY;rw[zbh,zcO];omega
noncomputable def JR(K:W.Frag):V->Option Int->Option Int->Hp->VK->Prop:=fun x lo hi H Q=>∃a xs,x=.ref a/\SqT K H a xs /\
 ¬ (HT.sIx xs.length 0 lo=0/\HT.sIx xs.length xs.length hi=xs.length)/\∀p,H p=none->Q (.ref p) (upd H p (.tup (qY xs lo hi)))
theorem G5:SlR X (JR X.K):=by
 intro pins s σ H x v vl vu lo hi sl Q I rx hs pl pu h;obtain⟨a,xs,rfl,hx,hw,q⟩:=h;cases rx;obtain⟨its,r,ht,hz⟩:=I.tuple hx;have hlen:its.toArray.size=xs.length:=by rw[zao];exact r.length.symm
 refine⟨"tuple",_,zbm.lookup,ht.typeIs,?_⟩;refine HT.getItem_tuple_cut ht hs pl pu (by rw[hlen];exact hw) ?_ (by rw[hlen];exact hz)
 rw[hlen];refine⟨.ref s.heap.objs.size,_,I.laid (t':=s.toks) (o:=.tup (qY xs lo hi)) (fun b ob q=>zac _ q) (zaj _) ?_,rfl,q _ (I.hok.fresh (zaj _))⟩;exact⟨zaN (lp xs lo hi) hz,_,(r.drop (HT.sIx xs.length 0 lo)).take (HT.sIx xs.length xs.length hi-HT.sIx xs.length 0 lo),sf.new _ _⟩
noncomputable def Jb(K:W.Frag):R2:=fun x y H Q=>∃a b xs ys,x=.ref a/\y=.ref b/\SqT K H a xs/\SqT K H b ys/\xs≠[]/\xs.length+ys.length<=sizeLine /\
 (ys=[]->Q (.ref a) H)/\(ys≠[]->∀p,H p=none->Q (.ref p) (upd H p (.tup (xs++ys))))
theorem ay.KM{xs:List V}{us:List Value}(r:ay xs us):us=[]↔xs=[]:=by
 cases r with
 |nil=>simp
 |cons _ _=>simp
theorem DC:OpR X (binaryOp .Add) (Jb X.K):=by
 intro pins s σ H x y v u Q I rx ry h;obtain⟨a,b,xs,ys,rfl,rfl,ha,hb,hx,hz,q1,q2⟩:=h;cases rx;cases ry;obtain⟨its,r1,p1,_⟩:=I.tuple ha;obtain⟨its2,r2,p2,_⟩:=I.tuple hb;refine HT.cat_tup p1 p2 (fun z=>hx (r1.KM.mp z)) (fun z=>⟨.ref a,H,I,rfl,q1 (r2.KM.mp z)⟩) (fun z=>?_) (by rw[←r1.length,←r2.length];exact hz)
 refine⟨.ref s.heap.objs.size,_,I.laid (t':=s.toks) (o:=.tup (xs++ys)) (fun b ob q=>zac _ q) (zaj _) ?_,rfl,q2 (fun w=>z (r2.KM.mpr w)) _ (I.hok.fresh (zaj _))⟩;exact⟨by rw[zaw];exact hz,_,r1.append r2,sf.new _ _⟩
end
noncomputable def ixN(n:Nat)(i:Int):Option Nat:=if 0<=i then (if i<n then some i.toNat else none) else if -(n:Int)<=i then some (i+n).toNat else none
noncomputable def atI{α:Type}(xs:List α)(i:Int):Option α:=(ixN xs.length i).bind fun j=>xs[j]?
theorem DH{n:Nat}{i:Int}{j:Nat}(h:ixN n i=some j):seqIndex? i n=some j/\j<n/\-(n:Int)<=i/\i<n:=by
 unfold ixN at h;by_cases h0:0<=i
 ·rw[zaf h0] at h
  by_cases h1:i<n
  ·rw[zaf h1] at h
   have e:i.toNat=j:=zbj h;exact⟨by rw[seqIndex_of h0 h1,e],by omega,by omega,h1⟩
  ·rw[zad h1] at h;cases h
 ·rw[zad h0] at h
  by_cases h1:-(n:Int)<=i
  ·rw[zaf h1] at h
   have e:(i+n).toNat=j:=zbj h;exact⟨by rw[seqIndex_neg (by omega) h1,e],by omega,h1,by omega⟩
  ·rw[zad h1] at h;cases h
theorem qA{α:Type}{xs:List α}{i:Int}{v:α}(h:atI xs i=some v):∃j,seqIndex? i xs.length=some j/\xs[j]?=some v/\j<xs.length/\-(xs.length:Int)<=i/\i<xs.length:=by
 unfold atI at h
 cases e:ixN xs.length i with
 |none=>rw[e] at h;cases h
 |some j=>
  rw[e] at h;obtain⟨h1,h2,h3,h4⟩:=DH e;exact⟨j,h1,h,h2,h3,h4⟩
theorem Di{α:Type}{xs:List α}{j:Nat}{v:α}(h:xs[j]?=some v):atI xs (j:Int)=some v:=by
 have hj:j<xs.length:=(zav.mp h).1
 have e:ixN xs.length (j:Int)=some j:=by
  unfold ixN;rw[zaf (by omega),zaf (by omega)];simp
 unfold atI;rw[e];exact h
noncomputable def Du(b:Expr):Prop:=∀o i,subscripted b false o i=operate [o,i] (getItem o i)
noncomputable def IxR(X:Cx)(r:R2):Prop:=
 ∀(value slice:Expr) (pins:List (Addr×Obj)) (s:Shared) (σ:St) (H:Hp) (x y:V) (v u:Value) (Q:VK),Inv X pins σ H s->aB x v->aB y u->r x y H Q ->
  subscripted slice false v u=operate [v,u] (getItem v u)->wpAny (model X.prog X.w) X.A (subscriptTail value slice v u) (EP X pins σ Q) X.xe s
noncomputable def MtR(X:Cx)(id:String)(r:V->List V->Hp->VK->Prop):Prop:=
 ∀(pins:List (Addr×Obj)) (s:Shared) (σ:St) (H:Hp) (x:V) (xs:List V) (v:Value) (us:List Value) (Q:VK),Inv X pins σ H s->aB x v->ay xs us->r x xs H Q ->
  wpAny (model X.prog X.w) X.A (call (.builtin id) (v::us)) (EP X pins σ Q) X.xe s
section
variable{X:Cx}{a b:Expr}{ta tb:TE}{pos:Pos}
theorem IxR.or{r r':R2}(h:IxR X r)(h':IxR X r'):IxR X (fun x y H Q=>r x y H Q\/r' x y H Q):=by
 intro value slice pins s σ H x y v u Q I rx ry q hs;rcases q with q|q
 ·exact h value slice pins s σ H x y v u Q I rx ry q hs
 ·exact h' value slice pins s σ H x y v u Q I rx ry q hs
theorem bL{r:R2}(hr:IxR X r)(ha:PE X a ta)(hb:PE X b tb)(hs:Du b):PE X (.Subscript a b pos) (tOp r ta tb):=.mk <| by
 intro pins s σ H Q I h;exact Subscript_ (Gd ha hb I h fun v u s2 x y H2 I2 rx ry q=>hr a b pins s2 σ H2 x y v u Q I2 rx ry q (hs _ _))
noncomputable def Hv(K:W.Frag):R2:=fun x y H Q=>∃p xs i v,x=.ref p/\y=.int i/\SqL K H p xs/\atI xs i=some v/\Q v H
noncomputable def Gk(K:W.Frag):R2:=fun x y H Q=>∃p xs i v,x=.ref p/\y=.int i/\SqT K H p xs/\atI xs i=some v/\Q v H
noncomputable def IN:R2:=fun x y H Q=>∃z i c,x=.str z/\y=.int i/\z.length<=sizeLine/\atI z.cps.toList i=some c/\Q (.str ⟨#[c]⟩) H
theorem Dm:IxR X (Hv X.K):=by
 intro value slice pins s σ H x y v u Q I rx ry h hs;obtain⟨p,xs,i,z,rfl,rfl,hq,he,q⟩:=h;cases rx;obtain⟨t,rfl⟩:=ry;obtain⟨its,r,pl,hz⟩:=I.list hq;obtain⟨j,h1,h2,h3,h4,h5⟩:=qA he;obtain⟨w,ew,rw'⟩:=r.get h2;have hl:=r.length;have hn:=nV;have fin:EP X pins σ Q w s:=⟨z,H,I,rw',q⟩;by_cases h0:0<=i
 ·have hj:i.toNat=j:=by
   rw[seqIndex_of h0 h5] at h1;exact zbj h1
  exact item_listR pl.isList h0 (by omega) (by rw[hj];simpa using ew) fin hs
 ·have hj:(i+(its.toArray.size:Int)).toNat=j:=by
   rw[seqIndex_neg (by omega) h4] at h1
   rw[zao,←hl]
   exact zbj h1
  exact subscriptTail_builtinR (x:=w) pl.isList.typeIs slot_list_getitem.lookup
   (wpAny_getItem_list_neg (Q:=fun r s'=>r=w/\EP X pins σ Q r s') pl.isList (by omega) (by rw[zao]<;>omega) (by omega) (by rw[hj];simpa using ew) ⟨rfl,fin⟩) hs
theorem Go:IxR X (Gk X.K):=by
 intro value slice pins s σ H x y v u Q I rx ry h hs;obtain⟨p,xs,i,z,rfl,rfl,hq,he,q⟩:=h;cases rx;obtain⟨t,rfl⟩:=ry;obtain⟨its,r,pl,hz⟩:=I.tuple hq;obtain⟨j,h1,h2,h3,h4,h5⟩:=qA he;obtain⟨w,ew,rw'⟩:=r.get h2;have hl:=r.length;have hn:=nV;have fin:EP X pins σ Q w s:=⟨z,H,I,rw',q⟩
 exact subscriptTail_builtinR (x:=w) pl.typeIs zbm.lookup
  (getItem_tuple (j:=j) (Q:=fun r s'=>r=w/\EP X pins σ Q r s') pl (by omega) (by omega) (by rw[zao,←hl];exact h1) (by simpa using ew) ⟨rfl,fin⟩) hs
theorem Ge:IxR X IN:=by
 intro value slice pins s σ H x y v u Q I rx ry h hs;obtain⟨z,i,c,rfl,rfl,hz,he,q⟩:=h;obtain⟨t,rfl⟩:=rx;obtain⟨t',rfl⟩:=ry;obtain⟨j,h1,h2,h3,h4,h5⟩:=qA he;have hl:z.cps.toList.length=z.length:=by simp[Str.length]
 rw[hl] at h1 h4 h5;have hn:=nV
 exact tail_any (typeIs_str s z t) slot_str_getitem.lookup (getItem_str (c:=c) (by
  have e1:decide (i < -(2^63:Int))=false:=zaK (by omega)
  have e2:decide (i ≥ 2^63)=false:=zaK (by omega)
  rw[e1,e2,Bool.or_false]) (by rw[h1];simpa using h2) ⟨.str ⟨#[c]⟩,H,I.tok _,⟨_,rfl⟩,q⟩) hs
noncomputable def rIx(K:W.Frag):R2:=fun x y H Q=>Hv K x y H Q\/Gk K x y H Q\/IN x y H Q
theorem Gv:IxR X (rIx X.K):=Dm.or (Go.or Ge)
theorem rh(lo hi:Option Int)(n:Nat):(sliceBounds lo hi none n).1=((HT.sIx n 0 lo:Nat):Int)/\(sliceBounds lo hi none n).2.1=((HT.sIx n n hi:Nat):Int)/\(sliceBounds lo hi none n).2.2=1:=by
 refine⟨?_,?_,rfl⟩
 ·cases lo with
  |none=>simp[sliceBounds,HT.sIx]
  |some i=>
   simp only[sliceBounds,HT.sIx,Option.getD_none,show (1:Int)>0 by decide,zaX]
   by_cases h:i<0
   ·simp only[h,zaX]<;>omega
   ·simp only[h,zaP]<;>omega
 ·cases hi with
  |none=>simp[sliceBounds,HT.sIx]
  |some i=>
   simp only[sliceBounds,HT.sIx,Option.getD_none,show (1:Int)>0 by decide,zaX]
   by_cases h:i<0
   ·simp only[h,zaX]<;>omega
   ·simp only[h,zaP]<;>omega
theorem oP(its:List Value)(lo hi:Option Int):slicePick its.toArray lo hi none=((its.drop (HT.sIx its.length 0 lo)).take (HT.sIx its.length its.length hi-HT.sIx its.length 0 lo)).toArray:=by
 obtain⟨h1,h2,h3⟩:=rh lo hi its.toArray.size;unfold slicePick;rw[h1,h2,h3];simp only[sliceRange_one,pick_run,zao]<;>rfl
noncomputable def IG(K:W.Frag):V->Option Int->Option Int->Hp->VK->Prop:=fun x lo hi H Q=>∃a xs,x=.ref a/\SqL K H a xs/\∀p,H p=none->Q (.ref p) (upd H p (.lst (qY xs lo hi)))
theorem D2:SlR X (IG X.K):=by
 intro pins s σ H x v vl vu lo hi sl Q I rx hs pl pu h;obtain⟨a,xs,rfl,hx,q⟩:=h;cases rx;obtain⟨its,r,ht,hz⟩:=I.list hx;have hlen:=r.length;refine⟨"list",_,slot_list_getitem.lookup,ht.isList.typeIs,?_⟩;refine wpAny_getItem_list_slice ht.isList hs pl pu .none (by simp) ?_ (by rw[zao]<;>omega)
 rw[oP,←hlen]
 refine⟨.ref s.heap.objs.size,_,I.laid (t':=s.toks) (o:=.lst (qY xs lo hi)) (fun b ob q=>zac _ q) (zaj _) ?_,rfl,q _ (I.hok.fresh (zaj _))⟩;exact⟨zaN (lp xs lo hi) hz,_,0,(r.drop (HT.sIx xs.length 0 lo)).take (HT.sIx xs.length xs.length hi-HT.sIx xs.length 0 lo),zan _ rfl⟩
theorem oN:cW X (.type "tuple") (fun xs H Q=>∃p ys,xs=[.ref p]/\((SqL X.K H p ys/\∀l,H l=none->Q (.ref l) (upd H l (.tup ys)))\/(SqT X.K H p ys/\Q (.ref p) H))):=by
 intro pins s σ H xs us Q I r h;obtain⟨p,ys,rfl,h⟩:=h;obtain⟨u,rfl,rx⟩:=gE r;cases rx;rcases h with⟨hq,q⟩|⟨hq,q⟩
 ·obtain⟨its,r',pl,hz⟩:=I.list hq
  have hlen:=r'.length;refine call_tuple_list pl.isList (fun h' kp=>?_) (by simp only[zao]<;>omega)
  have I1:Inv X pins σ H { s with heap:=h' }:=I.kept (t':=s.toks) kp
  have I2:Inv X pins σ (upd H h'.objs.size (.tup ys)) { s with heap:=h'.push { cls:=.type "tuple",data:=.seq its.toArray } }:=
   I1.laid (t':=s.toks) (fun b o e=>zac _ e) (zaj _) (show bb X.prog X.w _ _ _ (.tup ys) from ⟨hz,its,r',sf.new _ _⟩)
  exact⟨.ref h'.objs.size,_,I2,rfl,q _ (I1.hok.fresh (zaj _))⟩
 ·obtain⟨its,r',pl,hz⟩:=I.tuple hq
  exact call_tuple_same pl ⟨.ref p,H,I,rfl,q⟩
noncomputable def tyV(K:W.Frag)(T:String)(x:V)(H:Hp):Prop:=match x with
 |.str _=>T="str"
 |.int _=>T="int"
 |.ref p=>(T="list"/\∃xs,SqL K H p xs)\/(T="tuple"/\∃o,K.lookup p=some o/\o.cls=.type "tuple"/\o.dict=none) \/
   (T="dict"/\((∃kvs,H p=some (.dK kvs))\/∃kvs,H p=some (.dT kvs)))\/(T="set"/\∃S n,H p=some (.set S n))
 |_=>False
theorem Bn{pins:List (Addr×Obj)}{σ:St}{H:Hp}{s:Shared}{T:String}{x:V}{v:Value}(I:Inv X pins σ H s)(r:aB x v)(ty:tyV X.K T x H):
  s.TypeIs v T/\∀a,v=.ref a->∃ob,s.heap.get? a=some ob/\ob.dict=none:=by
 cases x with
 |str z=>
  obtain⟨t,rfl⟩:=r;cases (show T="str" from ty)
  exact⟨typeIs_str s z t,fun _ e=>nomatch e⟩
 |int i=>
  obtain⟨t,rfl⟩:=r;cases (show T="int" from ty)
  exact⟨typeIs_int s i t,fun _ e=>nomatch e⟩
 |ref p=>
  cases r;rcases ty with⟨rfl,xs,hq⟩|⟨rfl,o,hk,hc,hd⟩|⟨rfl,hk⟩|⟨rfl,S,n,hk⟩
  ·obtain⟨its,_,pl,_⟩:=I.list hq
   refine⟨pl.isList.typeIs,fun a e=>?_⟩;cases e;obtain⟨o,n,e,c,hd,_⟩:=pl;exact⟨o,e,hd⟩
  ·refine⟨⟨o,I.kIn p o hk,hc⟩,fun a e=>?_⟩
   cases e;exact⟨o,I.kIn _ o hk,hd⟩
  ·have z:∃o,s.heap.get? p=some o/\o.ExactDict:=by
    rcases hk with⟨kvs,hk⟩|⟨kvs,hk⟩
    ·obtain⟨_,_,_,_,o,_,_,e,ex,_⟩:=I.hok p _ hk
     exact⟨o,e,ex⟩
    ·obtain⟨_,_,_,_,o,_,_,e,ex,_⟩:=I.hok p _ hk
     exact⟨o,e,ex⟩
   obtain⟨o,e,ex⟩:=z;refine⟨⟨o,e,ex.1⟩,fun a e2=>?_⟩;cases e2;exact⟨o,e,ex.2.1⟩
  ·obtain⟨o,_,_,_,e,ex,_⟩:=I.hok p _ hk
   refine⟨⟨o,e,ex.1⟩,fun a e2=>?_⟩;cases e2;exact⟨o,e,ex.2.1⟩
 |_=>exact False.elim ty
noncomputable def Gq(K:W.Frag)(T:String)(r:V->List V->Hp->VK->Prop)(to:TE):TE:=fun σ H Q=>to σ H fun x H1=>tyV K T x H1/\r x [] H1 Q
noncomputable def tBM(K:W.Frag)(T:String)(r:V->List V->Hp->VK->Prop)(to:TE)(t:TA):TE:=fun σ H Q=>to σ H fun x H1=>tyV K T x H1/\t σ H1 fun xs H2=>r x xs H2 Q
variable{o e:Expr}{es:List Expr}{to:TE}{t:TA}{name:Str}{apos cpos:Pos}{T id:String}{r:V->List V->Hp->VK->Prop}
theorem jf(pa:PlainAttrs T)(slot:Slot T name id)(hty:typeOf (.builtin id)=pure (.type "method_descriptor"))(hm:MtR X id r)(ho:PE X o to)(hbase:attributeBase o name X.env (eval o X.env)=eval o X.env:=by rfl)(hline:(apos.endLine == cpos.line)=true:=by rfl):PE X (.Call (.Attribute o name apos) [] [] cpos) (Gq X.K T r to):=.mk <| by
 intro pins s σ H Q I h;refine wpAny_Call_method0_late hbase hline (thn (ho pins s σ H _ I h) fun v s1 ⟨x,H1,I1,r1,ty,q1⟩=>?_);obtain⟨h1,h2⟩:=Bn I1 r1 ty;exact⟨T,id,pa,slot,hty,h1,h2,Calls.callWith_builtin rfl (PySem.evalArgs_none (hm pins s1 σ H1 x [] v [] Q I1 r1 .nil q1))⟩
theorem lE(pa:PlainAttrs T)(slot:Slot T name id)(hty:typeOf (.builtin id)=pure (.type "method_descriptor"))(hm:MtR X id r)(ho:PE X o to)(ha:PA X (e::es) t)(hbase:attributeBase o name X.env (eval o X.env)=eval o X.env:=by rfl)
  (hfew:((backTo cpos (starEach (e::es) X.env)).all (fun x=>!x.1) && (backToKw cpos (keywordEach [] X.env)).all (fun x=>x.1.isSome)
   && decide ((e::es).length+([]:List Keyword).length+(if ([]:List Keyword).isEmpty then 0 else 1)<30))=true:=by rfl)
  (hline:(apos.endLine == cpos.line)=true:=by rfl) (hs:starEach (e::es) X.env=(false,eval e X.env)::starEach es X.env:=by rfl) (hplain:(backTo cpos (starEach es X.env)).any (·.1)=false:=by rfl) :
  PE X (.Call (.Attribute o name apos) (e::es) [] cpos) (tBM X.K T r to t):=.mk <| by
 intro pins s σ H Q I h;refine wpAny_Call_method_late hbase hfew hline rfl (thn (ho pins s σ H _ I h) fun v s1 ⟨x,H1,I1,r1,ty,q1⟩=>?_);obtain⟨h1,h2⟩:=Bn I1 r1 ty;refine⟨T,id,pa,slot,hty,h1,h2,?_⟩;have hA:=ha cpos pins s1 σ H1 _ I1 q1;rw[hs] at hA ⊢;refine Calls.callWith_builtin (by show (false || (backTo cpos (starEach es X.env)).any (·.1))=false;rw[hplain]<;>rfl) (Calls.evalArgs_plain ?_)
 exact thn hA fun us s2 ⟨vs,H2,I2,r2,q2⟩=>hm pins s2 σ H2 x vs v us Q I2 r1 r2 q2
end
noncomputable def MtM(X:Cx)(id:String)(r:V->List V->Hp->VK->Prop):Prop:=
 ∀(pins:List (Addr×Obj)) (s:Shared) (σ:St) (H:Hp) (x:V) (xs:List V) (v:Value) (us:List Value) (Q:VK),Inv X pins σ H s->aB x v->ay xs us->r x xs H Q ->
  wpAny (model X.prog X.w) X.A (call (.builtin id) (v::us)) (EP X pins σ Q) X.xe s
theorem ay.cs{x:V}{xs:List V}{us:List Value}(h:ay (x::xs) us):∃u ws,us=u::ws/\aB x u/\ay xs ws:=by cases h with|cons r t=>exact⟨_,_,rfl,r,t⟩
theorem ay.one{x:V}{us:List Value}(h:ay [x] us):∃u,us=[u]/\aB x u:=by
 obtain⟨u,w,rfl,r,t⟩:=ay.cs h;cases t;exact⟨u,rfl,r⟩
theorem ay.zero:∀ {us:List Value},ay [] us->us=[]
 |_,.nil=>rfl
theorem ay.dropLast{xs:List V}{us:List Value}(h:ay xs us):ay xs.dropLast us.dropLast:=by
 induction h with
 |nil=>exact .nil
 |cons r t ih=>
  cases t with
  |nil=>exact .nil
  |cons q t'=>exact .cons r ih
theorem ay.reverse{xs:List V}{us:List Value}(h:ay xs us):ay xs.reverse us.reverse:=by
 induction h with
 |nil=>exact .nil
 |cons r t ih=>rw[zcr,zcr];exact ay.append ih (.cons r .nil)
theorem ay.rep{xs:List V}{us:List Value}(h:ay xs us):∀k:Nat,ay (List.replicate k xs).flatten (List.replicate k us).flatten
 |0=>.nil
 |k+1=>by
  rw[zcs,zcs,zcF,zcF];exact ay.append h (ay.rep h k)
theorem vi{α:Type}(l:List α):l.eraseIdx (l.length-1)=l.dropLast:=by
 induction l with
 |nil=>rfl
 |cons a r ih=>
  cases r with
  |nil=>rfl
  |cons b r=>
   have e:(a::b::r).length-1=((b::r).length-1)+1:=by
    have h1:(a::b::r).length=r.length+2:=rfl;have h2:(b::r).length=r.length+1:=rfl;omega
   rw[e,List.eraseIdx_cons_succ,ih]
   all_goals rfl
theorem pd(its:List Value):∀(k:Nat)(acc:List Value),
  List.foldl (fun x1 x2=>x1++x2) acc.toArray (List.replicate k its.toArray)=(acc++(List.replicate k its).flatten).toArray
 |0,acc=>by simp
 |k+1,acc=>by
  have e:acc.toArray++its.toArray=(acc++its).toArray:=by simp
  have e2:(acc++its)++(List.replicate k its).flatten=acc++(List.replicate (k+1) its).flatten:=by
   rw[zcs,zcF,zbM]
  rw[←e2,←pd its k (acc++its),←e,zcs,List.foldl_cons]
section
variable{X:Cx}{pins:List (Addr×Obj)}{σ:St}{H:Hp}{s:Shared}{l b:Addr}{xs ys zs:List V}
theorem Inv.lset{its its':List Value}{n:Nat}{f:Array Value->Array Value}{t':Nat}(I:Inv X pins σ H s)(hH:H l=some (.lst xs))(e:s.heap.get? l=some { cls:=.type "list",data:=.seq its.toArray n })(hf:f its.toArray=its'.toArray)(hv:ay ys its')(hz:ys.length<=sizeLine):
  Inv X pins σ (upd H l (.lst ys)) { s with heap:=s.heap.update l (Obj.mapSeq f),toks:=t' }:=by
 have q:=PySem.IsL.update e f;rw[hf] at q;refine I.write (x:=l) (e:=l) (by rw[hH];exact trivial) (.inl rfl) (fun b' u hb hu=>(Heap.get?_update_other s.heap (Obj.mapSeq f) (zbJ hb)).trans hu) ⟨_,q⟩ ?_
 exact⟨hz,its',_,hv,q⟩
theorem Inv.lnew{its:List Value}{t':Nat}(I:Inv X pins σ H s)(hv:ay ys its)(hz:ys.length<=sizeLine):
  Inv X pins σ (upd H s.heap.objs.size (.lst ys)) { s with heap:=s.heap.push { cls:=.type "list",data:=.seq its.toArray },toks:=t' }:=
 I.laid (fun _ _ q=>zac _ q) (zaj _) ⟨hz,its,0,hv,zan _ rfl⟩
theorem Inv.fresh(I:Inv X pins σ H s):H s.heap.objs.size=none:=I.hok.fresh (zaj _)
theorem Inv.KR(I:Inv X pins σ H s)(hH:H l=some (.lst xs)):xs.length<=sizeLine/\∃(its:List Value)(n:Nat),ay xs its/\xs.length=its.length/\s.heap.get? l=some { cls:=.type "list",data:=.seq its.toArray n }:=by
 obtain⟨z,its,n,r,e⟩:=I.hok l _ hH;exact⟨z,its,n,r,r.length,e⟩
theorem uf{n:Nat}(h:n<=sizeLine):Builtin.List.listTooLong n=false:=by
 unfold Builtin.List.listTooLong;exact zaK (by omega)
end
section
variable{X:Cx}
noncomputable def xS:V->List V->Hp->VK->Prop:=fun x vs H Q=>∃l xs y,x=.ref l/\vs=[y]/\H l=some (.lst xs)/\xs.length<sizeLine/\Q .non (upd H l (.lst (xs++[y])))
theorem dJ:MtM X "list.append" xS:=by
 intro pins s σ H x vs v us Q I rx rv h;obtain⟨l,xs,y,rfl,rfl,hH,hz,q⟩:=h;cases rx;obtain⟨u,rfl,ru⟩:=rv.one;obtain⟨z,its,n,r,hl,e⟩:=I.KR hH;refine zaS zbI ⟨_,e,rfl⟩ F.entry_list_append (F.args_list_append_2 _ _) (PySem.list_append l its.toArray n u (by rw[zao];omega)) ⟨e,?_⟩
 refine⟨.non,_,I.lset (its':=its++[u]) hH e (by simp) (r.append (.cons ru .nil)) ?_,rfl,q⟩
 rw[zaw,zbc];omega
noncomputable def wD:V->List V->Hp->VK->Prop:=fun x vs H Q=>∃l b xs zs,x=.ref l/\vs=[.ref b]/\H l=some (.lst xs)/\H b=some (.lst zs)/\xs.length+zs.length<=sizeLine/\Q .non (upd H l (.lst (xs++zs)))
theorem pU:MtM X "list.extend" wD:=by
 intro pins s σ H x vs v us Q I rx rv h;obtain⟨l,b,xs,zs,rfl,rfl,hH,hB,hz,q⟩:=h;cases rx;obtain⟨u,rfl,ru⟩:=rv.one;cases ru;obtain⟨z,its,n,r,hl,e⟩:=I.KR hH;obtain⟨z2,its2,n2,r2,hl2,e2⟩:=I.KR hB;have hsz:its.toArray.size+its2.toArray.size<=sizeLine:=by rw[zao,zao];omega
 have hlong:¬ (!its.toArray.isEmpty && Builtin.List.listTooLong (its.toArray.size+its2.toArray.size))=true:=by
  rw[uf hsz,Bool.and_false];exact zat
 refine zaS F.slot_list_extend ⟨_,e,rfl⟩ F.entry_list_extend (F.args_list_extend_2 _ _)
  (AutoSeq1.list_extend_list_list_0 l its.toArray n b its2.toArray n2 hlong (by rw[zao];omega) (by omega)) ⟨e,e2,?_⟩
 refine⟨.non,_,I.lset (its':=its++its2) hH e (by simp) (r.append r2) ?_,rfl,q⟩
 rw[zaw];omega
noncomputable def Iw:V->List V->Hp->VK->Prop:=fun x vs H Q=>∃l xs y,x=.ref l/\vs=[]/\H l=some (.lst xs)/\xs[xs.length-1]?=some y/\Q y (upd H l (.lst xs.dropLast))
theorem jW:MtM X "list.pop" Iw:=by
 intro pins s σ H x vs v us Q I rx rv h;obtain⟨l,xs,y,rfl,rfl,hH,hy,q⟩:=h;cases rx;have hus:=rv.zero;subst hus;obtain⟨z,its,n,r,hl,e⟩:=I.KR hH;obtain⟨u,hu,ru⟩:=r.get hy
 have hy':its.toArray[its.toArray.size-1]?=some u:=by
  show its.toArray[its.length-1]?=some u;rw[←zcl,←hl]
  exact hu
 refine zaS zbT ⟨_,e,rfl⟩ F.entry_list_pop (F.args_list_pop_1 _) (MeetsSeq.list_pop_last l its.toArray n u hy' (by rw[zao];omega)) ⟨e,?_⟩
 refine⟨y,_,I.lset (its':=its.dropLast) hH e ?_ r.dropLast ?_,ru,q⟩
 ·show its.toArray.eraseIdxIfInBounds (its.toArray.size-1)=its.dropLast.toArray
  rw[zao,List.eraseIdxIfInBounds_toArray,vi]
 ·rw[List.length_dropLast]
  omega
noncomputable def uI:V->List V->Hp->VK->Prop:=fun x vs H Q=>∃l xs,x=.ref l/\vs=[]/\H l=some (.lst xs)/\Q .non (upd H l (.lst xs.reverse))
theorem u5:MtM X "list.reverse" uI:=by
 intro pins s σ H x vs v us Q I rx rv h;obtain⟨l,xs,rfl,rfl,hH,q⟩:=h;cases rx;have hus:=rv.zero;subst hus;obtain⟨z,its,n,r,hl,e⟩:=I.KR hH;refine zaS F.slot_list_reverse ⟨_,e,rfl⟩ F.entry_list_reverse (F.args_list_reverse_1 _) (AutoSeq1.list_reverse_list_0 l its.toArray n (by rw[zao];omega)) ⟨e,?_⟩
 refine⟨.non,_,I.lset (its':=its.reverse) hH e (by simp) r.reverse ?_,rfl,q⟩
 rw[zce];omega
noncomputable def Eu:R2:=fun x y H Q=>∃l b xs zs,x=.ref l/\y=.ref b/\H l=some (.lst xs)/\H b=some (.lst zs)/\xs.length+zs.length<=sizeLine/\∀p,H p=none->Q (.ref p) (upd H p (.lst (xs++zs)))
theorem de:OpR X (binaryOp .Add) Eu:=by
 intro pins s σ H x y v u Q I rx ry h;obtain⟨l,b,xs,zs,rfl,rfl,hH,hB,hz,q⟩:=h;cases rx;cases ry;obtain⟨z,its,n,r,hl,e⟩:=I.KR hH;obtain⟨z2,its2,n2,r2,hl2,e2⟩:=I.KR hB;refine PySem.P.add_list e e2 ?_ (by rw[zao,zao];omega)
 have ea:its.toArray++its2.toArray=(its++its2).toArray:=by simp
 rw[ea];exact⟨.ref _,_,I.lnew (t':=s.toks) (r.append r2) (by rw[zaw];omega),rfl,q _ I.fresh⟩
noncomputable def Es:R2:=fun x y H Q=>∃l k xs,x=.ref l/\y=.int k/\H l=some (.lst xs)/\-(2^63)<=k/\k<2^63/\xs.length*k.toNat<=sizeLine /\
 ∀p,H p=none->Q (.ref p) (upd H p (.lst (List.replicate k.toNat xs).flatten))
theorem DU{α:Type}(xs:List α)(k:Nat):(List.replicate k xs).flatten.length=k*xs.length:=by
 induction k with
 |zero=>simp
 |succ k ih=>rw[zcs,zcF,zaw,ih,Nat.succ_mul,Nat.add_comm]
theorem nL:OpR X (binaryOp .Mult) Es:=by
 intro pins s σ H x y v u Q I rx ry h;obtain⟨l,k,xs,rfl,rfl,hH,h1,h2,hz,q⟩:=h;cases rx;obtain⟨t,rfl⟩:=ry;obtain⟨z,its,n,r,hl,e⟩:=I.KR hH;have hlen:its.toArray.size*k.toNat<=sizeLine:=by rw[zao,←hl];exact hz
 have hcap:¬ its.toArray.size*k.toNat>(2^63-1) / 8:=by
  have:(sizeLine:Nat)<=(2^63-1) / 8:=by decide
  omega
 have hfit:¬ (!Builtin.List.listFitsIndex k)=true:=by
  rw[fitsIndex_both h1 h2];exact zat
 have hlong:¬ Builtin.List.listTooLong (its.toArray.size*k.toNat)=true:=by
  rw[uf hlen];exact zat
 have hnew:List.foldl (fun x1 x2=>x1++x2) #[] (List.replicate (if its.toArray.isEmpty=true then 0 else k.toNat) its.toArray)=(List.replicate k.toNat its).flatten.toArray:=by
  have f0:∀m:Nat,List.foldl (fun x1 x2=>x1++x2) #[] (List.replicate m its.toArray)=(List.replicate m its).flatten.toArray:=fun m=>by
   have:=pd its m [];rw[zcp] at this;exact this
  rw[f0]
  cases its with
  |nil=>simp
  |cons a r'=>rw[zad (by simp)]
 refine wpAny_binaryOp_repeat_ref (T:="list") (U:="int") (by decide) ⟨_,e,rfl⟩ (fun s'=>typeIs_int s' k t) noFill_list_mul F.fills_int_mul F.slot_int_rmul repeat_list F.slot_int_index.lookup
  (zaS F.slot_int_rmul (typeIs_int s k t) F.entry_int_rmul (F.args_int_rmul_2 _ _) (int___rmul___int_list k t l its.toArray n)
   ⟨e,rfl,⟨_,e,rfl⟩,zaS F.slot_list_mul ⟨_,e,rfl⟩ F.entry_list_mul (F.args_list_mul_2 _ _) (AutoListH.list___mul___list_int_3 l its.toArray n k t hfit hcap hlong) ⟨e,?_⟩⟩)
 rw[hnew];exact⟨.ref _,_,I.lnew (t':=s.toks) (r.rep k.toNat) (by rw[DU,Nat.mul_comm];exact hz),rfl,q _ I.fresh⟩
end
section
variable{prog:Program}{w:World}{A:Around}{E:Value->Shared->Prop}{s:Shared}
set_option maxRecDepth 100000 in
end
section
variable{κ:Type}[DecidableEq κ]
noncomputable def lI(kvs:List (κ×V))(k:κ):Option V:=(kvs.find? fun kv=>decide (kv.1=k)).map (·.2)
noncomputable def fG(kvs:List (κ×V))(k:κ)(v:V):List (κ×V):=
 if (kvs.any fun kv=>decide (kv.1=k))=true then kvs.map (fun kv=>if kv.1=k then (kv.1,v) else kv) else kvs++[(k,v)]
theorem jJ{p:κ×V}{r:List (κ×V)}{k:κ}(e:p.1=k):lI (p::r) k=some p.2:=by simp[lI,zaR,e]
theorem jH{p:κ×V}{r:List (κ×V)}{k:κ}(e:¬ p.1=k):lI (p::r) k=lI r k:=by simp[lI,zaR,e]
theorem uq(k:κ):∀kvs:List (κ×V),(kvs.any fun kv=>decide (kv.1=k))=(lI kvs k).isSome
 | []=>rfl
 |p::r=>by
  rw[zbz];by_cases e:p.1=k
  ·simp only[jJ e,zbq e,Bool.true_or,Option.isSome_some]
  ·rw[jH e,zaK e,zcX];exact uq k r
theorem gX(kvs:List (κ×V))(k:κ)(v:V):(fG kvs k v).length<=kvs.length+1:=by
 unfold fG;split
 ·rw[zaA];omega
 ·rw[zaw,zaJ,zdt];omega
theorem i7.KG{o:Option V}{u:Option Value}(r:i7 o u):o.isSome=u.isSome:=by
 cases o with
 |none=>cases u with
  |none=>rfl
  |some _=>exact(show False from r).elim
 |some _=>cases u with
  |none=>exact(show False from r).elim
  |some _=>rfl
theorem KV.val{kvs:List (κ×V)}{vs:List (κ×Value)}(r:KV kvs vs)(k:κ):i7 (lI kvs k) (valueAt vs k):=by
 unfold KV at r
 induction r with
 |nil=>exact True.intro
 | @cons p q ps qs h t ih=>
  obtain⟨h1,h2⟩:=h;by_cases e:p.1=k
  ·have e':q.1=k:=h1.symm.trans e
   have b:valueAt (q::qs) k=some q.2:=by simp[valueAt,zaR,e']
   rw[jJ e,b];exact h2
  ·have e':¬ q.1=k:=fun z=>e (h1.trans z)
   have b:valueAt (q::qs) k=valueAt qs k:=by simp[valueAt,zaR,e']
   rw[jH e,b];exact ih
theorem KV.any{kvs:List (κ×V)}{vs:List (κ×Value)}(r:KV kvs vs)(k:κ):(kvs.any fun kv=>decide (kv.1=k))=vs.any fun kv=>decide (kv.1=k):=by
 unfold KV at r
 induction r with
 |nil=>rfl
 |cons h t ih=>rw[zbz,zbz,ih,h.1]
theorem KV.repl{kvs:List (κ×V)}{vs:List (κ×Value)}(r:KV kvs vs)(k:κ){y:V}{u:Value}(ry:aB y u):
  KV (kvs.map fun kv=>if kv.1=k then (kv.1,y) else kv) (vs.map fun kv=>if kv.1=k then (kv.1,u) else kv):=by
 unfold KV at r ⊢
 induction r with
 |nil=>exact .nil
 | @cons p q ps qs h t ih=>
  rw[zah,zah];refine .cons ?_ ih;obtain⟨h1,h2⟩:=h;by_cases e:p.1=k
  ·rw[zaf e,zaf (h1.symm.trans e)];exact⟨h1,ry⟩
  ·rw[zad e,zad (fun z=>e (h1.trans z))];exact⟨h1,h2⟩
theorem KV.put{kvs:List (κ×V)}{vs:List (κ×Value)}(r:KV kvs vs)(k:κ){y:V}{u:Value}(ry:aB y u):KV (fG kvs k y) (stored vs k u):=by
 unfold fG stored;rw[r.any k];by_cases e:(vs.any fun kv=>decide (kv.1=k))=true
 ·rw[zaf e,zaf e];exact r.repl k ry
 ·rw[zad e,zad e];exact Paired.snoc r ⟨rfl,ry⟩
theorem KV.length{kvs:List (κ×V)}{vs:List (κ×Value)}(r:KV kvs vs):kvs.length=vs.length:=zbb r
end
theorem yw{P:Program}{w:World}{k:Key}{u:Value}(r:aB (kV k) u):(aY P w).is k u=true:=by
 cases k with
 |inl i=>obtain⟨t,e⟩:=(show ∃t,u=Value.int i t from r);subst e;exact tj P w i t
 |inr x=>obtain⟨t,e⟩:=(show ∃t,u=Value.str x t from r);subst e;exact gK P w x t
theorem pT{P:Program}{w:World}:∀ {ks:List Key} {us:List Value},ay (ks.map kV) us->ItemsAre (aY P w) ks us
 | [],_,r=>by rw[zbQ] at r;cases r;exact .nil
 |k::ks,_,r=>by
  rw[zah] at r
  cases r with
  |cons h t=>exact .cons (yw h) (pT t)
noncomputable abbrev KT(H:Hp):List (List Key×V)->List (List Key×Addr×Value)->Prop:=Paired fun p q=>p.1=q.1/\H q.2.1=some (.tup (p.1.map kV))/\aB p.2 q.2.2
theorem KT.val{H:Hp}{kvs:List (List Key×V)}{xs:List (List Key×Addr×Value)}(r:KT H kvs xs)(k:List Key):i7 (lI kvs k) ((atKey xs k).map (·.2)):=by
 induction r with
 |nil=>exact True.intro
 | @cons p q ps qs h t ih=>
  obtain⟨h1,_,h2⟩:=h;by_cases e:p.1=k
  ·have e':q.1=k:=h1.symm.trans e
   have b:atKey (q::qs) k=some q.2:=by simp[atKey,zaR,e']
   rw[jJ e,b];exact h2
  ·have e':¬ q.1=k:=fun z=>e (h1.trans z)
   have b:atKey (q::qs) k=atKey qs k:=by simp[atKey,zaR,e']
   rw[jH e,b];exact ih
theorem KT.repl{H:Hp}{kvs:List (List Key×V)}{xs:List (List Key×Addr×Value)}(r:KT H kvs xs)(k:List Key){y:V}{u:Value}(ry:aB y u):
  KT H (kvs.map fun kv=>if kv.1=k then (kv.1,y) else kv) (xs.map (putAt k u)):=by
 induction r with
 |nil=>exact .nil
 | @cons p q ps qs h t ih=>
  rw[zah,zah];refine .cons ?_ ih;obtain⟨h1,h2,h3⟩:=h;unfold putAt;by_cases e:p.1=k
  ·rw[zaf e,zaf (h1.symm.trans e)];exact⟨h1,h2,ry⟩
  ·rw[zad e,zad (fun z=>e (h1.trans z))];exact⟨h1,h2,h3⟩
theorem KT.put{H:Hp}{kvs:List (List Key×V)}{xs:List (List Key×Addr×Value)}(r:KT H kvs xs)(k:List Key){b:Addr}{y:V}{u:Value}(hb:H b=some (.tup (k.map kV)))(ry:aB y u):
  KT H (fG kvs k y) (storedH xs k b u):=by
 have e:(kvs.any fun kv=>decide (kv.1=k))=(atKey xs k).isSome:=by
  rw[uq,(r.val k).KG,Option.isSome_map]
 unfold fG storedH;rw[e];by_cases q:(atKey xs k).isSome=true
 ·rw[zaf q,zaf q];exact r.repl k ry
 ·rw[zad q,zad q];exact Paired.snoc r ⟨rfl,hb,ry⟩
theorem KT.keeps{H H':Hp}{kvs:List (List Key×V)}{xs:List (List Key×Addr×Value)}(r:KT H kvs xs)(ht:∀b ys,H b=some (.tup ys)->H' b=some (.tup ys)):KT H' kvs xs:=
 Paired.Lc r fun _ _ z=>⟨z.1,ht _ _ z.2.1,z.2.2⟩
section
variable{P:Program}{w:World}{H:Hp}{h:Heap}{a:Addr}
theorem Fp{u:HO}(ok:HOk P w H h)(e:Rd H a u):bb P w H h a u:=e.ok ok
theorem AR{kvs:List (Key×V)}(ok:HOk P w H h)(e:Rd H a (.dK kvs)):kvs.length<=sizeLine/\(a == sysModules)=false/\∃vs,KV kvs vs/\h.DictOf (aY P w) a vs:=
 show bb P w H h a (.dK kvs) from Fp ok e
theorem EY{kvs:List (Key×V)}(ok:HOk P w H h)(e:H a=some (.dK kvs)):kvs.length<=sizeLine/\(a == sysModules)=false/\∃vs,KV kvs vs/\h.DictOf (aY P w) a vs:=AR ok (.inl e)
theorem vw{ks:List Key}(ok:HOk P w H h)(e:H a=some (.tup (ks.map kV))):(tupleKind (aY P w)).is h ks a:=by
 obtain⟨_,its,r,⟨o,h1,h2,n,h3⟩,_⟩:=(show bb P w H h a (.tup (ks.map kV)) from ok a _ e)
 exact⟨o,its.toArray,n,h1,h2,h3,by simpa using pT r⟩
theorem Bf{kvs:List (List Key×V)}(ok:HOk P w H h)(e:Rd H a (.dT kvs)):kvs.length<=sizeLine/\(a == sysModules)=false /\
  ∃xs,KT H kvs xs/\h.DictOfH (tupleKind (aY P w)) a xs:=by
 obtain⟨z,y,xs,r,o,es,ep,h1,h2,h3,h4,h5⟩:=(show bb P w H h a (.dT kvs) from Fp ok e)
 refine⟨z,y,xs,r,o,es,ep,h1,h2,h3,h4,fun x hx=>?_,h5⟩
 have all:∀ {l:List (List Key×V)} {m:List (List Key×Addr×Value)},KT H l m->∀x∈m,(tupleKind (aY P w)).is h x.1 x.2.1:=by
  intro l m q
  induction q with
  |nil=>intro x hx;exact nomatch hx
  | @cons p q ps qs hq t ih=>
   intro x hx;rcases zay.mp hx with e|hx
   ·subst e
    exact vw ok (by rw[←hq.1];exact hq.2.1)
   ·exact ih x hx
 exact all r x hx
theorem Je{kvs:List (List Key×V)}(ok:HOk P w H h)(e:H a=some (.dT kvs)):kvs.length<=sizeLine/\(a == sysModules)=false /\
  ∃xs,KT H kvs xs/\h.DictOfH (tupleKind (aY P w)) a xs:=Bf ok (.inl e)
end
noncomputable def zm(H:Hp)(a:Addr)(y:V)(r:Option V):Prop:=
 (∃kvs k,Rd H a (.dK kvs)/\y=kV k/\r=lI kvs k)\/∃kvs k b,Rd H a (.dT kvs)/\y=.ref b/\H b=some (.tup (k.map kV))/\r=lI kvs k
noncomputable def Af(H:Hp)(a:Addr)(y v:V)(H':Hp):Prop:=
 (∃kvs k,H a=some (.dK kvs)/\y=kV k/\kvs.length<sizeLine/\H'=upd H a (.dK (fG kvs k v))) \/
 ∃kvs k b,H a=some (.dT kvs)/\y=.ref b/\H b=some (.tup (k.map kV))/\kvs.length<sizeLine/\H'=upd H a (.dT (fG kvs k v))
theorem zm.k{H:Hp}{a:Addr}{kvs:List (Key×V)}{k:Key}(e:H a=some (.dK kvs)):zm H a (kV k) (lI kvs k):=.inl ⟨kvs,k,.inl e,rfl,rfl⟩
theorem Af.k{H:Hp}{a:Addr}{kvs:List (Key×V)}{k:Key}{v:V}(e:H a=some (.dK kvs))(hl:kvs.length<sizeLine):Af H a (kV k) v (upd H a (.dK (fG kvs k v))):=.inl ⟨kvs,k,e,rfl,hl,rfl⟩
section
variable{X:Cx}{pins:List (Addr×Obj)}{σ:St}{H:Hp}{s:Shared}{a:Addr}{y v:V}{u r:Value}{o:Option V}{A:Around}{E:Value->Shared->Prop}
theorem Inv.big(I:Inv X pins σ H s):sysModules<s.heap.objs.size:=by
 have h:mainGlobals<s.heap.objs.size:=(I.mod.glob.keeps I.bk).lt;exact Nat.lt_trans (by decide) h
theorem zb{Q:Value->Shared->Prop}(hu:A.units+1<cLine)(I:Inv X pins σ H s)(g:zm H a y (some v))(ry:aB y u)(h:∀w' s',Inv X pins σ H s'->aB v w'->Q w' s'):
  wpAny (model X.prog X.w) A (getItem (.ref a) u) Q E s:=by
 rcases g with⟨kvs,k,e,ey,l⟩|⟨kvs,k,b,e,ey,eb,l⟩
 ·subst ey
  obtain⟨z,hd,vs,rel,dd⟩:=AR I.hok e;obtain⟨w',hw,rw'⟩:=i7.some_of (v:=v) (o:=valueAt vs k) (by rw[l];exact rel.val k)
  exact wpAny_getItem_of (yw ry) dd.mapOf hw (h w' _ (I.tok _) rw')
 ·subst ey
  cases (show u=Value.ref b from ry)
  obtain⟨z,hd,xs,rel,dd⟩:=Bf I.hok e;obtain⟨w',hw,rw'⟩:=i7.some_of (v:=v) (o:=(atKey xs k).map (·.2)) (by rw[l];exact rel.val k)
  obtain⟨p,hp,hp2⟩:=zas.mp hw;refine wpAny_getItem_heap (tupleKind_room_in1 hu) (vw I.hok eb) dd hp ?_;rw[hp2];exact h w' _ (I.tok _) rw'
theorem dj{h':Heap}{t':Nat}{ob:HO}(I:Inv X pins σ H s)(mu:Mut (H a))(hs:Heap.SameBut a s.heap h')(he:∃q,h'.get? a=some q)(new:bb X.prog X.w (upd H a ob) h' a ob):
  Inv X pins σ (upd H a ob) { s with heap:=h',toks:=t' }:=
 I.write (x:=a) (e:=a) mu (.inl rfl) (fun b q hb z=>(hs.2 b hb).trans z) he new
theorem Ct{P:Program}{w:World}{H':Hp}{h':Heap}{kvs:List (Key×V)}{vs:List (Key×Value)}(z:kvs.length<=sizeLine)(hd:(a == sysModules)=false)(rel:KV kvs vs)(dd:h'.DictOf (aY P w) a vs):
  bb P w H' h' a (.dK kvs):=⟨z,hd,vs,rel,dd⟩
theorem yB{H':Hp}{Q:Unit->Shared->Prop}(hu:A.units+1<cLine)(I:Inv X pins σ H s)(g:Af H a y v H')(ry:aB y u)(rv:aB v r)(h:∀s',Inv X pins σ H' s'->Q () s'):
  wpAny (model X.prog X.w) A (setItem (.ref a) u r) Q E s:=by
 rcases g with⟨kvs,k,e,ey,l,eH⟩|⟨kvs,k,b,e,ey,eb,l,eH⟩
 ·subst ey eH
  obtain⟨z,hd,vs,rel,dd⟩:=EY I.hok e;have hz:vs.length<=sizeLine:=by rw[←rel.length];exact z
  have hl:(fG kvs k v).length<=sizeLine:=by have:=gX kvs k v;omega
  refine wpAny_setItem_pairs (hsz:=hz) (yw ry) dd fun h' dd' hs=>h _ ?_;have he:∃q,h'.get? a=some q:=let ⟨q,_,_,hq,_⟩:=dd';⟨q,hq⟩
  exact dj I (by rw[e];exact True.intro) hs he (Ct hl hd (rel.put k rv) dd')
 ·subst ey eH
  cases (show u=Value.ref b from ry)
  obtain⟨z,hd,xs,rel,dd⟩:=Je I.hok e;have hz:xs.length<=sizeLine:=by rw[←zbb rel];exact z
  have hl:(fG kvs k v).length<=sizeLine:=by have:=gX kvs k v;omega
  refine wpAny_setItem_heap (hsz:=hz) (tupleKind_room_in1 hu) (vw I.hok eb) dd fun h' dd' hs=>h _ ?_;obtain⟨q,es,ep,hq,h2,h3,h4,_,h5⟩:=dd';refine dj I (by rw[e];exact True.intro) hs ⟨q,hq⟩ ⟨hl,hd,_,(rel.put k eb rv).keeps fun c ys ec=>?_,q,es,ep,hq,h2,h3,h4,h5⟩
  rw[ah (HW ec e (fun z=>nomatch z))]
  exact ec
end
noncomputable def Dt(i:Expr):Prop:=∀ov iv,subscripted i false ov iv=operate [ov,iv] (getItem ov iv)
theorem qS{prog:Program}{w:World}{A:Around}{E:Value->Shared->Prop}{s:Shared}{env:Env}{value slice:Expr}{pos:Pos}{T id:String}{Q:Value->Shared->Prop}(hl:typeLookup (.type T) "__getitem__"=pure (some (.builtin id)))(hs:Dt slice)(h:wpAny (model prog w) A (eval value env) (fun o s₁=>wpAny (model prog w) A (eval slice env) (fun i s₂=>s₂.TypeIs o T/\wpAny (model prog w) A (getItem o i) Q E s₂) E s₁) E s):
  wpAny (model prog w) A (eval (.Subscript value slice pos) env) Q E s:=by
 refine Subscript_ (zbi h (fun o s₁ h₁=>zbi h₁ (fun i s₂ h₂=>?_) fun _ _ x=>x) fun _ _ x=>x);obtain⟨hT,h₂⟩:=h₂;unfold subscriptTail;refine zaa ?_;rw[getitemInPython_of_ne hT.not_modules];refine zaa (zca hT hl ?_)
 have fin:wpAny (model prog w) A (subscripted slice false o i) (fun r s₃=>wpAny (model prog w) A (letTemporaryGo value o r >>= fun _=>pure r) Q E s₃) E s₂:=by
  rw[hs o i];exact wpAny_operating (zbi h₂ (fun r s₃ h₃=>zaa (wpAny_letTemporaryGo (zab h₃))) fun _ _ x=>x)
 first
  |exact zab (zaa fin)
  |exact zaa (zab (zaa fin))
  |exact zaa fin
theorem sR{X:Cx}{pins:List (Addr×Obj)}{σ:St}{H:Hp}{s:Shared}{a:Addr}{y:V}{o:Option V}(I:Inv X pins σ H s)(g:zm H a y o):s.TypeIs (.ref a) "dict":=by
 rcases g with⟨kvs,k,e,_,_⟩|⟨kvs,k,b,e,_,_,_⟩
 ·obtain⟨_,_,vs,_,dd⟩:=AR I.hok e
  exact dd.typeIs
 ·obtain⟨_,_,xs,_,dd⟩:=Bf I.hok e
  exact dd.typeIs
noncomputable def Fl(td ty:TE):TE:=fun σ H Q=>td σ H fun x H1=>ty σ H1 fun y H2=>∃a v,x=.ref a/\zm H2 a y (some v)/\Q v H2
noncomputable def E5(td ty tv:TE):TS:=fun D σ H=>tv σ H fun v H1=>td σ H1 fun x H2=>ty σ H2 fun y H3=>∃a H4,x=.ref a/\Af H3 a y v H4/\D.nx σ H4
section
variable{X:Cx}{o i e value:Expr}{pos pos' tpos:Pos}{td ty tv:TE}
theorem jF(hu:X.A.units+1<cLine)(ho:PE X o td)(hi:PE X i ty)(hs:Dt i):PE X (.Subscript o i pos) (Fl td ty):=.mk <| by
 intro pins s σ H Q I h;refine qS zdu.lookup hs (thn (ho pins s σ H _ I h) fun u s1 ⟨x,H1,I1,rx,q1⟩=>thn (hi pins s1 σ H1 _ I1 q1) fun iv s2 ⟨y,H2,I2,ry,a,v,ex,g,q2⟩=>?_);subst ex;obtain rfl:u=Value.ref a:=rx;exact⟨sR I2 g,zb hu I2 g ry fun w' s3 I3 rw'=>⟨v,H2,I3,rw',q2⟩⟩
theorem qc(hu:X.A.units+1<cLine)(ho:PE X o td)(hi:PE X i ty)(hv:PE X value tv)(hs:swapsWith value (some (.Subscript o i pos')) pos.line X.env=pure false):
  PS X (.Assign [.Subscript o i pos'] value pos) (E5 td ty tv):=.mk <| by
 intro pins s σ H D I h;refine wpAny_Assign_Subscript (thn (hv pins s σ H _ I h) fun r s1 ⟨v,H1,I1,rv,q1⟩=>thn (ho pins s1 σ H1 _ I1 q1) fun u s2 ⟨x,H2,I2,rx,q2⟩=>thn (hi pins s2 σ H2 _ I2 q2) fun iv s3 ⟨y,H3,I3,ry,a,H4,ex,g,q3⟩=>?_) hs;subst ex;obtain rfl:u=Value.ref a:=rx;exact yB hu I3 g ry rv fun s4 I4=>⟨σ,H4,I4,q3⟩
end
theorem Bo{P:Program}{w:World}{H:Hp}(h:Heap)(hb:sysModules<h.objs.size):bb P w H (h.push { cls:=.type "dict",data:=.dict #[] }) h.objs.size (.dK []):=
 ⟨zbL _,zdq.mpr (zbJ (zaF hb)),[],.nil,Heap.DictOf.new h⟩
noncomputable def ql:List (TE×TE)->St->Hp->(List (V×V)->Hp->Prop)->Prop
 | [],_,H,Q=>Q [] H
 |(tk,tv)::r,σ,H,Q=>tk σ H fun x H1=>tv σ H1 fun y H2=>ql r σ H2 fun ps H3=>Q ((x,y)::ps) H3
noncomputable abbrev VV:List (V×V)->List (Value×Value)->Prop:=Paired fun p q=>aB p.1 q.1/\aB p.2 q.2
noncomputable def PPs(X:Cx)(pos:Pos)(keys:List (Option Expr))(values:List Expr)(trs:List (TE×TE)):Prop:=
 ∀(pins:List (Addr×Obj)) (s:Shared) (σ:St) (H:Hp) (Q:List (V×V)->Hp->Prop),Inv X pins σ H s->ql trs σ H Q ->
  wpAny (model X.prog X.w) X.A (evalPairs (pairTrees keys values X.env pos)) (fun vs s'=>∃ps H',Inv X pins σ H' s'/\VV ps vs/\Q ps H') X.xe s
theorem DV{X:Cx}{pos:Pos}:PPs X pos [] [] []:=fun pins s σ H Q I h=>pairTrees_nil_walk ⟨[],H,I,.nil,h⟩
theorem nv{X:Cx}{pos:Pos}{k v:Expr}{ks:List (Option Expr)}{vs:List Expr}{tk tv:TE}{trs:List (TE×TE)}(hk:PE X k tk)(hv:PE X v tv)(hr:PPs X pos ks vs trs):
  PPs X pos (some k::ks) (v::vs) ((tk,tv)::trs):=fun pins s σ H Q I h=>
 pairTrees_cons_walk (thn (hk pins s σ H _ I h) fun u s1 ⟨x,H1,I1,rx,q1⟩=>thn (hv pins s1 σ H1 _ I1 q1) fun w2 s2 ⟨y,H2,I2,ry,q2⟩=>
  thn (hr pins s2 σ H2 _ I2 q2) fun ws s3 ⟨ps,H3,I3,rel,q3⟩=>⟨(x,y)::ps,H3,I3,.cons ⟨rx,ry⟩ rel,q3⟩)
noncomputable def gQ(kvs more:List (Key×V)):List (Key×V):=more.foldl (fun acc kv=>fG acc kv.1 kv.2) kvs
theorem KV.merge:∀ {more:List (Key×V)} {rs:List (Key×Value)} {kvs:List (Key×V)} {vs:List (Key×Value)},KV more rs->KV kvs vs->KV (gQ kvs more) (merged vs rs):=by
 intro more rs kvs vs r;unfold KV at r
 induction r generalizing kvs vs with
 |nil=>intro q;exact q
 | @cons p q ps qs h t ih=>
  intro r0
  have e:KV (fG kvs p.1 p.2) (stored vs q.1 q.2):=by
   have:=r0.put p.1 h.2;rw[←h.1];exact this
  exact ih e
theorem iU:∀(more kvs:List (Key×V)),(gQ kvs more).length<=kvs.length+more.length
 | [],kvs=>by show kvs.length<=kvs.length+0;omega
 |p::r,kvs=>by
  have h1:=iU r (fG kvs p.1 p.2);have h2:=gX kvs p.1 p.2;show (gQ (fG kvs p.1 p.2) r).length<=_;rw[zaJ];omega
theorem nQ{P:Program}{w:World}:∀ {kvs:List (Key×V)} {ws:List (Value×Value)},VV (kvs.map fun kv=>(kV kv.1,kv.2)) ws->∃rs,Carries (aY P w) ws rs/\KV kvs rs
 | [],_,r=>by rw[zbQ] at r;cases r;exact⟨[],True.intro,.nil⟩
 |p::kvs,_,r=>by
  rw[zah] at r
  cases r with
  | @cons a b as bs h t=>
   obtain⟨rs,c,q⟩:=nQ (P:=P) (w:=w) t;obtain⟨b1,b2⟩:=b;exact⟨(p.1,b2)::rs,⟨yw h.1,rfl,c⟩,.cons ⟨rfl,h.2⟩ q⟩
noncomputable def EX(trs:List (TE×TE)):TE:=fun σ H Q=>∀p,H p=none->ql trs σ (upd H p (.dK [])) fun ps H2=>H2 p=some (.dK [])/\∃kvs:List (Key×V),ps=kvs.map (fun kv=>(kV kv.1,kv.2))/\kvs.length<=15/\Q (.ref p) (upd H2 p (.dK (gQ [] kvs)))
theorem Da{X:Cx}{pos:Pos}{keys:List (Option Expr)}{values:List Expr}{trs:List (TE×TE)}(h:PPs X pos keys values trs)(hall:keys.all (·.isSome)=true)(hl:keys.length=values.length)(h0:keys≠[])(h15:keys.length<=15):PE X (.Dict keys values pos) (EX trs):=.mk <| by
 intro pins s σ H Q I q;have hn:=I.hok.fresh (zaj s.heap.objs.size);have I1:=I.laid (a:=s.heap.objs.size) (o:=.dK []) (h':=s.heap.push { cls:=.type "dict",data:=.dict #[] }) (t':=s.toks) (fun _ _ q=>zac _ q) (zaj _) (Bo s.heap I.big);refine wpAny_Dict_walk (knd:=aY X.prog X.w) hall hl h0 h15 (thn (h pins _ σ _ _ I1 (q _ hn)) fun ws s2 ⟨ps,H2,I2,rel,e,kvs,ep,lk,q2⟩=>?_)
 subst ep;obtain⟨rs,c,rk⟩:=nQ (P:=X.prog) (w:=X.w) rel;obtain⟨z,hd,vs0,r0,dd⟩:=EY I2.hok e;cases r0;refine⟨rs,c,dd,fun h' dd' hs=>⟨.ref s.heap.objs.size,_,?_,rfl,q2⟩⟩
 have hz:(gQ [] kvs).length<=sizeLine:=by
  have h1:=iU kvs [];rw[zdt] at h1;rw[sizeLine_eq];omega
 have he:∃q,h'.get? s.heap.objs.size=some q:=let ⟨q,_,_,hq,_⟩:=dd';⟨q,hq⟩
 exact dj I2 (by rw[e];exact True.intro) hs he (Ct hz hd (rk.merge .nil) dd')
structure M1(X:Cx)(o:Expr)(m:Str)(apos:Pos)(e:Expr)(cpos:Pos):Prop where
 base:attributeBase o m X.env (eval o X.env)=eval o X.env
 few:((backTo cpos (starEach [e] X.env)).all (fun x=>!x.1) && (backToKw cpos (keywordEach [] X.env)).all (fun x=>x.1.isSome)
  && decide (([e]:List Expr).length+([]:List Keyword).length+(if ([]:List Keyword).isEmpty then 0 else 1)<30))=true
 line:(apos.endLine == cpos.line)=true
 trees:backTo cpos (starEach [e] X.env)=[(false,eval e X.env)]
structure M2(X:Cx)(o:Expr)(m:Str)(apos:Pos)(e f:Expr)(cpos:Pos):Prop where
 base:attributeBase o m X.env (eval o X.env)=eval o X.env
 few:((backTo cpos (starEach [e,f] X.env)).all (fun x=>!x.1) && (backToKw cpos (keywordEach [] X.env)).all (fun x=>x.1.isSome)
  && decide (([e,f]:List Expr).length+([]:List Keyword).length+(if ([]:List Keyword).isEmpty then 0 else 1)<30))=true
 line:(apos.endLine == cpos.line)=true
 trees:backTo cpos (starEach [e,f] X.env)=[(false,eval e X.env),(false,eval f X.env)]
end L2
namespace Att
open PySem PySem.W PySem.Calls PyProof.Rows
theorem lJ{P:Params}{h:Heap}:∀(ns:List Int)(vs:List Value),WellAll P h vs (ns.map WData.int)->IntsAre vs ns:=by
 intro ns
 induction ns with
 |nil=>
  intro vs w;rw[zbQ] at w;cases w;exact .nil
 |cons n ns ih=>
  intro vs w;rw[zah] at w
  cases w with
  |cons a b=>
   cases a;exact .cons _ _ (ih _ b)
theorem yK{l:OpenLaw}{n:Nat}(hn:l.most=some n){P:Params}{h:Heap}{args:List WData}{vals:List Value}(hpre:l.row.toRowW.claim.pre args=true)(hwl:WellAll P h vals args):
  ∃a vs ns,vals=[Value.ref a]/\args=[WData.list (ns.map WData.int)]/\h.get? a=some { cls:=.type "list",data:=.seq vs.toArray }/\IntsAre vs ns/\ns.length<=n:=by
 have hsh:WShape.hasAll [] args [.list .int]=true:=(pre_splitW hpre).1;have hc:l.pre.holds [] { args:=args }=true:=(pre_splitW hpre).2;obtain⟨d,r,rfl,h1,h2⟩:=hasAllW_cons hsh;obtain rfl:=hasAllW_nil h2;obtain⟨xs,rfl,h3⟩:=hasW_list h1;obtain⟨ns,rfl⟩:=items_int h3
 have hlen:ns.length<=n:=by
  unfold OpenLaw.pre at hc
  have h4:(WTm.not (.lt (.lit (.int (n:Int))) (.len (.arg 0)))).holds [] { args:=[.list (ns.map .int)] }=true:=by
   have h4:=(holds_andW hc).1;rw[hn] at h4;exact h4
  have h5:=condW_of h4 (w_not (w_lt w_lit (w_len_list (w_arg rfl))));rw[zaA] at h5;refine Nat.le_of_not_lt fun q=>?_;have q':(n:Int)<((ns.length:Nat):Int):=by omega
  first
   |(rw[zbq q'] at h5;exact absurd h5 (by decide))
   |(simp at h5;omega)
 cases hwl with
 |cons w1 w2=>
  cases w2
  cases w1 with
  |list ho hall=>exact⟨_,_,ns,rfl,rfl,ho,lJ ns _ hall,hlen⟩
theorem zn(l:OpenLaw)(args:List WData):l.row.toRowW.claim.post args (.bool true) args=true:=
 postW_of (r:=l.row.toRowW) (X:=(true == true))
  (show WShape.has [] (.bool true) .bool=true by first|rfl|decide|simp[WShape.has,WShape.arms,WShape.armsAll])
  (show (WTm.eq .res (.lit (.bool true))).value [] { args:=args,res:=some (.bool true),after:=args }=some (.bool (true == true)) from w_eq_bool (w_res rfl) w_lit) rfl
theorem ut{l:OpenLaw}{n:Nat}{q:Program}{loose:List Str}{XP:(Str->Option Value)->Heap->Prop}{YP:World->Heap->Prop}{d:DefRec}(hn:l.most=some n)(hdf:d.params.defaults=[])
  (call:∀(w:World)(s₀ s₁:Shared)(mg mb:Str->Option Value)(fa:Addr)(o:Obj)(pm cd doc:Value)(a:Addr)(vs:List Value)(ns:List Int),
   Ground q loose [] XP w s₀ mg mb s₁.heap->YP w s₁.heap ->
   s₁.heap.get? fa=some o->o.data=.func (docDef d.name d.params d.body d.scope pm cd doc)->s₁.heap.CodeRec cd d.name->mg d.name=some (.ref fa) ->
   s₁.heap.get? a=some { cls:=.type "list",data:=.seq vs.toArray }->IntsAre vs ns->ns.length<=n->s₁.gens=#[] ->
   codeAny (model l.prog w) callerA (.call (.ref fa) ⟨[.ref a],[]⟩) (fun r s'=>r=.ok (.ret (.bool true))/\OldK s₁.heap s'.heap/\s'.os=s₁.os/\AllBare s'.gens) s₁) :
  WalkO q loose XP YP l.row.toRowW d [] (fun f vs=>PySem.call f vs):=by
 intro w s₀ s₁ mg mb G Y fa o pm cd doc dV kV ho hd hcd hD hmg hg args vals as hpre hlay hrd hwl hlo;obtain rfl:dV=.none:=Dflts.none hD hdf;obtain rfl:kV=.none:=Dflts.noKw hD;obtain⟨a,vs,ns,rfl,rfl,hobj,hints,hlen⟩:=yK hn hpre hwl;refine enter_call (codeAny_mono (call w s₀ s₁ mg mb fa o pm cd doc a vs ns G Y ho (fd_plain hd) hcd hmg hobj hints hlen hg) fun r s' hq=>?_);obtain⟨rfl,h2,h3,h4⟩:=hq
 exact⟨.inl ⟨.bool true,.bool true,[],rfl,fun _=>rfl,.bool true,zn l _,fun _=>⟨List.Pairwise.nil,fun _ hm=>(nomatch hm)⟩⟩,h2,h3,h4⟩
end Att
namespace L2
open PySem PySem.Spec PyProof.Rows
theorem ph:∀ {vs:List Value} {ns:List Int},IntsAre vs ns->ay (ns.map V.int) vs
 |_,_,.nil=>.nil
 |_,_,.cons n t h=>.cons ⟨t,rfl⟩ (ph h)
noncomputable def IX(_:Hp):Prop:=True
noncomputable abbrev KOf{K:W.Frag}{h:Heap}(_:K.In h):W.Frag:=K
noncomputable def defArgs(s:Stmt):Arguments:=match s with
 |.FunctionDef _ a _ _ _ _ _ _ _ _=>a
 |_=>{ posonlyargs:=[],args:=[],vararg:=none,kwonlyargs:=[],kw_defaults:=[],kwarg:=none,defaults:=[] }
noncomputable def defBody(s:Stmt):List Stmt:=match s with
 |.FunctionDef _ _ b _ _ _ _ _ _ _=>b
 |_=>[]
noncomputable def defScope(s:Stmt):Scope:=match s with
 |.FunctionDef _ _ _ _ _ _ sc _ _ _=>sc
 |_=>{ kind:=.function,names:=[],isGenerator:=false,isCoroutine:=false }
noncomputable abbrev CX0:CXT:=fun _ _ _ _ _ _=>False
noncomputable abbrev E0:XK:=fun _ _ _=>False
theorem br{X:Cx}:uU CX0 X E0:=fun _ _ _ _ _ _ _ h=>h.elim
structure Fun(K:W.Frag)(x qual:Str)(st:Stmt)(f:Addr)(fd:FuncData):Prop where
 ex:∃(oc:Value)(od:Option Addr)(kV doc pm:Value)(an:Option Addr)(cdv ct:Value) (osl:Array (Option Value)),
  fd=W.fnOf x qual (defArgs st) (defBody st) (defScope st) .none kV doc pm an cdv ct/\K.lookup f=some ⟨oc,od,.func fd,osl⟩/\W.codeIn K cdv qual=true
 kp:W.keepIn K (.ref f)=true
section
variable{P:Program}{w:World}{K:W.Frag}{mg:Str->Option Value}{base:Heap}
theorem Fun.ok{x qual:Str}{st:Stmt}{f:Addr}{fd:FuncData}{N ps:List Str}{k:Nat}{sp:Sp}(F:Fun K x qual st f fd)(S:aK N ps (defScope st))(len:∀vs H Q E,sp vs H Q E->vs.length=ps.length)
  (hbody:∀(cdv:Value)(A:Around)(outer:List Env)(s:Shared)(H:Hp)(vs:List V)(Q:VK)(E:XK),cw k (A.deeper (envOfC qual (defScope st) s.heap.objs.size f cdv))->sp vs H Q E ->
   ∃t,PSs (oJ CX0 P w K mg base N qual (defScope st) f cdv A outer s H E).nox (defBody st) t/\t { nx:=fun _ H'=>Q .non H',rt:=Q } (start N vs) H):a7 P w K mg base CX0 (k+1) f fd ps sp:=by
 obtain⟨oc,od,kV,doc,pm,an,cdv,ct,osl,rfl,lk,hcd⟩:=F.ex;refine Fj lk hcd S len fun A outer s H vs Q E hr hsp=>?_;obtain⟨t,h,q⟩:=hbody cdv A outer s H vs Q E hr hsp;exact⟨t,h.nox,q⟩
theorem Fun.binds{x qual:Str}{st:Stmt}{f:Addr}{fd:FuncData}{ps:List Str}(F:Fun K x qual st f fd)(h:∀(kV doc pm:Value)(an:Option Addr)(cdv ct:Value)(us:List Value),us.length=ps.length->bindArgs (W.fnOf x qual (defArgs st) (defBody st) (defScope st) .none kV doc pm an cdv ct) ⟨us,[]⟩=pure (ps.zip us)):bq K fd ps []:=by
 obtain⟨oc,od,kV,doc,pm,an,cdv,ct,osl,rfl,lk,hcd⟩:=F.ex;exact .all (h kV doc pm an cdv ct)
theorem uP{x qual:Str}{st:Stmt}{f:Addr}{oc:Value}{od an:Option Addr}{osl:Array (Option Value)}{kV doc pm cdv ct:Value}(l:K.lookup f=some ⟨oc,od,.func (W.fnOf x qual (defArgs st) (defBody st) (defScope st) .none kV doc pm an cdv ct),osl⟩)(c:W.codeIn K cdv qual=true)(k:W.keepIn K (.ref f)=true):Fun K x qual st f (W.fnOf x qual (defArgs st) (defBody st) (defScope st) .none kV doc pm an cdv ct):=⟨⟨oc,od,kV,doc,pm,an,cdv,ct,osl,rfl,l,c⟩,k⟩
end
theorem kT{A:Around}{k:Nat}(hr:cw k A):A.units+1<cLine:=zbp (Nat.add_le_add_left (by decide:1<=64) _) hr.units
theorem aV{n:Nat}(h:n<=1000):n<sizeLine:=zbp h (by decide)
section
variable{X:Cx}
theorem pv(i:Nat){x:Str}{pos:Pos}(hN:X.N[i]?=some x:=by rfl)(hv:Vis X.env.scope x:=by first|exact Or.inl rfl|exact Or.inr (Or.inl rfl)|exact Or.inr (Or.inr rfl))(hd:(x == ("__debug__":Str))=false:=by decide)(hcd:(x == ("__classdict__":Str))=false:=by decide):PE X (.Name x pos) (GT i):=zK hN hv hd hcd
end
theorem dU{A B:Prop}(h:B):if false=true then A else B:=by
 rw[zad zat];exact h
theorem vq{A B:Prop}(h:A):if true=true then A else B:=by
 rw[zaf rfl];exact h
theorem fc{c A B:Prop}[Decidable c](h1:c->A)(h2:¬ c->B):if c then A else B:=by
 by_cases h:c
 ·rw[zaf h]
  exact h1 h
 ·rw[zad h]
  exact h2 h
noncomputable def bH(H H':Hp):Prop:=∀b o,H b=some o->H' b=some o
theorem bH.refl(H:Hp):bH H H:=fun _ _ h=>h
theorem bH.trans{H H1 H2:Hp}(a:bH H H1)(b:bH H1 H2):bH H H2:=fun c o h=>b c o (a c o h)
end L2
set_option maxHeartbeats 1000000
namespace L2
open PySem PySem.Spec PyProof.Rows
section
variable{prog:Program}{w:World}{A:Around}{E:Value->Shared->Prop}{R:Result->Shared->Prop}{s:Shared}
noncomputable def fZ(elt:Expr)(gens:List Comprehension)(scope:Scope)(pos:Pos)(d:Nat)(acc:Value)(env:Env):Sem Unit:=
 match gens[d+1]? with
 |some g'=>do
  let x ← eval g'.iter env
  standAt g'.iter.pos
  let x ← if g'.is_async != 0 then foldedIterable g'.iter x else foldedSetIterable g'.iter env x
  let _ ← runOwn (.compStart (.ListComp elt gens scope pos) (d+1) (← holding [x] (if g'.is_async != 0 then asyncIter x else pyIter x)) acc env) env
 |none=>do let _ ← call (.builtin "list.append") [acc,←eval elt env]
theorem qD{elt target iter:Expr}{gens:List Comprehension}{ifs:List Expr}{scope:Scope}{pos:Pos}{d:Nat}{it acc:Value}{env:Env}(I:Nat->Shared->Prop)(hg:gens[d]?=some ⟨target,iter,ifs,0⟩)(ha:∀g',gens[d+1]?=some g'->g'.is_async=0)
  (turn:∀n s,I n s->wpAny (model prog w) A (pyNext it) (fun r s₁=>match r with
   |none=>R (.ok .next) s₁
   | some v=>wpAny (model prog w) A (letOwnedTupleGo target it v) (fun _ s₁'=>wpAny (model prog w) A (assign target env v) (fun _ s₂ =>
     wpAny (model prog w) A (forIn ifs true fun c r=>if r=true then do let ok ← isTrue c env (eval c env);pure (ForInStep.yield ok) else pure (ForInStep.yield r)) (fun ok s₃=>
      if ok=true then wpAny (model prog w) A (fZ elt gens scope pos d acc env) (fun _ s₅=>∃m,m<n/\I m s₅) (fun _ _=>False) s₃
      else ∃m,m<n/\I m s₃) (fun _ _=>False) s₂) (fun _ _=>False) s₁') (fun _ _=>False) s₁) (fun _ _=>False) s)
  (n:Nat) (h:I n s) :
  codeAny (model prog w) A (.compLoop (.ListComp elt gens scope pos) d it acc env) R s:=by
 refine codeAny_loop rfl I (fun n s hI=>?_) n h;show wpAny _ A ((compTurn (.ListComp elt gens scope pos) d it acc env).onRaise (fun x=>do noteFrame x env;theTreesLotGoes x)) _ _ s
 refine wpAny_noted ?_;unfold compTurn;simp only[hg];refine zaa (zcC (zaa (zbi (turn n s hI) (fun r s₁ h₁=>?_) fun _ _ x=>x.elim)))
 cases r with
 |none=>exact zab h₁
 |some v=>
  refine zaa (zbi h₁ (fun _ s₁' h₁'=>?_) fun _ _ x=>x.elim);refine zaa (zbi h₁' (fun _ s₂ h₂=>zaa (zbi h₂ (fun ok s₃ h₃=>?_) fun _ _ x=>x.elim)) fun _ _ x=>x.elim)
  cases ok with
  |false=>exact zab ⟨rfl,h₃⟩
  |true=>
   have h₃':wpAny (model prog w) A (fZ elt gens scope pos d acc env) (fun _ s₅=>∃m,m<n/\I m s₅) (fun _ _=>False) s₃:=h₃;unfold fZ at h₃';rw[zaf rfl]
   cases hd:gens[d+1]? with
   |none=>
    rw[hd] at h₃';exact zaa (zbi h₃' (fun _ s₅ h₅=>zab ⟨rfl,h₅⟩) fun _ _ x=>x.elim)
   |some g'=>
    rw[hd] at h₃';have h0:=ha g' hd;have e0:(g'.is_async != 0)=false:=by rw[h0];rfl
    dsimp only at h₃' ⊢;simp only[e0,zak,zaP] at h₃' ⊢;intro Γ p hΓ;have q:=h₃' Γ p hΓ;simp only[Sem.wp_bind'] at q ⊢;refine Sem.wp_mono _ Γ _ (fun x p₁ s₄ q₁=>?_) (fun _ _ _ z=>z.elim) _ _ q;refine Sem.wp_mono _ Γ _ (fun _ p₂ s₄ q₂=>?_) (fun _ _ _ z=>z.elim) _ _ q₁;refine Sem.wp_mono _ Γ _ (fun x p₂ s₄ q₂=>?_) (fun _ _ _ z=>z.elim) _ _ q₂;refine Sem.wp_mono _ Γ _ (fun x p₂ s₄ q₂=>?_) (fun _ _ _ z=>z.elim) _ _ q₂
    refine Sem.wp_mono _ Γ _ (fun x p₂ s₄ q₂=>?_) (fun _ _ _ z=>z.elim) _ _ q₂;exact⟨rfl,q₂⟩
end
section
variable{prog:Program}{w:World}{A:Around}{E:Value->Shared->Prop}{R:Result->Shared->Prop}{s:Shared}
theorem iS{elt target iter:Expr}{gens:List Comprehension}{ifs:List Expr}{scope:Scope}{pos:Pos}{d:Nat}{it acc:Value}{env:Env}(hg:gens[d]?=some ⟨target,iter,ifs,0⟩)(h0:codeAny (model prog w) A (.compLoop (.ListComp elt gens scope pos) d it acc env) R s)(h:wpAny (model prog w) A (pyIter it) (fun it' s'=>codeAny (model prog w) A (.compLoop (.ListComp elt gens scope pos) d it' acc env) R s') (fun _ _=>False) s):
  codeAny (model prog w) A (.compStart (.ListComp elt gens scope pos) d it acc env) R s:=by
 refine codeAny_of_tree ?_;show wpAny _ _ ((compStart (.ListComp elt gens scope pos) d it acc env).onRaise (fun x=>do noteFrame x env;standAt theWindowsPlace)) _ _ s
 refine wpAny_notedAt ?_;unfold compStart;have hcl:clausesOf (.ListComp elt gens scope pos)=gens:=rfl;simp only[hcl,hg,Option.elim];refine wpAny_ite ?_;rw[zad (by decide)]
 refine zaa (wpAny_askSetting (wpAny_ite ?_));split
 ·first
   |exact zaa (zab (zab (And.intro rfl h0)))
   |exact zab (And.intro rfl h0)
 ·exact zaa (zbF (zaa (zcC (zaa (zbi h (fun it' s' h'=>zab (And.intro rfl h')) fun _ _ x=>x.elim)))))
end
noncomputable abbrev TL:=Addr->St->Hp->(St->Hp->Prop)->Prop
noncomputable def PL(X:Cx)(elt:Expr)(gens:List Comprehension)(scope:Scope)(pos:Pos)(d:Nat)(t:TL):Prop:=
 ∀(pins:List (Addr×Obj)) (s:Shared) (σ:St) (H:Hp) (acc:Addr) (K:St->Hp->Prop),Inv X pins σ H s->t acc σ H K ->
  wpAny (model X.prog X.w) X.A (fZ elt gens scope pos d (.ref acc) X.env) (fun _ s'=>∃σ' H',Inv X pins σ' H' s'/\K σ' H') (fun _ _=>False) s
noncomputable def PTs(X:Cx)(ifs:List Expr)(t:TT):Prop:=
 ∀(pins:List (Addr×Obj)) (s:Shared) (σ:St) (H:Hp) (Q:Bool->Hp->Prop),Inv X pins σ H s->t σ H Q ->
  wpAny (model X.prog X.w) X.A (forIn ifs true fun c r=>if r=true then do let ok ← isTrue c X.env (eval c X.env);pure (ForInStep.yield ok) else pure (ForInStep.yield r)) (TP X pins σ Q) X.xe s
noncomputable def iE:TT:=fun _ H Q=>Q true H
noncomputable def EV(te:TE):TL:=fun acc σ H K=>te σ H fun y H1=>∃xs,H1 acc=some (.lst xs)/\xs.length<sizeLine/\K σ (upd H1 acc (.lst (xs++[y])))
noncomputable def nn(J:It)(g:TG)(tc:TT)(l:TL):TL:=fun acc σ H K=>∃W:Nat->Nat->St->Hp->Prop,(∃m,W 0 m σ H)/\∀i m σ H,W i m σ H ->
 (J.stop i H/\K σ H)\/(J.go i H/\∀x H',J.yld i H x H'->g x σ H' fun σ2 H2=>tc σ2 H2 fun b H3=>
  if b=true then l acc σ2 H3 (fun σ3 H4=>∃m',m'<m/\W (i+1) m' σ3 H4) else ∃m',m'<m/\W (i+1) m' σ2 H3)
noncomputable def JE(wi:TI)(g:TG)(tc:TT)(l:TL):TL:=fun acc σ H K=>wi σ H fun J H1=>nn J g tc l acc σ H1 K
section
variable{X:Cx}{elt:Expr}{gens:List Comprehension}{scope:Scope}{pos:Pos}{d:Nat}{te:TE}{l:TL}{tg iter:Expr}{ifs:List Expr}{wi:TI}{g:TG}{tc:TT}
theorem bB:PTs X [] iE:=fun pins s σ H Q I h=>wpAny_tests_nil ⟨H,I,h⟩
theorem bV(hx:X.xe=fun _ _=>False)(hd:gens[d+1]?=none)(he:PE X elt te):PL X elt gens scope pos d (EV te):=by
 intro pins s σ H acc K I h;unfold fZ;rw[hd];have he':=he pins s σ H _ I h;rw[hx] at he';refine zaa (thn he' fun u s1 ⟨y,H1,I1,r1,xs,e1,z1,k1⟩=>?_);have ha:=dJ pins s1 σ H1 (.ref acc) [y] (.ref acc) [u] (fun v H2=>v=.non/\H2=upd H1 acc (.lst (xs++[y]))) I1 rfl (.cons r1 .nil) ⟨acc,xs,y,rfl,rfl,e1,z1,rfl,rfl⟩;rw[hx] at ha;refine zaa (thn ha fun v s2 ⟨v',H2,I2,r2,e2,e3⟩=>zab ⟨σ,H2,I2,by rw[e3];exact k1⟩)
theorem pr(hx:X.xe=fun _ _=>False)(hc:X.calm=true)(hd:gens[d]?=some ⟨tg,iter,ifs,0⟩)(ha:∀g',gens[d+1]?=some g'->g'.is_async=0)(hg:PG X tg g)(ht:PTs X ifs tc)(hl:PL X elt gens scope pos d l){pins:List (Addr×Obj)}{s:Shared}{σ:St}{H:Hp}{acc it:Addr}{fp:List Addr}{tn:Nat->Heap->Prop}{J:It}{K:St->Hp->Prop}{R:Result->Shared->Prop}(I:Inv X pins σ H s)(T:um X.prog X.w X.K tg J fp it tn)(st:tn 0 s.heap)(f2:∀b∈fp,fM X pins H b)(h:nn J g tc l acc σ H K)(hR:∀σ' H' s',Inv X pins σ' H' s'->K σ' H'->R (.ok .next) s'):
  codeAny (model X.prog X.w) X.A (.compLoop (.ListComp elt gens scope pos) d (.ref it) (.ref acc) X.env) R s:=by
 obtain⟨W,⟨m0,w0⟩,turn⟩:=h;have stat:∀ {H':Hp},(∀b∈fp,H' b=none)->∀b∈fp,fM X pins H' b:=fun hn b hb=>⟨hn b hb,(f2 b hb).2⟩;refine qD (fun n s'=>∃i σ' H',Inv X pins σ' H' s'/\tn i s'.heap/\(∀b∈fp,H' b=none)/\W i n σ' H') hd ha ?_ m0 ⟨0,σ,H,I,st,fun b hb=>(f2 b hb).1,w0⟩;rintro n s3 ⟨i,σ3,H3,I3,st3,fr3,w3⟩;rcases turn i n σ3 H3 w3 with⟨stop,qn⟩|⟨go,step⟩
 ·refine thn (T.done X rfl rfl rfl hc i pins s3 σ3 H3 _ I3 (stat fr3) st3 stop) fun r s4 ⟨hr,I4⟩=>?_
  subst hr;exact hR σ3 H3 s4 I4 qn
 ·refine thn (T.item X rfl rfl rfl hc i pins s3 σ3 H3 _ I3 (stat fr3) st3 go) fun r s4 ⟨u,hr,h4⟩=>?_
  subst hr;refine thn h4 fun _ s5 ⟨x,H5,I5,r5,y5,st5,fr5⟩=>?_;have I5':=I5.pinned (stat fr5) (T.obj _ _ st5)
  have again:∀ {σ7:St} {H7:Hp} {s7:Shared} {m':Nat},Inv X (pins++ku fp s5.heap) σ7 H7 s7->m'<n->W (i+1) m' σ7 H7->∃m,m<n/\∃i σ' H',Inv X pins σ' H' s7/\tn i s7.heap/\(∀b∈fp,H' b=none)/\W i m σ' H':=fun {σ7 H7 s7 m'} I7 hm w7=>by
   refine⟨m',hm,i+1,σ7,H7,I7.unpinned,T.keep _ _ _ st5 fun b hb o e=>(I7.pin (b,o) (zaC _ (zaC _ (dM hb e)))).1,fun b hb=>?_,w7⟩;obtain⟨o,e,d⟩:=T.obj _ _ st5 b hb;exact(I7.pin (b,o) (zaC _ (zaC _ (dM hb e)))).2.1
  have hg':=hg _ s5 σ3 H5 x u _ I5' r5 (step x H5 y5);rw[hx] at hg';refine thn hg' fun _ s6 ⟨σ6,H6,I6,q6⟩=>?_;have ht':=ht _ s6 σ6 H6 _ I6 q6;rw[hx] at ht';refine thn ht' fun ok s7 ⟨H7,I7,q7⟩=>?_
  cases ok with
  |false=>
   rw[zad zat] at q7 ⊢;obtain⟨m',hm,w7⟩:=q7;exact again I7 hm w7
  |true=>
   rw[zaf rfl] at q7 ⊢;refine thn (hl _ s7 σ6 H7 acc _ I7 q7) fun _ s8 ⟨σ8,H8,I8,m',hm,w8⟩=>?_;exact again I8 hm w8
theorem uT(hx:X.xe=fun _ _=>False)(hc:X.calm=true)(hd:gens[d+1]?=some ⟨tg,iter,ifs,0⟩)(ha:∀g',gens[d+2]?=some g'->g'.is_async=0)(hi:PI X tg iter wi)(hg:PG X tg g)(ht:PTs X ifs tc)(hl:PL X elt gens scope pos (d+1) l)(hs:∀x,foldedSetIterable iter X.env x=pure x:=by intro _;rfl):PL X elt gens scope pos d (JE wi g tc l):=by
 intro pins s σ H acc K I h;unfold fZ;rw[hd];dsimp only;have e0:((0:Int) != 0)=false:=by decide
 simp only[show (((⟨tg,iter,ifs,0⟩:Comprehension).is_async != 0)=false) from rfl,zak,zaP]
 have hi':=hi pins s σ H _ I h;rw[hx] at hi';refine zaa (thn hi' fun v s1 h1=>zaa (zcC (zaa (zco (hs v) ?_))));refine zaa (zbs (thn h1 fun itv s2 h2=>?_));obtain⟨it,fp,tn,J,H2,e,I2,T,st2,f2,q⟩:=h2;subst e
 have loop:codeAny (model X.prog X.w) X.A (.compLoop (.ListComp elt gens scope pos) (d+1) (.ref it) (.ref acc) X.env) (fun r s'=>match r with|.ok f=>wpAny (model X.prog X.w) X.A (pure ():Sem Unit) (fun _ s'=>∃σ' H',Inv X pins σ' H' s'/\K σ' H') (fun _ _=>False) s'|.error e=>cameBackBy (model X.prog X.w) X.A X.env (fun _ _=>False) e s') s2:=
  pr hx hc hd ha hg ht hl I2 T st2 f2 q fun σ' H' s' I' k'=>zab ⟨σ',H',I',k'⟩
 exact zaa (wpAny_runOwn (iS hd loop (T.self X.A 0 s2 _ _ st2 loop)))
end
noncomputable def fw(env:Env):List (Str×NameKind)->List (Str×Addr)->List (Str×Addr)
 | [],acc=>acc
 |(n,k)::r,acc=>if k == .free then fw env r ((n,(env.cells.lookup n).getD 0)::acc) else fw env r acc
theorem mP{scope:Scope}{env:Env}(h:∀y∈scope.names,y.2=.free->∃c,env.cells.lookup y.1=some c):closureFor scope env=pure (fw env scope.names []):=by
 have gen:∀(names:List (Str×NameKind)) (acc:List (Str×Addr)),(∀y∈names,y.2=.free->∃c,env.cells.lookup y.1=some c) ->
   (forIn names acc fun(x:Str×NameKind) (r:List (Str×Addr))=>(if (x.2 == NameKind.free)=true then do let a ← cellOf env x.1;pure (ForInStep.yield ((x.1,a)::r)) else pure (ForInStep.yield r):Sem _))=pure (fw env names acc):=by
  intro names
  induction names with
  |nil=>intro acc _;rfl
  |cons y r ih=>
   intro acc hy;obtain⟨n,k⟩:=y;rw[List.forIn_cons];unfold fw
   cases hk:k == NameKind.free with
   |true=>
    obtain⟨c,hc⟩:=hy (n,k) (zau ..) (by simpa using hk)
    simp only[hk,zaX,cellOf,hc,zct];exact ih _ fun y hy'=>hy y (zar _ hy')
   |false=>
    simp only[hk,zak,zaP];exact ih _ fun y hy'=>hy y (zar _ hy')
 have:=gen scope.names [] h;unfold closureFor;show ((forIn scope.names ([]:List (Str×Addr)) fun(x:Str×NameKind) (r:List (Str×Addr))=>(if (x.2 == NameKind.free)=true then do let a ← cellOf env x.1;pure (ForInStep.yield ((x.1,a)::r)) else pure (ForInStep.yield r):Sem _)) >>= fun z=>pure z)=_
 rw[this];rfl
set_option tactic.hygienic true in
theorem fH{env:Env}:∀ {names:List (Str×NameKind)} {acc:List (Str×Addr)} {n:Str} {c:Addr},(n,c)∈fw env names acc->(n,c)∈acc\/((n,NameKind.free)∈names/\c=(env.cells.lookup n).getD 0)
 | [],_,_,_,h=>.inl h
 |(m,k)::r,acc,n,c,h=>by
  unfold fw at h;split at h
  ·rename_i hk
   rcases fH h with h|⟨h1,h2⟩
   ·rcases zay.mp h with e|e
    ·cases e
     have:k=.free:=by simpa using hk
     subst this;exact .inr ⟨zau ..,rfl⟩
    ·exact .inl e
   ·exact .inr ⟨zar _ h1,h2⟩
  ·rcases fH h with h|⟨h1,h2⟩
   ·exact .inl h
   ·exact .inr ⟨zar _ h1,h2⟩
set_option tactic.hygienic true in
theorem jq{env:Env}:∀ {names:List (Str×NameKind)} {acc:List (Str×Addr)} {n:Str},((n,NameKind.free)∈names\/∃c,(n,c)∈acc)->∃c,(n,c)∈fw env names acc
 | [],_,_,h=>by
  rcases h with h|h
  ·cases h
  ·exact h
 |(m,k)::r,acc,n,h=>by
  unfold fw;split
  ·rename_i hk
   apply jq;rcases h with h|⟨c,h⟩
   ·rcases zay.mp h with e|e
    ·cases e;exact .inr ⟨_,zau ..⟩
    ·exact .inl e
   ·exact .inr ⟨c,zar _ h⟩
  ·rename_i hk
   apply jq;rcases h with h|h
   ·rcases zay.mp h with e|e
    ·cases e;simp at hk
    ·exact .inl e
   ·exact .inr h
set_option tactic.hygienic true in
theorem fm:∀ {names:List (Str×NameKind)} {h:Heap} {acc:List (Str×Addr)} {n:Str} {c:Addr},(n,c)∈cellsFrom h.objs.size names acc ->
  (n,c)∈acc\/((n,NameKind.cell)∈names/\h.objs.size<=c/\(pushCells h names).IsCell c none)
 | [],_,_,_,_,m=>.inl m
 |(x,k)::r,h,acc,n,c,m=>by
  unfold cellsFrom at m;unfold pushCells;split at m
  ·rename_i hk
   rw[zaf hk];have sz:(h.push { cls:=.type "cell",data:=.cell none }).objs.size=h.objs.size+1:=zcm ..;rw[←sz] at m
   rcases fm m with m|⟨m1,m2,m3⟩
   ·rcases zay.mp m with e|e
    ·cases e
     have:k=.cell:=by simpa using hk
     subst this;exact .inr ⟨zau ..,zaj _,⟨_,zdv _ _ _ _ (zan _ rfl),rfl⟩⟩
    ·exact .inl e
   ·exact .inr ⟨zar _ m1,by omega,m3⟩
  ·rename_i hk
   rw[zad hk];rcases fm m with m|⟨m1,m2,m3⟩
   ·exact .inl m
   ·exact .inr ⟨zar _ m1,m2,m3⟩
set_option tactic.hygienic true in
theorem cB:∀ {names:List (Str×NameKind)} {k:Nat} {acc:List (Str×Addr)} {n:Str},((n,NameKind.cell)∈names\/∃c,(n,c)∈acc)->∃c,(n,c)∈cellsFrom k names acc
 | [],_,_,_,h=>by
  rcases h with h|h
  ·cases h
  ·exact h
 |(m,k)::r,j,acc,n,h=>by
  unfold cellsFrom;split
  ·rename_i hk
   apply cB;rcases h with h|⟨c,h⟩
   ·rcases zay.mp h with e|e
    ·cases e;exact .inr ⟨_,zau ..⟩
    ·exact .inl e
   ·exact .inr ⟨c,zar _ h⟩
  ·rename_i hk
   apply cB;rcases h with h|h
   ·rcases zay.mp h with e|e
    ·cases e;simp at hk
    ·exact .inl e
   ·exact .inr h
set_option tactic.hygienic true in
theorem fu:∀ {names:List (Str×NameKind)} {k:Nat} {acc:List (Str×Addr)},(∀n c,(n,c)∈acc->c<k)->(∀n m c,(n,c)∈acc->(m,c)∈acc->n=m) ->
  ∀n m c,(n,c)∈cellsFrom k names acc->(m,c)∈cellsFrom k names acc->n=m
 | [],_,_,_,h2,n,m,c,a,b=>h2 n m c a b
 |(x,kd)::r,k,acc,h1,h2,n,m,c,a,b=>by
  unfold cellsFrom at a b;split at a
  ·rename_i hk
   rw[zaf hk] at b;refine fu (k:=k+1) ?_ ?_ n m c a b
   ·intro n c h
    rcases zay.mp h with e|e
    ·cases e;exact Nat.lt_succ_self _
    ·exact zdc (h1 n c e)
   ·intro n m c h h'
    rcases zay.mp h with e|e<;>rcases zay.mp h' with e'|e'
    ·cases e;cases e';rfl
    ·cases e;exact absurd (h1 _ _ e') (zby _)
    ·cases e';exact absurd (h1 _ _ e) (zby _)
    ·exact h2 n m c e e'
  ·rename_i hk
   rw[zad hk] at b;exact fu h1 h2 n m c a b
theorem cP{α:Type}:∀ {l:List (Str×α)} {n:Str},(∃c,(n,c)∈l)->∃c,l.lookup n=some c
 | [],_,⟨_,h⟩=>by cases h
 |(k,v)::r,n,⟨c,h⟩=>by
  rw[zck]
  cases hb:n == k with
  |true=>exact⟨v,rfl⟩
  |false=>
   rcases zay.mp h with e|e
   ·cases e;simp at hb
   ·exact cP ⟨c,e⟩
noncomputable def cf(scope osc:Scope)(N:List Str)(src:List (Option Nat))(ON:List Str):Bool:=
 (scope.kind == .function) && (osc.kind == .function) && decide (src.length=N.length) &&
 (scope.names.all fun y=>(scope.names.lookup y.1 == some y.2) && (if y.2 == .free then osc.names.lookup y.1 == some .cell else true)) &&
 ((N.zip src).all fun p=>match p.2 with|none=>true|some j=>(ON[j]? == some p.1) && (scope.names.lookup p.1 == some .free))
noncomputable def pP(src:List (Option Nat))(σ:St):St:=src.map fun o=>match o with|none=>none|some j=>(σ[j]?).join
noncomputable def Cx.blk(X:Cx)(scope:Scope)(N:List Str)(cs:List (Str×Addr))(C:Addr)(s:Shared)(H:Hp)(ex:List Addr)(pn:List (Addr×Obj)):Cx:=
 { X with N:=N,s₀:=s,H₀:=H,env:=compEnvC scope cs C X.env,outer:=X.stack,stack:=X.stack,ex:=ex,fn:=fun x=>decide (scope.names.lookup x=some .cell),pn:=pn,xe:=fun _ _=>False }
section
variable{X:Cx}{pins:List (Addr×Obj)}{σ:St}{H:Hp}{s:Shared}{scope:Scope}{N:List Str}{src:List (Option Nat)}
theorem kl{osc:Scope}{ON:List Str}(h:cf scope osc N src ON=true):scope.kind=.function/\osc.kind=.function/\src.length=N.length /\
  (∀y∈scope.names,scope.names.lookup y.1=some y.2)/\(∀y∈scope.names,y.2=.free->osc.names.lookup y.1=some .cell) /\
  (∀(i:Nat)(x:Str)(j:Nat),N[i]?=some x->src[i]?=some (some j)->ON[j]?=some x/\scope.names.lookup x=some .free):=by
 unfold cf at h;simp only[zax,zaZ,beq_iff_eq,zaB] at h;obtain⟨⟨⟨⟨h1,h2⟩,h3⟩,h4⟩,h5⟩:=h;refine⟨h1,h2,h3,fun y hy=>(h4 y hy).1,fun y hy e=>?_,fun i x j e1 e2=>?_⟩
 ·have:=(h4 y hy).2
  rw[e] at this;simpa using this
 ·have hm:(x,some j)∈N.zip src:=by
   apply zaz (i:=i);rw[zdw];exact⟨e1,e2⟩
  have:=h5 _ hm;simpa using this
theorem hZ{env:Env}(hk:env.scope.kind=.function):∀ {names:List (Str×NameKind)} {x:Str} {k:NameKind},names.lookup x=some k->(k=.free->env.kindOf x=some .cell) ->
  (names.map fun(n,k)=>if (k == NameKind.free && env.scope.kind == .function && env.kindOf n == some .cell) then (n,NameKind.cell) else (n,k)).lookup x=some (if k=.free then .cell else k)
 | [],_,_,h,_=>by simp at h
 |(n,k')::r,x,k,h,hf=>by
  have ih:=@hZ env hk r x k;show List.lookup x ((if (k' == NameKind.free && env.scope.kind == .function && env.kindOf n == some .cell)=true then (n,NameKind.cell) else (n,k'))::_)=_
  cases hx:x == n with
  |true=>
   simp only[zck,hx] at h;have e:x=n:=by simpa using hx
   subst e;cases h;by_cases hfr:k'=.free
   ·have:=hf hfr
    subst hfr;rw[zaf (by rw[this,hk];rfl)]
    simp[zck]
   ·have hfr':(k' == NameKind.free)=false:=by simpa using hfr
    rw[zad (by rw[hfr'];simp),zad hfr]
    simp[zck]
  |false=>
   simp only[zck,hx] at h;by_cases hc:(k' == NameKind.free && env.scope.kind == .function && env.kindOf n == some .cell)=true
   ·rw[zaf hc];simp only[zck,hx];exact ih h hf
   ·rw[zad hc];simp only[zck,hx];exact ih h hf
set_option tactic.hygienic true in
theorem uw{env:Env}{names:List (Str×NameKind)}{x:Str}(h:(names.map fun(n,k)=>if (k == NameKind.free && env.scope.kind == .function && env.kindOf n == some .cell) then (n,NameKind.cell) else (n,k)).lookup x=some .cell):
  (x,NameKind.cell)∈names\/(x,NameKind.free)∈names:=by
 have hm:=mem_of_lookup h;obtain⟨⟨n,k⟩,hy,e⟩:=zal.mp hm;dsimp only at e;split at e
 ·rename_i hc
  cases e;simp only[zax,beq_iff_eq] at hc;rw[hc.1.1] at hy;exact .inr hy
 ·cases e;exact .inl hy
set_option tactic.hygienic true in
theorem qe{env:Env}{names:List (Str×NameKind)}{x:Str}(hk:env.scope.kind=.function)(hfr:∀y∈names,y.2=.free->env.kindOf y.1=some .cell)(h:(names.map fun(n,k)=>if (k == NameKind.free && env.scope.kind == .function && env.kindOf n == some .cell) then (n,NameKind.cell) else (n,k)).lookup x=some .free):False:=by
 have hm:=mem_of_lookup h;obtain⟨⟨n,k⟩,hy,e⟩:=zal.mp hm;dsimp only at e;split at e
 ·cases e
 ·rename_i hc
  cases e;have:=hfr _ hy rfl;exact hc (by rw[this,hk];rfl)
theorem pO{fp:List Addr}(I:Inv X pins σ H s)(hb:cf scope X.env.scope N src X.N=true)(f2:∀b∈fp,fM X pins H b)(fo:∀b∈fp,∃o,s.heap.get? b=some o){t:Nat}:
  Inv (X.blk scope N (cellsFrom (s.heap.objs.size+1) scope.names (fw X.env scope.names [])) s.heap.objs.size s H fp (X.pn++pins)) [] (pP src σ) H { s with heap:=pushCells (s.heap.push { cls:=.type "dict",data:=.dict #[] }) scope.names,toks:=t }:=by
 obtain⟨hk,hok,hlen,hnd,hfr,hsrc⟩:=kl hb;have keep:∀b o,s.heap.get? b=some o->(pushCells (s.heap.push { cls:=.type "dict",data:=.dict #[] }) scope.names).get? b=some o:=fun b o e=>zdv _ _ b o (zac _ e);have hfr':∀y∈scope.names,y.2=.free->X.env.kindOf y.1=some .cell:=hfr;have sz:(s.heap.push { cls:=.type "dict",data:=.dict #[] }).objs.size=s.heap.objs.size+1:=zcm ..
 have cell:∀n c,(n,c)∈cellsFrom (s.heap.objs.size+1) scope.names (fw X.env scope.names []) ->
   (X.env.cells.lookup n=some c/\(n,NameKind.free)∈scope.names)\/((n,NameKind.cell)∈scope.names/\s.heap.objs.size<c/\(pushCells (s.heap.push { cls:=.type "dict",data:=.dict #[] }) scope.names).IsCell c none):=by
  intro n c h;rw[←sz] at h
  rcases fm h with h|⟨h1,h2,h3⟩
  ·rcases fH h with h|⟨h1,h2⟩
   ·cases h
   ·obtain⟨c',hc'⟩:=I.ok.has n (.inl (hfr' _ h1 rfl))
    rw[hc'] at h2;exact .inl ⟨by rw[hc',h2];rfl,h1⟩
  ·exact .inr ⟨h1,by rw[sz] at h2;exact h2,h3⟩
 have oldc:∀n c,X.env.cells.lookup n=some c->c<s.heap.objs.size:=fun n c e=>by
  obtain⟨v,o,ho,_⟩:=I.cell n c e;exact zaq ho
 have hH:H s.heap.objs.size=none:=I.hok.fresh (zaj _)
 have ok:(X.blk scope N (cellsFrom (s.heap.objs.size+1) scope.names (fw X.env scope.names [])) s.heap.objs.size s H fp (X.pn++pins)).Ok:={
  mod:=I.ok.mod
  kind:=hk
  glob:=I.ok.glob
  blt:=I.ok.blt
  above:=zaj _
  inj:=fun x y c a b=>by
   refine fu (k:=s.heap.objs.size+1) (acc:=fw X.env scope.names []) ?_ ?_ x y c (mem_of_lookup a) (mem_of_lookup b)
   ·intro n c h
    rcases fH h with h|⟨h1,h2⟩
    ·cases h
    ·obtain⟨c',hc'⟩:=I.ok.has n (.inl (hfr' _ h1 rfl))
     rw[hc'] at h2;rw[h2];exact zdc (oldc n c' hc')
   ·intro n m c h h'
    rcases fH h with h|⟨h1,h2⟩
    ·cases h
    ·rcases fH h' with h'|⟨h1',h2'⟩
     ·cases h'
     ·obtain⟨c1,hc1⟩:=I.ok.has n (.inl (hfr' _ h1 rfl))
      obtain⟨c2,hc2⟩:=I.ok.has m (.inl (hfr' _ h1' rfl));rw[hc1] at h2;rw[hc2] at h2';have e1:c=c1:=h2;have e2:c=c2:=h2';exact I.ok.inj n m c (by rw[e1];exact hc1) (by rw[e2];exact hc2)
  has:=fun x h=>by
   have hm:(x,NameKind.cell)∈scope.names\/(x,NameKind.free)∈scope.names:=by
    rcases h with h|h
    ·exact uw (env:=X.env) h
    ·exact(qe (env:=X.env) hok hfr' h).elim
   have:∃c,(x,c)∈cellsFrom (s.heap.objs.size+1) scope.names (fw X.env scope.names []):=by
    rcases hm with hm|hm
    ·exact cB (.inl hm)
    ·exact cB (.inr (jq (.inl hm)))
   exact cP this
  cab:=fun x c hf e=>by
   have hf':scope.names.lookup x=some .cell:=zdd hf;rcases cell x c (mem_of_lookup e) with⟨_,h⟩|⟨_,h,_⟩
   ·have:=hnd _ h
    rw[hf'] at this;cases this
   ·exact zbd h
  hd:=I.ok.hd
  frames:=I.ok.frames
  stk:=.inl rfl
  exf:=fun b hb=>by
   obtain⟨o,ho⟩:=fo b hb;have hlt:=zaq ho;refine⟨zaF hlt,fun x c e=>?_⟩;rcases cell x c (mem_of_lookup e) with⟨h,_⟩|⟨_,h,_⟩
   ·exact(f2 b hb).2.2.2.2.1 x c h
   ·exact zdf (Nat.lt_trans hlt h)
  bs:=I.bs
  bsz:=zaN I.ok.bsz I.sz
  noex:=fun b o e hb=>by
   rcases(f2 b hb).2.2.2.1 with h|h
   ·exact I.ok.noex b o e h
   ·exact absurd (zaD (zaq e) (zaN I.ok.bsz h)) (zby _)
  exfs:=fun b hb hm=>by
   rcases zay.mp (I.KJ b hm) with h|h
   ·exact(f2 b hb).2.1 h
   ·exact(f2 b hb).2.2.1 h
  funs:=I.stack
  frf:=I.KU
  tt:=I.ok.tt.mono I.base.tbls }
 refine⟨ok,rfl,I.bare,Un.kept keep,⟨fun _=>none,(Heap.Ns.new s.heap (.type "dict")).keeps (zdv _ _),fun i x v e1 e2 e3=>?_⟩,fun x c e=>?_,hH,fun x c e=>?_,fun p hp=>?_,I.hok.kept keep,?_⟩
 ·-- a captured name
  have e2':(src.map fun o=>match o with|none=>none|some j=>(σ[j]?).join)[i]?=some (some v):=e2
  rw[zam] at e2'
  cases hs:src[i]? with
  |none=>rw[hs] at e2';cases e2'
  |some o=>
   rw[hs] at e2'
   cases o with
   |none=>cases e2'
   |some j=>
    have ej:(σ[j]?).join=some v:=by simpa using e2'
    have ej':σ[j]?=some (some v):=by
     cases hq:σ[j]? with
     |none=>rw[hq] at ej;cases ej
     |some z=>rw[hq] at ej;simpa using ej
    obtain⟨n1,n2⟩:=hsrc i x j e1 hs;have hfree:X.env.kindOf x=some .cell:=hfr' (x,.free) (mem_of_lookup n2) rfl;obtain⟨m,hn,hl⟩:=I.loc;obtain⟨u,r,l⟩:=hl j x v n1 ej' (.inr (.inl hfree));refine⟨u,r,.inr ⟨.inl ?_,?_⟩⟩
    ·have:=hZ (env:=X.env) hok n2 (fun _=>hfree)
     exact this
    ·rcases l with⟨h,_⟩|⟨_,c,hc,hcell⟩
     ·rw[hfree] at h;cases h
     ·have:∃c',(x,c')∈cellsFrom (s.heap.objs.size+1) scope.names (fw X.env scope.names []):=cB (.inr (jq (.inl (mem_of_lookup n2))))
      obtain⟨c',hc'⟩:=cP this;refine⟨c',hc',?_⟩;rcases cell x c' (mem_of_lookup hc') with⟨h,_⟩|⟨h,_,_⟩
      ·rw[hc] at h
       cases h;obtain⟨oc,ho,hd⟩:=hcell;exact⟨oc,keep _ _ ho,hd⟩
      ·have:=hnd _ h
       rw[n2] at this;cases this
 ·rcases cell x c (mem_of_lookup e) with⟨h,_⟩|⟨_,_,h⟩
  ·obtain⟨v,o,ho,hd⟩:=I.cell x c h
   exact⟨v,o,keep _ _ ho,hd⟩
  ·exact⟨_,h⟩
 ·rcases cell x c (mem_of_lookup e) with⟨h,_⟩|⟨_,h,_⟩
  ·exact I.freeC x c h
  ·exact I.hok.fresh (zbd h)
 ·rw[zaM] at hp
  obtain⟨e,n,ne,nf,d⟩:=I.pin p hp;refine⟨keep _ _ e,n,zaF (zaq e),fun hm=>?_,d⟩;rcases zay.mp (I.KJ _ hm) with h|h
  ·exact ne h
  ·exact nf h
 ·show (src.map _).length=N.length
  rw[zaA];exact hlen
theorem xn{fp:List Addr}{cs:List (Str×Addr)}{C:Addr}{σ':St}{H':Hp}{s':Shared}{pins':List (Addr×Obj)}(I:Inv X pins σ H s)(f2:∀b∈fp,fM X pins H b)(I':Inv (X.blk scope N cs C s H fp (X.pn++pins)) pins' σ' H' s'):Inv X pins σ H' s':=
 I.call' (ch:=fp) I'.os I'.base I'.hok I'.bare fun b hb=>⟨(f2 b hb).2.2.2.1,(f2 b hb).2.1,(f2 b hb).2.2.2.2.1,(f2 b hb).2.2.2.2.2⟩
theorem nB{C:Addr}{h':Heap}(I:Inv X pins σ H s)(hC:H C=none)(hL:C≠X.env.locals)(h1:X.s₀.heap.objs.size<=C)(h2:∀x c,X.env.cells.lookup x=some c->c≠C)(h3:∀p∈X.pn++pins,p.1≠C)(hs:Heap.SameBut C s.heap h'):Inv X pins σ H { s with heap:=h' }:=
 I.turned (t':=s.toks) (fun b o hb e=>(hs.2 b hb).trans e) hC hL (.inr h1) h2 h3
end
section
variable{M:Model}{A:Around}{E:Value->Shared->Prop}{s:Shared}
theorem lG{scope:Scope}{globals:Addr}{cl:List (Str×Addr)}{qual:Str}{env:Env}{Q:Env->Shared->Prop}(hQ:Q (newEnv scope s.heap.objs.size globals (cellsFrom (s.heap.objs.size+1) scope.names cl) qual none .none (some env) builtinsNs) { s with heap:=pushCells (s.heap.push { cls:=.type "dict",data:=.dict #[] }) scope.names }):
  wpAny M A (newFunctionEnv scope globals cl [] qual none .none (some env)) Q E s:=by
 simp only[newFunctionEnv,Option.isSome_some,zaX];refine zaa (wpAny_alloc ?_);refine zaa (wpAny_layCells _ (fun name kind cells=>by cases hkc:kind == NameKind.cell<;>simp[hkc]) _ _ _ _ ?_)
 rw[show ({ s with heap:=s.heap.push { cls:=.type "dict",data:=.dict #[] } }:Shared).heap.objs.size=s.heap.objs.size+1 from zcm ..]
 simp only[List.forIn_nil];exact zaa (zab (zab hQ))
end
section
variable{X:Cx}{elt tg iter:Expr}{ifs:List Expr}{aJ:List Comprehension}{scope:Scope}{pos:Pos}{N:List Str}{src:List (Option Nat)}{wi:TI}{g:TG}{tc:TT}{l:TL}
noncomputable def pc(src:List (Option Nat))(wi:TI)(g:TG)(tc:TT)(l:TL):TE:=fun σ H Q=>wi σ H fun J H1=>∀acc,H1 acc=none->nn J g tc l acc (pP src σ) (upd H1 acc (.lst [])) fun _ H'=>Q (.ref acc) H'
theorem sC{use:Option (Value->Sem Unit)}{pins:List (Addr×Obj)}{s:Shared}{σ:St}{H:Hp}{Q:Value->Shared->Prop}{Q':VK}(hc:X.calm=true)(hb:cf scope X.env.scope N src X.N=true)(ha:∀g',aJ[0]?=some g'->g'.is_async=0)(hi:PI X tg iter wi)(hg:∀cs C s H ex pn,PG (X.blk scope N cs C s H ex pn) tg g)(ht:∀cs C s H ex pn,PTs (X.blk scope N cs C s H ex pn) ifs tc)(hl:∀cs C s H ex pn,PL (X.blk scope N cs C s H ex pn) elt (⟨tg,iter,ifs,0⟩::aJ) scope pos 0 l)(hs:∀x,foldedSetIterable iter X.env x=pure x)(I:Inv X pins σ H s)(h:pc src wi g tc l σ H Q')
  (hQ:∀(acc C:Addr)(H':Hp)(s':Shared)(m:Str->Option Value),Inv X pins σ H' s'->Q' (.ref acc) H'->s'.heap.Ns C m->H' C=none->C≠X.env.locals->X.s₀.heap.objs.size<=C->(∀x c,X.env.cells.lookup x=some c->c≠C)->(∀p∈X.pn++pins,p.1≠C) ->
   compPost (model X.prog X.w) X.A X.xe use Q (.ref acc) C (.ok .next) s') :
  wpAny (model X.prog X.w) X.A (comprehension (.ListComp elt (⟨tg,iter,ifs,0⟩::aJ) scope pos) scope X.env (firstIterPos (⟨tg,iter,ifs,0⟩::aJ) pos) (newList []) false (firstIter (⟨tg,iter,ifs,0⟩::aJ) X.env) use) Q X.xe s:=by
 obtain⟨hk,hok,hlen,hnd,hfr,hsrc⟩:=kl hb;refine wpAny_comprehension_free (g:=⟨tg,iter,ifs,0⟩) (gs:=aJ) rfl hs (mP fun y hy e=>I.ok.has y.1 (.inl (hfr y hy e))) hk (fun y hy e=>by have:=hnd y hy;rw[e] at this;exact this) ?_
 refine thn (hi pins s σ H _ I h) fun v s1 h1=>thn h1 fun itv s2 h2=>?_;obtain⟨it,fp,tn,J,H2,e,I2,T,st2,f2,q⟩:=h2;subst e;have hfresh:H2 s2.heap.objs.size=none:=I2.hok.fresh (zaj _);refine zbv (lG ?_);dsimp only;have old:∀b o,s2.heap.get? b=some o->(s2.heap.push { cls:=.type "list",dict:=none,data:=.seq ([]:List Value).toArray }).get? b=some o:=fun b o e=>zac _ e
 have I3:Inv X pins σ (upd H2 s2.heap.objs.size (.lst [])) { s2 with heap:=s2.heap.push { cls:=.type "list",dict:=none,data:=.seq ([]:List Value).toArray } }:=
  I2.lnew (its:=[]) (t':=s2.toks) .nil (by decide)
 have f3:∀b∈fp,fM X pins (upd H2 s2.heap.objs.size (.lst [])) b:=fun b hb=>by
  obtain⟨o,ho,_⟩:=T.obj _ _ st2 b hb;exact⟨by rw[ah (zaF (zaq ho))];exact(f2 b hb).1,(f2 b hb).2⟩
 have fo3:∀b∈fp,∃o,({ s2 with heap:=s2.heap.push { cls:=.type "list",dict:=none,data:=.seq ([]:List Value).toArray } }:Shared).heap.get? b=some o:=fun b hb=>by
  obtain⟨o,ho,_⟩:=T.obj _ _ st2 b hb;exact⟨o,old b o ho⟩
 generalize hs3:({ s2 with heap:=s2.heap.push { cls:=.type "list",dict:=none,data:=.seq ([]:List Value).toArray } }:Shared)=s3 at I3 fo3 ⊢
 have st3:tn 0 s3.heap:=by
  rw[←hs3]
  exact T.keep _ _ _ st2 fun b _ o e=>old b o e
 have IB:=pO (t:=s3.toks) I3 hb f3 fo3;have stB:tn 0 (pushCells (s3.heap.push { cls:=.type "dict",data:=.dict #[] }) scope.names):=T.keep _ _ _ st3 fun b _ o e=>zdv _ _ b o (zac _ e)
 have fB:∀b∈fp,fM (X.blk scope N (cellsFrom (s3.heap.objs.size+1) scope.names (fw X.env scope.names [])) s3.heap.objs.size s3 (upd H2 s2.heap.objs.size (.lst [])) fp (X.pn++pins)) [] (upd H2 s2.heap.objs.size (.lst [])) b:=fun b hb=>by
  obtain⟨n0,n1,n2,n3,n4,n5⟩:=f3 b hb;refine⟨n0,(IB.ok.exf b hb).1,IB.ok.exfs b hb,.inl hb,(IB.ok.exf b hb).2,fun p hp=>?_⟩;rw[zaM] at hp;exact n5 p hp
 have loop:codeAny (model X.prog X.w) X.A (.compLoop (.ListComp elt (⟨tg,iter,ifs,0⟩::aJ) scope pos) 0 (.ref it) (.ref s2.heap.objs.size) (compEnvC scope (cellsFrom (s3.heap.objs.size+1) scope.names (fw X.env scope.names [])) s3.heap.objs.size X.env))
   (compPost (model X.prog X.w) X.A X.xe use Q (.ref s2.heap.objs.size) s3.heap.objs.size) { s3 with heap:=pushCells (s3.heap.push { cls:=.type "dict",data:=.dict #[] }) scope.names }:=by
  refine pr (X:=X.blk scope N (cellsFrom (s3.heap.objs.size+1) scope.names (fw X.env scope.names [])) s3.heap.objs.size s3 (upd H2 s2.heap.objs.size (.lst [])) fp (X.pn++pins)) rfl hc rfl (by simpa using ha) (hg _ _ _ _ _ _) (ht _ _ _ _ _ _) (hl _ _ _ _ _ _) IB T stB fB (q _ hfresh) fun σ' H' s' I' k'=>?_
  obtain⟨m,hn,_⟩:=I'.loc;refine hQ _ _ H' s' m (xn I3 f3 I') k' hn I'.free ?_ I3.sz ?_ ?_
  ·exact zdf I3.lt
  ·intro x c e
   obtain⟨v,o,ho,_⟩:=I3.cell x c e;exact zaF (zaq ho)
  ·intro p hp
   exact zaF (zaq (I3.pin p hp).1)
 subst hs3;exact iS (d:=0) rfl loop (T.self X.A 0 _ _ _ stB loop)
theorem cq(hc:X.calm=true)(hb:cf scope X.env.scope N src X.N=true)(ha:∀g',aJ[0]?=some g'->g'.is_async=0)(hi:PI X tg iter wi)(hg:∀cs C s H ex pn,PG (X.blk scope N cs C s H ex pn) tg g)(ht:∀cs C s H ex pn,PTs (X.blk scope N cs C s H ex pn) ifs tc)(hl:∀cs C s H ex pn,PL (X.blk scope N cs C s H ex pn) elt (⟨tg,iter,ifs,0⟩::aJ) scope pos 0 l)(hs:∀x,foldedSetIterable iter X.env x=pure x:=by intro _;rfl):PE X (.ListComp elt (⟨tg,iter,ifs,0⟩::aJ) scope pos) (pc src wi g tc l):=.mk <| by
 intro pins s σ H Q I h;rw[eval_ListComp];refine sC (use:=none) hc hb ha hi hg ht hl hs I h fun acc C H' s' m I' q' hn hC hL h1 h2 h3=>?_;exact⟨m,hn,fun h' hs'=>⟨.ref acc,H',nB I' hC hL h1 h2 h3 hs',rfl,q'⟩⟩
theorem xD{i:Nat}{x:Str}{pos' spos:Pos}(hN:X.N.Nodup)(hi0:X.N[i]?=some x)(hx:Loc X.env.scope x)(hc:X.calm=true)(hb:cf scope X.env.scope N src X.N=true)(ha:∀g',aJ[0]?=some g'->g'.is_async=0)(hi:PI X tg iter wi)(hg:∀cs C s H ex pn,PG (X.blk scope N cs C s H ex pn) tg g)(ht:∀cs C s H ex pn,PTs (X.blk scope N cs C s H ex pn) ifs tc)(hl:∀cs C s H ex pn,PL (X.blk scope N cs C s H ex pn) elt (⟨tg,iter,ifs,0⟩::aJ) scope pos 0 l)(hs:∀x,foldedSetIterable iter X.env x=pure x:=by intro _;rfl)(hsw:swapsWith (.ListComp elt (⟨tg,iter,ifs,0⟩::aJ) scope pos) (some (.Name x pos')) spos.line X.env=pure true:=by rfl)(hf:X.fn x=true\/X.env.scope.names.lookup x=some .local:=by first|exact .inl rfl|exact .inr rfl|assumption):
  PS X (.Assign [.Name x pos'] (.ListComp elt (⟨tg,iter,ifs,0⟩::aJ) scope pos) spos) (Dv (pc src wi g tc l) (yg i)):=.mk <| by
 intro pins s σ H D I h;rw[exec_Assign_Name_used _ _ _ _ hsw];refine zaa (zcC (zaa ?_));show wpAny _ X.A (do let _ ← comprehension (.ListComp elt (⟨tg,iter,ifs,0⟩::aJ) scope pos) scope X.env (firstIterPos (⟨tg,iter,ifs,0⟩::aJ) pos) (newList []) false (firstIter (⟨tg,iter,ifs,0⟩::aJ) X.env) (some (assign (.Name x pos') X.env))) _ _ s
 refine zaa (zbi (sC (use:=some (assign (.Name x pos') X.env)) (Q:=fun _ s'=>SP X pins D .next s') hc hb ha hi hg ht hl hs I h fun acc C H' s' m I' q' hn hC hL h1 h2 h3=>?_) (fun _ s' hq=>zab (zab hq)) fun _ _ e=>e);show wpAny _ X.A (assign (.Name x pos') X.env (.ref acc)) _ _ _;refine wpAny_assign_Name (pC (v:=.ref acc) I' hN hi0 hx rfl (fun s'' I'' ⟨a,hsb,hwh⟩=>?_) hf)
 have hne:C≠a:=by
  rcases hwh with e|e
  ·rw[e];exact hL
  ·exact fun z=>h2 x a e z.symm
 exact⟨m,hn.sameBut hsb hne,fun h' hs'=>⟨σ.set i (some (.ref acc)),H',nB I'' hC hL h1 h2 h3 hs',q'⟩⟩
end
section
variable{X:Cx}
noncomputable def gm(H:Hp):V->Option String
 |.non=>some "NoneType"
 |.bl _=>some "bool"
 |.int _=>some "int"
 |.str _=>some "str"
 |.ref a=>match H a with
  |some (.lst _)=>some "list"
  |some (.tup _)=>some "tuple"
  |some (.dK _)=>some "dict"
  |some (.dT _)=>some "dict"
  |some (.frz _ (.lst _))=>some "list"
  |_=>none
 |_=>none
noncomputable def isA(H:Hp)(x:V)(T:String):Bool:=match gm H x with
 |some t=>t == T || (t == "bool" && T == "int")
 |none=>false
set_option tactic.hygienic true in
theorem zi{K:W.Frag}{H:Hp}{x:V}{t:String}(h:gm H x=some t):j7 K H x (.type t):=by
 cases x with
 |non=>cases h;exact .non
 |bl b=>cases h;exact .bl b
 |int i=>cases h;exact .int i
 |str z=>cases h;exact .str z
 |byt b=>cases h
 |flt b=>cases h
 |ty n=>cases h
 |ref a=>
  unfold gm at h;dsimp only at h;split at h
  ·rename_i e;cases h;exact .lst e
  ·rename_i e;cases h;exact .tup e
  ·rename_i e;cases h;exact .dK e
  ·rename_i e;cases h;exact .dT e
  ·rename_i e;cases h;exact .frz e
  ·cases h
noncomputable def lB:List String:=["NoneType","bool","int","str","list","tuple","dict"]
theorem tZ{H:Hp}{x:V}{t:String}(h:gm H x=some t):t∈lB:=by
 cases x with
 |non=>cases h;decide
 |bl b=>cases h;decide
 |int i=>cases h;decide
 |str z=>cases h;decide
 |byt b=>cases h
 |flt b=>cases h
 |ty n=>cases h
 |ref a=>
  unfold gm at h;dsimp only at h;split at h<;>first|(cases h;decide)|cases h
theorem GA(K:W.Frag){t T:String}(ht:t∈lB)(hT:T∈lB):W.kitOne K (.type t) (.type T)=some (t == T || (t == "bool" && T == "int")):=by
 simp only[lB,zay,List.not_mem_nil,or_false] at ht hT;rcases ht with rfl|rfl|rfl|rfl|rfl|rfl|rfl<;>rcases hT with rfl|rfl|rfl|rfl|rfl|rfl|rfl<;>with_unfolding_all rfl
theorem f7:cW X (.builtin "isinstance") (fun xs H Q=>∃x T,xs=[x,.ty T]/\T∈lB/\(gm H x).isSome=true/\Q (.bl (isA H x T)) H):=by
 intro pins s σ H xs us Q I r h;obtain⟨x,T,rfl,hT,hs,q⟩:=h;obtain⟨u,w',rfl,rx,rT⟩:=zB r;cases (show w'=Value.type T from rT)
 obtain⟨t,ht⟩:=zcN.mp hs;refine yW I rx (zi ht) (GA X.K (tZ ht) hT) fun tk=>⟨.bl (isA H x T),H,I.tok tk,?_,q⟩;show _=Value.bool (isA H x T);unfold isA;rw[ht]
theorem wM:∀ {bs:List Bool} {its:List Value},ay (bs.map V.bl) its->its=bs.map Value.bool
 | [],_,.nil=>rfl
 |_::_,_,.cons r t=>by
  have e:_=Value.bool _:=r;rw[e,wM t];rfl
theorem yN(bs:List Bool):(List.range bs.length).all (fun i=>bs.getD i false)=bs.all id:=by
 rw[Bool.eq_iff_iff];simp only[zaB,zbk,id];constructor
 ·intro h b hb
  obtain⟨i,hi,e⟩:=zcf hb;have:=h i hi;rw[zag,zae hi] at this;rw[←e];exact this
 ·intro h i hi
  rw[zag,zae hi];exact h _ (zaE hi)
theorem Ad(hc:X.calm=true):cW X (.builtin "all") (fun xs H Q=>∃(a:Addr)(bs:List Bool),xs=[.ref a]/\SqL X.K H a (bs.map V.bl)/\Q (.bl (bs.all id)) H):=by
 intro pins s σ H xs us Q I r h;obtain⟨a,bs,rfl,hq,q⟩:=h;obtain⟨u,rfl,rx⟩:=gE r;cases rx;obtain⟨its,rv,p,hz⟩:=I.list hq;have e:=wM rv;subst e
 have hlt:a<s.heap.objs.size:=by
  obtain⟨o,ho,_⟩:=p.isList;exact zaq ho
 refine call_all_walk (wpAny_pyIter_list p.isList ?_);refine⟨s.heap.objs.size,_,_,_,_,_,fun i=>bs.getD i false,rfl,Walks.list (A:=X.A.in1) (I.ok.hd hc) _ a (zaF hlt) _,⟨⟨_,zan _ rfl,rfl,rfl⟩,p.isList.push _⟩,?_,fun h' tk hk=>?_⟩
 ·intro i v s' Q' E' hP hQ'
  have:(bs.map Value.bool)[i]?=some v:=by simpa using hP
  rw[zam] at this
  cases e:bs[i]? with
  |none=>rw[e] at this;cases this
  |some b=>
   rw[e] at this;cases this;refine zbV ?_;dsimp only at hQ';rw[zag,e] at hQ';exact hQ'
 ·refine⟨.bl (bs.all id),H,I.kept (t':=tk) fun b o e=>hk b o (fun hm=>?_) (zac _ e),?_,q⟩
  ·have:b=s.heap.objs.size:=by simpa using hm
   exact absurd (this ▸ zaq e) (zby _)
  ·show _=Value.bool _
   rw[←yN]
   simp
end
end L2
set_option autoImplicit false
namespace L2
open PySem PySem.Spec PyProof.Rows
inductive D where
 |non|bl (b:Bool)|int (i:Int)|str (x:Str)|tup (ds:List D)|lst (ds:List D)
 |dk (ks:List Int)|dt (ks:List (List Int))
noncomputable def dkO(ks:List Int):List (Key×V):=ks.map fun k=>(Sum.inl k,V.int 1)
noncomputable def dtO(ks:List (List Int)):List (List Key×V):=ks.map fun k=>(k.map Sum.inl,V.int 1)
theorem xJ:∀ {a b:List Int},dkO a=dkO b->a=b
 | [],[],_=>rfl
 |x::a,y::b,h=>by
  simp only[dkO,zah,zcb,Prod.mk.injEq,Sum.inl.injEq,and_true] at h;rw[h.1,xJ h.2]
 | [],_::_,h=>by simp[dkO] at h
 |_::_,[],h=>by simp[dkO] at h
theorem wX:∀ {a b:List Int},(a.map Sum.inl:List Key)=b.map Sum.inl->a=b
 | [],[],_=>rfl
 |x::a,y::b,h=>by
  simp only[zah,zcb,Sum.inl.injEq] at h;rw[h.1,wX h.2]
 | [],_::_,h=>by simp at h
 |_::_,[],h=>by simp at h
theorem xi:∀ {a b:List (List Int)},dtO a=dtO b->a=b
 | [],[],_=>rfl
 |x::a,y::b,h=>by
  simp only[dtO,zah,zcb,Prod.mk.injEq,and_true] at h;rw[wX h.1,xi h.2]
 | [],_::_,h=>by simp[dtO] at h
 |_::_,[],h=>by simp[dtO] at h
mutual
noncomputable def Dat(H:Hp):D->V->Prop
 |.non,v=>v=.non
 |.bl b,v=>v=.bl b
 |.int i,v=>v=.int i
 |.str x,v=>v=.str x
 |.tup ds,v=>∃a xs,v=.ref a/\H a=some (.tup xs)/\ao H ds xs
 |.lst ds,v=>∃a xs,v=.ref a/\H a=some (.lst xs)/\ao H ds xs
 |.dk ks,v=>∃a xs,v=.ref a/\H a=some (.dK (dkO xs))/\xs=ks
 |.dt ks,v=>∃a xs,v=.ref a/\H a=some (.dT (dtO xs))/\xs=ks
noncomputable def ao(H:Hp):List D->List V->Prop
 | [],xs=>xs=[]
 |d::ds,xs=>∃x r,xs=x::r/\Dat H d x/\ao H ds r
end
mutual
noncomputable def dep:D->Nat
 |.tup ds=>bW ds+1
 |.lst ds=>bW ds+1
 |.dk _=>1000000
 |.dt _=>1000000
 |_=>0
noncomputable def bW:List D->Nat
 | []=>0
 |d::ds=>max (dep d) (bW ds)
end
mutual
noncomputable def eqD:D->D->Bool
 |.non,.non=>true
 |.bl a,.bl b=>a == b
 |.bl a,.int b=>(if a then 1 else 0) == b
 |.int a,.bl b=>a == (if b then 1 else 0)
 |.int a,.int b=>a == b
 |.str a,.str b=>a == b
 |.tup a,.tup b=>db a b
 |.lst a,.lst b=>db a b
 |.dk a,.dk b=>a == b
 |.dt a,.dt b=>a == b
 |_,_=>false
noncomputable def db:List D->List D->Bool
 | [],[]=>true
 |x::xs,y::ys=>eqD x y && db xs ys
 |_,_=>false
end
theorem fL:∀ {ds:List D} {d:D},d∈ds->dep d<=bW ds
 |d::ds,e,h=>by
  unfold bW;rcases zay.mp h with rfl|h
  ·exact Nat.le_max_left _ _
  ·exact zaN (fL h) (Nat.le_max_right _ _)
theorem ao.length:∀ {H:Hp} {ds:List D} {xs:List V},ao H ds xs->xs.length=ds.length
 |H,[],xs,h=>by
  have e:xs=[]:=by simpa[ao] using h
  rw[e];rfl
 |H,d::ds,xs,h=>by
  obtain⟨x,r,rfl,_,t⟩:∃x r,xs=x::r/\Dat H d x/\ao H ds r:=by simpa only[ao] using h
  rw[zaJ,zaJ,ao.length t]
theorem ao.get:∀ {H:Hp} {ds:List D} {xs:List V} {i:Nat} {d:D},ao H ds xs->ds[i]?=some d->∃x,xs[i]?=some x/\Dat H d x
 |H,[],xs,i,d,h,e=>by simp at e
 |H,d'::ds,xs,i,d,h,e=>by
  obtain⟨x,r,rfl,hx,t⟩:∃x r,xs=x::r/\Dat H d' x/\ao H ds r:=by simpa only[ao] using h
  cases i with
  |zero=>simp at e;subst e;exact⟨x,rfl,hx⟩
  |succ i=>simpa using ao.get t (i:=i) (by simpa using e)
theorem ao.of_get:∀ {H:Hp} {ds:List D} {xs:List V},xs.length=ds.length->(∀(i:Nat)(d:D)(x:V),ds[i]?=some d->xs[i]?=some x->Dat H d x)->ao H ds xs
 |H,[],[],_,_=>by simp[ao]
 |H,d::ds,x::xs,hl,h=>by
  simp only[ao];exact⟨x,xs,rfl,h 0 d x rfl rfl,ao.of_get (by simpa using hl) fun i d x e1 e2=>h (i+1) d x (by simpa using e1) (by simpa using e2)⟩
 |H,[],_::_,hl,_=>by simp at hl
 |H,_::_,[],hl,_=>by simp at hl
theorem ao.append:∀ {H:Hp} {ds es:List D} {xs ys:List V},ao H ds xs->ao H es ys->ao H (ds++es) (xs++ys)
 |H,[],es,xs,ys,h,h'=>by
  have e:xs=[]:=by simpa[ao] using h
  rw[e];exact h'
 |H,d::ds,es,xs,ys,h,h'=>by
  obtain⟨x,r,rfl,hx,t⟩:∃x r,xs=x::r/\Dat H d x/\ao H ds r:=by simpa only[ao] using h
  show ao H (d::(ds++es)) (x::(r++ys));simp only[ao];exact⟨x,r++ys,rfl,hx,ao.append t h'⟩
theorem ao.one{H:Hp}{d:D}{x:V}(h:Dat H d x):ao H [d] [x]:=by
 simp only[ao];exact⟨x,[],rfl,h,rfl⟩
mutual
theorem Dat.same{H H':Hp}(e:bH H H'):∀ {d:D} {v:V},Dat H d v->Dat H' d v
 |.non,v,h=>by simpa only[Dat] using h
 |.bl b,v,h=>by simpa only[Dat] using h
 |.int i,v,h=>by simpa only[Dat] using h
 |.str x,v,h=>by simpa only[Dat] using h
 |.tup ds,v,h=>by
  simp only[Dat] at h ⊢;obtain⟨a,xs,rfl,h1,h2⟩:=h;exact⟨a,xs,rfl,e a _ h1,ao.same e h2⟩
 |.lst ds,v,h=>by
  simp only[Dat] at h ⊢;obtain⟨a,xs,rfl,h1,h2⟩:=h;exact⟨a,xs,rfl,e a _ h1,ao.same e h2⟩
 |.dk ks,v,h=>by
  simp only[Dat] at h ⊢;obtain⟨a,xs,rfl,h1,h2⟩:=h;exact⟨a,xs,rfl,e a _ h1,h2⟩
 |.dt ks,v,h=>by
  simp only[Dat] at h ⊢;obtain⟨a,xs,rfl,h1,h2⟩:=h;exact⟨a,xs,rfl,e a _ h1,h2⟩
theorem ao.same{H H':Hp}(e:bH H H'):∀ {ds:List D} {xs:List V},ao H ds xs->ao H' ds xs
 | [],xs,h=>by simpa only[ao] using h
 |d::ds,xs,h=>by
  simp only[ao] at h ⊢;obtain⟨x,r,rfl,h1,h2⟩:=h;exact⟨x,r,rfl,Dat.same e h1,ao.same e h2⟩
end
mutual
theorem Dat.inj{H:Hp}:∀ {d e:D} {v:V},Dat H d v->Dat H e v->d=e
 |.non,e,v,h,h'=>by
  simp only[Dat] at h;subst h;cases e<;>simp only[Dat] at h'<;>first|rfl|(obtain⟨_,_,h',_⟩:=h';cases h';done)|(cases h';done)
 |.bl b,e,v,h,h'=>by
  simp only[Dat] at h;subst h;cases e<;>simp only[Dat] at h'<;>first|(obtain⟨_,_,h',_⟩:=h';cases h';done)|(cases h';rfl)|(cases h';done)
 |.int i,e,v,h,h'=>by
  simp only[Dat] at h;subst h;cases e<;>simp only[Dat] at h'<;>first|(obtain⟨_,_,h',_⟩:=h';cases h';done)|(cases h';rfl)|(cases h';done)
 |.str x,e,v,h,h'=>by
  simp only[Dat] at h;subst h;cases e<;>simp only[Dat] at h'<;>first|(obtain⟨_,_,h',_⟩:=h';cases h';done)|(cases h';rfl)|(cases h';done)
 |.tup ds,e,v,h,h'=>by
  simp only[Dat] at h;obtain⟨a,xs,rfl,h1,h2⟩:=h
  cases e with
  |tup es=>
   simp only[Dat] at h';obtain⟨b,ys,e1,h3,h4⟩:=h';cases e1;rw[h1] at h3;cases h3;rw[ao.inj h2 h4]
  |lst es=>
   simp only[Dat] at h';obtain⟨b,ys,e1,h3,h4⟩:=h';cases e1;rw[h1] at h3;cases h3
  |dk es=>
   simp only[Dat] at h';obtain⟨b,ys,e1,h3,h4⟩:=h';cases e1;rw[h1] at h3;cases h3
  |dt es=>
   simp only[Dat] at h';obtain⟨b,ys,e1,h3,h4⟩:=h';cases e1;rw[h1] at h3;cases h3
  |_=>simp only[Dat] at h';cases h'
 |.lst ds,e,v,h,h'=>by
  simp only[Dat] at h;obtain⟨a,xs,rfl,h1,h2⟩:=h
  cases e with
  |lst es=>
   simp only[Dat] at h';obtain⟨b,ys,e1,h3,h4⟩:=h';cases e1;rw[h1] at h3;cases h3;rw[ao.inj h2 h4]
  |tup es=>
   simp only[Dat] at h';obtain⟨b,ys,e1,h3,h4⟩:=h';cases e1;rw[h1] at h3;cases h3
  |dk es=>
   simp only[Dat] at h';obtain⟨b,ys,e1,h3,h4⟩:=h';cases e1;rw[h1] at h3;cases h3
  |dt es=>
   simp only[Dat] at h';obtain⟨b,ys,e1,h3,h4⟩:=h';cases e1;rw[h1] at h3;cases h3
  |_=>simp only[Dat] at h';cases h'
 |.dk ds,e,v,h,h'=>by
  simp only[Dat] at h;obtain⟨a,xs,rfl,h1,rfl⟩:=h
  cases e with
  |tup es=>
   simp only[Dat] at h';obtain⟨b,ys,e1,h3,h4⟩:=h';cases e1;rw[h1] at h3;cases h3
  |lst es=>
   simp only[Dat] at h';obtain⟨b,ys,e1,h3,h4⟩:=h';cases e1;rw[h1] at h3;cases h3
  |dk es=>
   simp only[Dat] at h';obtain⟨b,ys,e1,h3,h4⟩:=h';cases e1;rw[h1] at h3;rw[←h4,xJ (a:=xs) (b:=ys)]
   simpa using h3
  |dt es=>
   simp only[Dat] at h';obtain⟨b,ys,e1,h3,h4⟩:=h';cases e1;rw[h1] at h3;cases h3
  |_=>simp only[Dat] at h';cases h'
 |.dt ds,e,v,h,h'=>by
  simp only[Dat] at h;obtain⟨a,xs,rfl,h1,rfl⟩:=h
  cases e with
  |tup es=>
   simp only[Dat] at h';obtain⟨b,ys,e1,h3,h4⟩:=h';cases e1;rw[h1] at h3;cases h3
  |lst es=>
   simp only[Dat] at h';obtain⟨b,ys,e1,h3,h4⟩:=h';cases e1;rw[h1] at h3;cases h3
  |dk es=>
   simp only[Dat] at h';obtain⟨b,ys,e1,h3,h4⟩:=h';cases e1;rw[h1] at h3;cases h3
  |dt es=>
   simp only[Dat] at h';obtain⟨b,ys,e1,h3,h4⟩:=h';cases e1;rw[h1] at h3;rw[←h4,xi (a:=xs) (b:=ys)]
   simpa using h3
  |_=>simp only[Dat] at h';cases h'
theorem ao.inj{H:Hp}:∀ {ds es:List D} {xs:List V},ao H ds xs->ao H es xs->ds=es
 | [],[],_,_,_=>rfl
 | [],e::es,xs,h,h'=>by
  simp only[ao] at h h';obtain⟨x,r,rfl,_⟩:=h';cases h
 |d::ds,[],xs,h,h'=>by
  simp only[ao] at h h';obtain⟨x,r,rfl,_⟩:=h;cases h'
 |d::ds,e::es,xs,h,h'=>by
  simp only[ao] at h h';obtain⟨x,r,rfl,h1,h2⟩:=h;obtain⟨x',r',e1,h3,h4⟩:=h';cases e1;rw[Dat.inj h1 h3,ao.inj h2 h4]
end
mutual
theorem dg:∀d:D,eqD d d=true
 |.non=>by simp[eqD]
 |.bl b=>by simp[eqD]
 |.int i=>by simp[eqD]
 |.str x=>by simp[eqD]
 |.tup ds=>by simp only[eqD];exact fQ ds
 |.lst ds=>by simp only[eqD];exact fQ ds
 |.dk ks=>by simp[eqD]
 |.dt ks=>by simp[eqD]
theorem fQ:∀ds:List D,db ds ds=true
 | []=>by simp[db]
 |d::ds=>by simp only[db,dg d,fQ ds,Bool.and_self]
end
theorem m7:∀ {ds es:List D},ds.length≠es.length->db ds es=false
 | [],[],h=>absurd rfl h
 | [],_::_,_=>by simp[db]
 |_::_,[],_=>by simp[db]
 |d::ds,e::es,h=>by
  simp only[db,m7 (ds:=ds) (es:=es) (by simpa using h),Bool.and_false]
theorem i9:∀ {ds es:List D},ds.length=es.length->(List.range ds.length).all (fun j=>eqD (ds.getD j .non) (es.getD j .non))=db ds es
 | [],[],_=>by simp[db]
 | [],_::_,h=>by simp at h
 |_::_,[],h=>by simp at h
 |d::ds,e::es,h=>by
  have ih:=i9 (ds:=ds) (es:=es) (by simpa using h)
  rw[zaJ,List.range_succ_eq_map,List.all_cons,List.all_map];simp only[db,←ih]
  rfl
end L2
namespace L2
open PySem PySem.Spec PyProof.Rows AutoSeq1
noncomputable def uH(h:Heap)(l:Addr):Prop:=∃es ep,h.get? l=some { cls:=.type "dict",data:=.dict es ep }
theorem ju:isSubtype (.type "NoneType") (.type "dict")=pure false:=by rw[zbG];kernel_rfl
theorem lF:isSubtype (.type "bool") (.type "dict")=pure false:=by rw[zbG];kernel_rfl
theorem lj:isSubtype (.type "int") (.type "dict")=pure false:=by rw[zbG];kernel_rfl
theorem lq:isSubtype (.type "str") (.type "dict")=pure false:=by rw[zbG];kernel_rfl
theorem lu:isSubtype (.type "tuple") (.type "dict")=pure false:=by rw[zbG];kernel_rfl
theorem kW:isSubtype (.type "list") (.type "dict")=pure false:=by rw[zbG];kernel_rfl
theorem ur:isSubtype (.type "dict") (.type "NoneType")=pure false:=by rw[zbG];kernel_rfl
theorem yi:isSubtype (.type "dict") (.type "bool")=pure false:=by rw[zbG];kernel_rfl
theorem iC:isSubtype (.type "dict") (.type "int")=pure false:=by rw[zbG];kernel_rfl
theorem lW:isSubtype (.type "dict") (.type "str")=pure false:=by rw[zbG];kernel_rfl
theorem me:isSubtype (.type "dict") (.type "tuple")=pure false:=by rw[zbG];kernel_rfl
theorem md:isSubtype (.type "dict") (.type "list")=pure false:=by rw[zbG];kernel_rfl
section
variable(l b:Addr)(es:Array DictEntry)(ep:Nat)
noncomputable abbrev DO(es:Array DictEntry)(ep:Nat):Obj:={ cls:=.type "dict",data:=.dict es ep }
theorem Hd:Meets (Builtin.«dict.__eq__» ⟨[.ref l,.none],[]⟩) (fun _ R s=>s.heap.get? l=some (DO es ep)/\R (.ok (.ret .notImplemented)) s):=
 .of_wp fun prog w A R s h=>by obtain⟨hp,g,d,tk,os⟩:=s;obtain⟨hl,h⟩:=h;have f1:=ju;wp_walk using wpAny_loadPart' hl,zaI hl;exact⟨_,rfl,h⟩
theorem Ho:Meets (Builtin.«dict.__ne__» ⟨[.ref l,.none],[]⟩) (fun _ R s=>s.heap.get? l=some (DO es ep)/\R (.ok (.ret .notImplemented)) s):=
 .of_wp fun prog w A R s h=>by obtain⟨hp,g,d,tk,os⟩:=s;obtain⟨hl,h⟩:=h;have f1:=ju;wp_walk using wpAny_loadPart' hl,zaI hl;exact⟨_,rfl,h⟩
theorem Jl(c:Bool):Meets (Builtin.«dict.__eq__» ⟨[.ref l,.bool c],[]⟩) (fun _ R s=>s.heap.get? l=some (DO es ep)/\R (.ok (.ret .notImplemented)) s):=
 .of_wp fun prog w A R s h=>by obtain⟨hp,g,d,tk,os⟩:=s;obtain⟨hl,h⟩:=h;have f1:=lF;wp_walk using wpAny_loadPart' hl,zaI hl;exact⟨_,rfl,h⟩
theorem HR(c:Bool):Meets (Builtin.«dict.__ne__» ⟨[.ref l,.bool c],[]⟩) (fun _ R s=>s.heap.get? l=some (DO es ep)/\R (.ok (.ret .notImplemented)) s):=
 .of_wp fun prog w A R s h=>by obtain⟨hp,g,d,tk,os⟩:=s;obtain⟨hl,h⟩:=h;have f1:=lF;wp_walk using wpAny_loadPart' hl,zaI hl;exact⟨_,rfl,h⟩
theorem Jx(c:Int)(u:Tok):Meets (Builtin.«dict.__eq__» ⟨[.ref l,.int c u],[]⟩) (fun _ R s=>s.heap.get? l=some (DO es ep)/\R (.ok (.ret .notImplemented)) s):=
 .of_wp fun prog w A R s h=>by obtain⟨hp,g,d,tk,os⟩:=s;obtain⟨hl,h⟩:=h;have f1:=lj;wp_walk using wpAny_loadPart' hl,zaI hl;exact⟨_,rfl,h⟩
theorem JD(c:Int)(u:Tok):Meets (Builtin.«dict.__ne__» ⟨[.ref l,.int c u],[]⟩) (fun _ R s=>s.heap.get? l=some (DO es ep)/\R (.ok (.ret .notImplemented)) s):=
 .of_wp fun prog w A R s h=>by obtain⟨hp,g,d,tk,os⟩:=s;obtain⟨hl,h⟩:=h;have f1:=lj;wp_walk using wpAny_loadPart' hl,zaI hl;exact⟨_,rfl,h⟩
theorem Jg(c:Str)(u:Tok):Meets (Builtin.«dict.__eq__» ⟨[.ref l,.str c u],[]⟩) (fun _ R s=>s.heap.get? l=some (DO es ep)/\R (.ok (.ret .notImplemented)) s):=
 .of_wp fun prog w A R s h=>by obtain⟨hp,g,d,tk,os⟩:=s;obtain⟨hl,h⟩:=h;have f1:=lq;wp_walk using wpAny_loadPart' hl,zaI hl;exact⟨_,rfl,h⟩
theorem JB(c:Str)(u:Tok):Meets (Builtin.«dict.__ne__» ⟨[.ref l,.str c u],[]⟩) (fun _ R s=>s.heap.get? l=some (DO es ep)/\R (.ok (.ret .notImplemented)) s):=
 .of_wp fun prog w A R s h=>by obtain⟨hp,g,d,tk,os⟩:=s;obtain⟨hl,h⟩:=h;have f1:=lq;wp_walk using wpAny_loadPart' hl,zaI hl;exact⟨_,rfl,h⟩
theorem Ix(its:Array Value)(n:Nat)(dd:Option Addr)(sl:Array (Option Value)):Meets (Builtin.«dict.__eq__» ⟨[.ref l,.ref b],[]⟩) (fun _ R s=>s.heap.get? l=some (DO es ep)/\s.heap.get? b=some ⟨.type "tuple",dd,.seq its n,sl⟩/\R (.ok (.ret .notImplemented)) s):=
 .of_wp fun prog w A R s h=>by obtain⟨hp,g,d,tk,os⟩:=s;obtain⟨hl,hb,h⟩:=h;have f1:=lu;wp_walk using wpAny_loadPart' hl,zaI hl,wpAny_loadPart' hb,zaI hb;exact⟨_,rfl,h⟩
theorem Jt(its:Array Value)(n:Nat)(dd:Option Addr)(sl:Array (Option Value)):Meets (Builtin.«dict.__ne__» ⟨[.ref l,.ref b],[]⟩) (fun _ R s=>s.heap.get? l=some (DO es ep)/\s.heap.get? b=some ⟨.type "tuple",dd,.seq its n,sl⟩/\R (.ok (.ret .notImplemented)) s):=
 .of_wp fun prog w A R s h=>by obtain⟨hp,g,d,tk,os⟩:=s;obtain⟨hl,hb,h⟩:=h;have f1:=lu;wp_walk using wpAny_loadPart' hl,zaI hl,wpAny_loadPart' hb,zaI hb;exact⟨_,rfl,h⟩
theorem Id(its:Array Value)(n:Nat)(dd:Option Addr)(sl:Array (Option Value)):Meets (Builtin.«dict.__eq__» ⟨[.ref l,.ref b],[]⟩) (fun _ R s=>s.heap.get? l=some (DO es ep)/\s.heap.get? b=some ⟨.type "list",dd,.seq its n,sl⟩/\R (.ok (.ret .notImplemented)) s):=
 .of_wp fun prog w A R s h=>by obtain⟨hp,g,d,tk,os⟩:=s;obtain⟨hl,hb,h⟩:=h;have f1:=kW;wp_walk using wpAny_loadPart' hl,zaI hl,wpAny_loadPart' hb,zaI hb;exact⟨_,rfl,h⟩
theorem HN(its:Array Value)(n:Nat)(dd:Option Addr)(sl:Array (Option Value)):Meets (Builtin.«dict.__ne__» ⟨[.ref l,.ref b],[]⟩) (fun _ R s=>s.heap.get? l=some (DO es ep)/\s.heap.get? b=some ⟨.type "list",dd,.seq its n,sl⟩/\R (.ok (.ret .notImplemented)) s):=
 .of_wp fun prog w A R s h=>by obtain⟨hp,g,d,tk,os⟩:=s;obtain⟨hl,hb,h⟩:=h;have f1:=kW;wp_walk using wpAny_loadPart' hl,zaI hl,wpAny_loadPart' hb,zaI hb;exact⟨_,rfl,h⟩
theorem Io(c:Bool):Meets (Builtin.«int.__eq__» ⟨[.bool c,.ref l],[]⟩) (fun _ R s=>s.heap.get? l=some (DO es ep)/\R (.ok (.ret .notImplemented)) s):=
 .of_wp fun prog w A R s h=>by obtain⟨hp,g,d,tk,os⟩:=s;obtain⟨hl,h⟩:=h;have f1:=iC;wp_walk using wpAny_loadPart' hl,zaI hl;exact⟨_,rfl,h⟩
theorem Jw(c:Bool):Meets (Builtin.«int.__ne__» ⟨[.bool c,.ref l],[]⟩) (fun _ R s=>s.heap.get? l=some (DO es ep)/\R (.ok (.ret .notImplemented)) s):=
 .of_wp fun prog w A R s h=>by obtain⟨hp,g,d,tk,os⟩:=s;obtain⟨hl,h⟩:=h;have f1:=iC;wp_walk using wpAny_loadPart' hl,zaI hl;exact⟨_,rfl,h⟩
theorem IQ(c:Int)(u:Tok):Meets (Builtin.«int.__eq__» ⟨[.int c u,.ref l],[]⟩) (fun _ R s=>s.heap.get? l=some (DO es ep)/\R (.ok (.ret .notImplemented)) s):=
 .of_wp fun prog w A R s h=>by obtain⟨hp,g,d,tk,os⟩:=s;obtain⟨hl,h⟩:=h;have f1:=iC;wp_walk using wpAny_loadPart' hl,zaI hl;exact⟨_,rfl,h⟩
theorem IM(c:Int)(u:Tok):Meets (Builtin.«int.__ne__» ⟨[.int c u,.ref l],[]⟩) (fun _ R s=>s.heap.get? l=some (DO es ep)/\R (.ok (.ret .notImplemented)) s):=
 .of_wp fun prog w A R s h=>by obtain⟨hp,g,d,tk,os⟩:=s;obtain⟨hl,h⟩:=h;have f1:=iC;wp_walk using wpAny_loadPart' hl,zaI hl;exact⟨_,rfl,h⟩
theorem J8(c:Str)(u:Tok):Meets (Builtin.«str.__eq__» ⟨[.str c u,.ref l],[]⟩) (fun _ R s=>s.heap.get? l=some (DO es ep)/\R (.ok (.ret .notImplemented)) s):=
 .of_wp fun prog w A R s h=>by obtain⟨hp,g,d,tk,os⟩:=s;obtain⟨hl,h⟩:=h;have f1:=lW;wp_walk using wpAny_loadPart' hl,zaI hl;exact⟨_,rfl,h⟩
theorem J1(c:Str)(u:Tok):Meets (Builtin.«str.__ne__» ⟨[.str c u,.ref l],[]⟩) (fun _ R s=>s.heap.get? l=some (DO es ep)/\R (.ok (.ret .notImplemented)) s):=
 .of_wp fun prog w A R s h=>by obtain⟨hp,g,d,tk,os⟩:=s;obtain⟨hl,h⟩:=h;have f1:=lW;wp_walk using wpAny_loadPart' hl,zaI hl;exact⟨_,rfl,h⟩
theorem JX(its:Array Value)(n:Nat)(dd:Option Addr)(sl:Array (Option Value)):Meets (Builtin.«tuple.__eq__» ⟨[.ref b,.ref l],[]⟩) (fun _ R s=>s.heap.get? l=some (DO es ep)/\s.heap.get? b=some ⟨.type "tuple",dd,.seq its n,sl⟩/\R (.ok (.ret .notImplemented)) s):=
 .of_wp fun prog w A R s h=>by obtain⟨hp,g,d,tk,os⟩:=s;obtain⟨hl,hb,h⟩:=h;have f1:=me;wp_walk using wpAny_loadPart' hl,zaI hl,wpAny_loadPart' hb,zaI hb;exact⟨_,rfl,h⟩
theorem JQ(its:Array Value)(n:Nat)(dd:Option Addr)(sl:Array (Option Value)):Meets (Builtin.«tuple.__ne__» ⟨[.ref b,.ref l],[]⟩) (fun _ R s=>s.heap.get? l=some (DO es ep)/\s.heap.get? b=some ⟨.type "tuple",dd,.seq its n,sl⟩/\R (.ok (.ret .notImplemented)) s):=
 .of_wp fun prog w A R s h=>by obtain⟨hp,g,d,tk,os⟩:=s;obtain⟨hl,hb,h⟩:=h;have f1:=me;wp_walk using wpAny_loadPart' hl,zaI hl,wpAny_loadPart' hb,zaI hb;exact⟨_,rfl,h⟩
theorem Kj(its:Array Value)(n:Nat)(dd:Option Addr)(sl:Array (Option Value)):Meets (Builtin.«list.__eq__» ⟨[.ref b,.ref l],[]⟩) (fun _ R s=>s.heap.get? l=some (DO es ep)/\s.heap.get? b=some ⟨.type "list",dd,.seq its n,sl⟩/\R (.ok (.ret .notImplemented)) s):=
 .of_wp fun prog w A R s h=>by obtain⟨hp,g,d,tk,os⟩:=s;obtain⟨hl,hb,h⟩:=h;have f1:=md;wp_walk using wpAny_loadPart' hl,zaI hl,wpAny_loadPart' hb,zaI hb;exact⟨_,rfl,h⟩
theorem Kh(its:Array Value)(n:Nat)(dd:Option Addr)(sl:Array (Option Value)):Meets (Builtin.«list.__ne__» ⟨[.ref b,.ref l],[]⟩) (fun _ R s=>s.heap.get? l=some (DO es ep)/\s.heap.get? b=some ⟨.type "list",dd,.seq its n,sl⟩/\R (.ok (.ret .notImplemented)) s):=
 .of_wp fun prog w A R s h=>by obtain⟨hp,g,d,tk,os⟩:=s;obtain⟨hl,hb,h⟩:=h;have f1:=md;wp_walk using wpAny_loadPart' hl,zaI hl,wpAny_loadPart' hb,zaI hb;exact⟨_,rfl,h⟩
end
noncomputable def Eq3(A:Around)(s:Shared)(v u:Value)(b:Bool):Prop:=SeqAt.RcAt A s v u b/\SeqAt.EqAt A s v u b/\SeqAt.RcNeAt A s v u (!b)
section
variable{A:Around}{s:Shared}{l:Addr}
theorem gf{v:Value}(hne:v≠.ref l)(h:SeqAt.RcAt A s v (.ref l) false):SeqAt.EqAt A s v (.ref l) false:=fun prog w E Q q=>by
 unfold eqBool;refine zbs ?_;refine wpAny_ite_split (fun hab=>absurd (eq_of_beq hab) hne) (fun _=>?_);cases v<;>exact zaa (h prog w E _ (zbV q))
theorem CA(d:uH s.heap l)(hu:A.units<cLine):Eq3 A s .none (.ref l) false:=by
 obtain⟨es,ep,ho⟩:=d
 have a:SeqAt.RcAt A s .none (.ref l) false:=fun prog w E Q h=>zch (k:=false) rfl ⟨_,ho,rfl⟩ (by decide) ur F.slot_NoneType_eq zbe
  (fun _ hq=>call_gives F.slot_NoneType_eq rfl F.entry_NoneType_eq (F.args_NoneType_eq_2 _ _) (SeqAt.NoneType___eq___none_ref_0 l) hq)
  (fun _ hq=>zaS zbe ⟨_,ho,rfl⟩ zcZ (zcP _ _) (Hd l es ep) ⟨ho,hq⟩)
  (fun _ hq=>zco (rfl:isSame .none (.ref l)=pure false) hq) (.inr hu) h
 exact⟨a,gf nofun a,fun prog w E Q h=>zci (k:=false) rfl ⟨_,ho,rfl⟩ (by decide) ur F.slot_NoneType_ne zbf
  (fun _ hq=>call_gives F.slot_NoneType_ne rfl F.entry_NoneType_ne (F.args_NoneType_ne_2 _ _) (SeqAt.NoneType___ne___none_ref_0 l) hq)
  (fun _ hq=>zaS zbf ⟨_,ho,rfl⟩ zda (zcQ _ _) (Ho l es ep) ⟨ho,hq⟩)
  (fun _ hq=>zco (rfl:isSame .none (.ref l)=pure false) hq) (.inr hu) h⟩
theorem Fn(c:Bool)(d:uH s.heap l)(hu:A.units<cLine):Eq3 A s (.bool c) (.ref l) false:=by
 obtain⟨es,ep,ho⟩:=d
 have a:SeqAt.RcAt A s (.bool c) (.ref l) false:=fun prog w E Q h=>zch (k:=false) rfl ⟨_,ho,rfl⟩ (by decide) yi F.slot_bool_eq zbe
  (fun _ hq=>zaS F.slot_bool_eq rfl F.entry_int_eq (F.args_int_eq_2 _ _) (Io l es ep c) ⟨ho,hq⟩)
  (fun _ hq=>zaS zbe ⟨_,ho,rfl⟩ zcZ (zcP _ _) (Jl l es ep c) ⟨ho,hq⟩)
  (fun _ hq=>zco (rfl:isSame (.bool c) (.ref l)=pure false) hq) (.inr hu) h
 exact⟨a,gf nofun a,fun prog w E Q h=>zci (k:=false) rfl ⟨_,ho,rfl⟩ (by decide) yi F.slot_bool_ne zbf
  (fun _ hq=>zaS F.slot_bool_ne rfl F.entry_int_ne (F.args_int_ne_2 _ _) (Jw l es ep c) ⟨ho,hq⟩)
  (fun _ hq=>zaS zbf ⟨_,ho,rfl⟩ zda (zcQ _ _) (HR l es ep c) ⟨ho,hq⟩)
  (fun _ hq=>zco (rfl:isSame (.bool c) (.ref l)=pure false) hq) (.inr hu) h⟩
theorem FF(c:Int)(u:Tok)(d:uH s.heap l)(hu:A.units<cLine):Eq3 A s (.int c u) (.ref l) false:=by
 obtain⟨es,ep,ho⟩:=d
 have a:SeqAt.RcAt A s (.int c u) (.ref l) false:=fun prog w E Q h=>zch (k:=false) (typeIs_int s c u) ⟨_,ho,rfl⟩ (by decide) iC F.slot_int_eq zbe
  (fun _ hq=>zaS F.slot_int_eq (typeIs_int s c u) F.entry_int_eq (F.args_int_eq_2 _ _) (IQ l es ep c u) ⟨ho,hq⟩)
  (fun _ hq=>zaS zbe ⟨_,ho,rfl⟩ zcZ (zcP _ _) (Jx l es ep c u) ⟨ho,hq⟩)
  (fun _ hq=>zco (rfl:isSame (.int c u) (.ref l)=pure false) hq) (.inr hu) h
 exact⟨a,gf nofun a,fun prog w E Q h=>zci (k:=false) (typeIs_int s c u) ⟨_,ho,rfl⟩ (by decide) iC F.slot_int_ne zbf
  (fun _ hq=>zaS F.slot_int_ne (typeIs_int s c u) F.entry_int_ne (F.args_int_ne_2 _ _) (IM l es ep c u) ⟨ho,hq⟩)
  (fun _ hq=>zaS zbf ⟨_,ho,rfl⟩ zda (zcQ _ _) (JD l es ep c u) ⟨ho,hq⟩)
  (fun _ hq=>zco (rfl:isSame (.int c u) (.ref l)=pure false) hq) (.inr hu) h⟩
theorem E1(c:Str)(u:Tok)(d:uH s.heap l)(hu:A.units<cLine):Eq3 A s (.str c u) (.ref l) false:=by
 obtain⟨es,ep,ho⟩:=d
 have a:SeqAt.RcAt A s (.str c u) (.ref l) false:=fun prog w E Q h=>zch (k:=false) (typeIs_str s c u) ⟨_,ho,rfl⟩ (by decide) lW F.slot_str_eq zbe
  (fun _ hq=>zaS F.slot_str_eq (typeIs_str s c u) F.entry_str_eq (F.args_str_eq_2 _ _) (J8 l es ep c u) ⟨ho,hq⟩)
  (fun _ hq=>zaS zbe ⟨_,ho,rfl⟩ zcZ (zcP _ _) (Jg l es ep c u) ⟨ho,hq⟩)
  (fun _ hq=>zco (rfl:isSame (.str c u) (.ref l)=pure false) hq) (.inr hu) h
 exact⟨a,gf nofun a,fun prog w E Q h=>zci (k:=false) (typeIs_str s c u) ⟨_,ho,rfl⟩ (by decide) lW F.slot_str_ne zbf
  (fun _ hq=>zaS F.slot_str_ne (typeIs_str s c u) F.entry_str_ne (F.args_str_ne_2 _ _) (J1 l es ep c u) ⟨ho,hq⟩)
  (fun _ hq=>zaS zbf ⟨_,ho,rfl⟩ zda (zcQ _ _) (JB l es ep c u) ⟨ho,hq⟩)
  (fun _ hq=>zco (rfl:isSame (.str c u) (.ref l)=pure false) hq) (.inr hu) h⟩
theorem lP{b:Addr}{ob ol:Obj}{Q:Bool->Shared->Prop}{M:Model}{E:Value->Shared->Prop}(h1:s.heap.get? b=some ob)(h2:s.heap.get? l=some ol)(hb:ob.cls≠ol.cls)(hl:ol.cls≠.type "tuple")(q:Q false s):wpAny M A (isSame (.ref b) (.ref l)) Q E s:=
 SeqAt.wpAny_isSame_ref_other' (fun e=>by subst e;rw[h1] at h2;cases h2;exact hb rfl) h1 h2 hl q
theorem EE{b:Addr}{its:Array Value}(hb:s.heap.IsTuple b its)(d:uH s.heap l)(hu:A.units<cLine):Eq3 A s (.ref b) (.ref l) false:=by
 obtain⟨es,ep,ho⟩:=d;obtain⟨⟨cls,dd,data,sl⟩,hp,hc,n,hd⟩:=id hb;simp only at hc hd;subst hc hd;have ne:Value.ref b≠Value.ref l:=fun e=>by cases e;exact absurd (zcB (fun o:Obj=>o.cls) (zbj (hp.symm.trans ho))) (by simp)
 have a:SeqAt.RcAt A s (.ref b) (.ref l) false:=fun prog w E Q h=>zch (k:=false) ⟨_,hp,rfl⟩ ⟨_,ho,rfl⟩ (by decide) me zcv zbe
  (fun _ hq=>zaS zcv ⟨_,hp,rfl⟩ F.entry_tuple_eq (F.args_tuple_eq_2 _ _) (JX l b es ep _ _ _ _) ⟨ho,hp,hq⟩)
  (fun _ hq=>zaS zbe ⟨_,ho,rfl⟩ zcZ (zcP _ _) (Ix l b es ep _ _ _ _) ⟨ho,hp,hq⟩)
  (fun _ hq=>lP hp ho (by simp) (by simp) hq) (.inr hu) h
 exact⟨a,gf ne a,fun prog w E Q h=>zci (k:=false) ⟨_,hp,rfl⟩ ⟨_,ho,rfl⟩ (by decide) me F.slot_tuple_ne zbf
  (fun _ hq=>zaS F.slot_tuple_ne ⟨_,hp,rfl⟩ F.entry_tuple_ne (F.args_tuple_ne_2 _ _) (JQ l b es ep _ _ _ _) ⟨ho,hp,hq⟩)
  (fun _ hq=>zaS zbf ⟨_,ho,rfl⟩ zda (zcQ _ _) (Jt l b es ep _ _ _ _) ⟨ho,hp,hq⟩)
  (fun _ hq=>lP hp ho (by simp) (by simp) hq) (.inr hu) h⟩
theorem ES{b:Addr}{its:Array Value}(hb:s.heap.IsList b its)(d:uH s.heap l)(hu:A.units<cLine):Eq3 A s (.ref b) (.ref l) false:=by
 obtain⟨es,ep,ho⟩:=d;obtain⟨⟨cls,dd,data,sl⟩,hp,hc,n,hd⟩:=id hb;simp only at hc hd;subst hc hd;have ne:Value.ref b≠Value.ref l:=fun e=>by cases e;exact absurd (zcB (fun o:Obj=>o.cls) (zbj (hp.symm.trans ho))) (by simp)
 have a:SeqAt.RcAt A s (.ref b) (.ref l) false:=fun prog w E Q h=>zch (k:=false) ⟨_,hp,rfl⟩ ⟨_,ho,rfl⟩ (by decide) md F.slot_list_eq zbe
  (fun _ hq=>zaS F.slot_list_eq ⟨_,hp,rfl⟩ F.entry_list_eq (F.args_list_eq_2 _ _) (Kj l b es ep _ _ _ _) ⟨ho,hp,hq⟩)
  (fun _ hq=>zaS zbe ⟨_,ho,rfl⟩ zcZ (zcP _ _) (Id l b es ep _ _ _ _) ⟨ho,hp,hq⟩)
  (fun _ hq=>lP hp ho (by simp) (by simp) hq) (.inr hu) h
 exact⟨a,gf ne a,fun prog w E Q h=>zci (k:=false) ⟨_,hp,rfl⟩ ⟨_,ho,rfl⟩ (by decide) md F.slot_list_ne zbf
  (fun _ hq=>zaS F.slot_list_ne ⟨_,hp,rfl⟩ F.entry_list_ne (F.args_list_ne_2 _ _) (Kh l b es ep _ _ _ _) ⟨ho,hp,hq⟩)
  (fun _ hq=>zaS zbf ⟨_,ho,rfl⟩ zda (zcQ _ _) (HN l b es ep _ _ _ _) ⟨ho,hp,hq⟩)
  (fun _ hq=>lP hp ho (by simp) (by simp) hq) (.inr hu) h⟩
end
end L2
namespace L2
open PySem PySem.Spec PyProof.Rows
section
variable{X:Cx}{pins:List (Addr×Obj)}{σ:St}{H:Hp}{s:Shared}
theorem wP:∀ {xs:List V} {us:List Value} {j:Nat} {x:V},ay xs us->xs[j]?=some x->∀(h:j<us.toArray.size),aB x us.toArray[j]:=fun {xs us j x} r e h=>by
 obtain⟨u,h1,h2⟩:=r.get e
 have:us[j]?=some us.toArray[j]:=by
  rw[zae (by simpa using h)]
  simp
 rw[h1] at this;cases this;exact h2
theorem eM(I:Inv X pins σ H s){a:Addr}{xs:List V}(h:H a=some (.tup xs)):∃its:List Value,ay xs its/\s.heap.IsTuple a its.toArray:=by
 obtain⟨its,r,p,_⟩:=I.tuple (SqT.of (K:=X.K) h);exact⟨its,r,p⟩
theorem jk(I:Inv X pins σ H s){a:Addr}{xs:List V}(h:H a=some (.lst xs)):∃its:List Value,ay xs its/\s.heap.IsList a its.toArray:=by
 obtain⟨its,r,p,_⟩:=I.list (SqL.of (K:=X.K) h);exact⟨its,r,p.isList⟩
theorem oX(I:Inv X pins σ H s){a:Addr}{kvs:List (Key×V)}(h:H a=some (.dK kvs)):uH s.heap a:=by
 obtain⟨_,_,vs,_,o,es,ep,e1,⟨c1,c2,c3⟩,e2,_⟩:=I.hok _ _ h;obtain⟨cls,dd,data,sl⟩:=o;simp only at c1 c2 c3 e2;subst c1 c2 c3 e2;exact⟨_,_,e1⟩
theorem oW(I:Inv X pins σ H s){a:Addr}{kvs:List (List Key×V)}(h:H a=some (.dT kvs)):uH s.heap a:=by
 obtain⟨_,_,vs,_,o,es,ep,e1,⟨c1,c2,c3⟩,e2,_⟩:=I.hok _ _ h;obtain⟨cls,dd,data,sl⟩:=o;simp only at c1 c2 c3 e2;subst c1 c2 c3 e2;exact⟨_,_,e1⟩
theorem B3{ds es:List D}:((List.range (min ds.length es.length)).all (fun j=>eqD (ds.getD j .non) (es.getD j .non)) && ds.length == es.length)=db ds es:=by
 by_cases h:ds.length=es.length
 ·rw[←i9 h]
  have:min ds.length es.length=ds.length:=by omega
  rw[this];simp[h]
 ·rw[m7 h]
  have:(ds.length == es.length)=false:=by simpa using h
  rw[this,Bool.and_false]
theorem nH(I:Inv X pins σ H s)(n:Nat):∀(d e:D)(x y:V)(v u:Value)(A:Around),dep d<=n->A.units+n<cLine->Dat H d x->Dat H e y->aB x v->aB y u ->
  SeqAt.RcAt A s v u (eqD d e)/\SeqAt.EqAt A s v u (eqD d e)/\SeqAt.RcNeAt A s v u (!eqD d e):=by
 induction n with
 |zero=>
  intro d e x y v u A hd hu hx hy rx ry;have hu':A.units<cLine:=by omega
  cases d with
  |tup ds=>simp only[dep] at hd;omega
  |lst ds=>simp only[dep] at hd;omega
  |dk ds=>simp only[dep] at hd;omega
  |dt ds=>simp only[dep] at hd;omega
  |non=>
   simp only[Dat] at hx;subst hx;cases rx
   cases e with
   |non=>simp only[Dat] at hy;subst hy;cases ry;exact⟨SeqAt.RcAt.none_none,SeqAt.EqAt.same _,SeqAt.RcNeAt.none_none⟩
   |bl b=>simp only[Dat] at hy;subst hy;cases ry;exact⟨SeqAt.RcAt.none_bool b,SeqAt.EqAt.none_bool b,SeqAt.RcNeAt.none_bool b⟩
   |int b=>simp only[Dat] at hy;subst hy;obtain⟨t,rfl⟩:=ry;exact⟨SeqAt.RcAt.none_int b t,SeqAt.EqAt.none_int b t,SeqAt.RcNeAt.none_int b t⟩
   |str b=>simp only[Dat] at hy;subst hy;obtain⟨t,rfl⟩:=ry;exact⟨SeqAt.RcAt.none_str b t,SeqAt.EqAt.none_str b t,SeqAt.RcNeAt.none_str b t⟩
   |tup es=>
    simp only[Dat] at hy;obtain⟨b,ys,rfl,hb,_⟩:=hy;cases ry;obtain⟨its,_,p⟩:=eM I hb;exact⟨SeqAt.RcAt.none_tuple p hu',SeqAt.EqAt.none_tuple p hu',SeqAt.RcNeAt.none_tuple p hu'⟩
   |lst es=>
    simp only[Dat] at hy;obtain⟨b,ys,rfl,hb,_⟩:=hy;cases ry;obtain⟨its,_,p⟩:=jk I hb;exact⟨SeqAt.RcAt.none_list p hu',SeqAt.EqAt.none_list p hu',SeqAt.RcNeAt.none_list p hu'⟩
   |dk es=>
    simp only[Dat] at hy;obtain⟨b,ys,rfl,hb,_⟩:=hy;cases ry;exact CA (oX I hb) hu'
   |dt es=>
    simp only[Dat] at hy;obtain⟨b,ys,rfl,hb,_⟩:=hy;cases ry;exact CA (oW I hb) hu'
  |bl a=>
   simp only[Dat] at hx;subst hx;cases rx
   cases e with
   |non=>simp only[Dat] at hy;subst hy;cases ry;exact⟨SeqAt.RcAt.bool_none a,SeqAt.EqAt.bool_none a,SeqAt.RcNeAt.bool_none a⟩
   |bl b=>simp only[Dat] at hy;subst hy;cases ry;exact⟨SeqAt.RcAt.bool_bool a b,SeqAt.EqAt.bool_bool a b,SeqAt.RcNeAt.bool_bool a b⟩
   |int b=>simp only[Dat] at hy;subst hy;obtain⟨t,rfl⟩:=ry;exact⟨SeqAt.RcAt.bool_int a b t,SeqAt.EqAt.bool_int a b t,SeqAt.RcNeAt.bool_int a b t⟩
   |str b=>simp only[Dat] at hy;subst hy;obtain⟨t,rfl⟩:=ry;exact⟨SeqAt.RcAt.bool_str a b t,SeqAt.EqAt.bool_str a b t,SeqAt.RcNeAt.bool_str a b t⟩
   |tup es=>
    simp only[Dat] at hy;obtain⟨b,ys,rfl,hb,_⟩:=hy;cases ry;obtain⟨its,_,p⟩:=eM I hb;exact⟨SeqAt.RcAt.bool_tuple a p hu',SeqAt.EqAt.bool_tuple a p hu',SeqAt.RcNeAt.bool_tuple a p hu'⟩
   |lst es=>
    simp only[Dat] at hy;obtain⟨b,ys,rfl,hb,_⟩:=hy;cases ry;obtain⟨its,_,p⟩:=jk I hb;exact⟨SeqAt.RcAt.bool_list a p hu',SeqAt.EqAt.bool_list a p hu',SeqAt.RcNeAt.bool_list a p hu'⟩
   |dk es=>
    simp only[Dat] at hy;obtain⟨b,ys,rfl,hb,_⟩:=hy;cases ry;exact Fn a (oX I hb) hu'
   |dt es=>
    simp only[Dat] at hy;obtain⟨b,ys,rfl,hb,_⟩:=hy;cases ry;exact Fn a (oW I hb) hu'
  |int a=>
   simp only[Dat] at hx;subst hx;obtain⟨t',rfl⟩:=rx
   cases e with
   |non=>simp only[Dat] at hy;subst hy;cases ry;exact⟨SeqAt.RcAt.int_none a t',SeqAt.EqAt.int_none a t',SeqAt.RcNeAt.int_none a t'⟩
   |bl b=>simp only[Dat] at hy;subst hy;cases ry;exact⟨SeqAt.RcAt.int_bool a t' b,SeqAt.EqAt.int_bool a t' b,SeqAt.RcNeAt.int_bool a t' b⟩
   |int b=>simp only[Dat] at hy;subst hy;obtain⟨t,rfl⟩:=ry;exact⟨SeqAt.RcAt.int_int a t' b t,SeqAt.EqAt.int_int a t' b t,SeqAt.RcNeAt.int_int a t' b t⟩
   |str b=>simp only[Dat] at hy;subst hy;obtain⟨t,rfl⟩:=ry;exact⟨SeqAt.RcAt.int_str a t' b t,SeqAt.EqAt.int_str a t' b t,SeqAt.RcNeAt.int_str a t' b t⟩
   |tup es=>
    simp only[Dat] at hy;obtain⟨b,ys,rfl,hb,_⟩:=hy;cases ry;obtain⟨its,_,p⟩:=eM I hb;exact⟨SeqAt.RcAt.int_tuple a t' p hu',SeqAt.EqAt.int_tuple a t' p hu',SeqAt.RcNeAt.int_tuple a t' p hu'⟩
   |lst es=>
    simp only[Dat] at hy;obtain⟨b,ys,rfl,hb,_⟩:=hy;cases ry;obtain⟨its,_,p⟩:=jk I hb;exact⟨SeqAt.RcAt.int_list a t' p hu',SeqAt.EqAt.int_list a t' p hu',SeqAt.RcNeAt.int_list a t' p hu'⟩
   |dk es=>
    simp only[Dat] at hy;obtain⟨b,ys,rfl,hb,_⟩:=hy;cases ry;exact FF a t' (oX I hb) hu'
   |dt es=>
    simp only[Dat] at hy;obtain⟨b,ys,rfl,hb,_⟩:=hy;cases ry;exact FF a t' (oW I hb) hu'
  |str a=>
   simp only[Dat] at hx;subst hx;obtain⟨t',rfl⟩:=rx
   cases e with
   |non=>simp only[Dat] at hy;subst hy;cases ry;exact⟨SeqAt.RcAt.str_none a t',SeqAt.EqAt.str_none a t',SeqAt.RcNeAt.str_none a t'⟩
   |bl b=>simp only[Dat] at hy;subst hy;cases ry;exact⟨SeqAt.RcAt.str_bool a t' b,SeqAt.EqAt.str_bool a t' b,SeqAt.RcNeAt.str_bool a t' b⟩
   |int b=>simp only[Dat] at hy;subst hy;obtain⟨t,rfl⟩:=ry;exact⟨SeqAt.RcAt.str_int a t' b t,SeqAt.EqAt.str_int a t' b t,SeqAt.RcNeAt.str_int a t' b t⟩
   |str b=>simp only[Dat] at hy;subst hy;obtain⟨t,rfl⟩:=ry;exact⟨SeqAt.RcAt.str_str a t' b t,SeqAt.EqAt.str_str a t' b t,SeqAt.RcNeAt.str_str a t' b t⟩
   |tup es=>
    simp only[Dat] at hy;obtain⟨b,ys,rfl,hb,_⟩:=hy;cases ry;obtain⟨its,_,p⟩:=eM I hb;exact⟨SeqAt.RcAt.str_tuple a t' p hu',SeqAt.EqAt.str_tuple a t' p hu',SeqAt.RcNeAt.str_tuple a t' p hu'⟩
   |lst es=>
    simp only[Dat] at hy;obtain⟨b,ys,rfl,hb,_⟩:=hy;cases ry;obtain⟨its,_,p⟩:=jk I hb;exact⟨SeqAt.RcAt.str_list a t' p hu',SeqAt.EqAt.str_list a t' p hu',SeqAt.RcNeAt.str_list a t' p hu'⟩
   |dk es=>
    simp only[Dat] at hy;obtain⟨b,ys,rfl,hb,_⟩:=hy;cases ry;exact E1 a t' (oX I hb) hu'
   |dt es=>
    simp only[Dat] at hy;obtain⟨b,ys,rfl,hb,_⟩:=hy;cases ry;exact E1 a t' (oW I hb) hu'
 |succ n ih=>
  intro d e x y v u A hd hu hx hy rx ry;have hu':A.units<cLine:=by omega
  by_cases h0:dep d<=n
  ·exact ih d e x y v u A h0 (by omega) hx hy rx ry
  have hin:A.in1.units+n<cLine:=by show A.units+1+n<cLine;omega
  have items:∀(ds es:List D)(xs ys:List V)(its its2:List Value),bW ds<=n->ao H ds xs->ao H es ys->ay xs its->ay ys its2 ->
    ∀j (h1:j<its.toArray.size) (h2:j<its2.toArray.size),SeqAt.EqAt A.in1 s its.toArray[j] its2.toArray[j] (eqD (ds.getD j .non) (es.getD j .non)):=by
   intro ds es xs ys its its2 hdp hxs hys r1 r2 j h1 h2;have l1:j<ds.length:=by rw[←hxs.length,r1.length];simpa using h1
   have l2:j<es.length:=by rw[←hys.length,r2.length];simpa using h2
   obtain⟨x',ex,hx'⟩:=hxs.get (zae l1);obtain⟨y',ey,hy'⟩:=hys.get (zae l2);have g1:ds.getD j .non=ds[j]:=by rw[zag,zae l1];rfl
   have g2:es.getD j .non=es[j]:=by rw[zag,zae l2];rfl
   rw[g1,g2];exact(ih ds[j] es[j] x' y' _ _ A.in1 (zaN (fL (zaE l1)) hdp) hin hx' hy' (wP r1 ex h1) (wP r2 ey h2)).2.1
  cases d with
  |non=>simp only[dep] at h0;omega
  |bl a=>simp only[dep] at h0;omega
  |int a=>simp only[dep] at h0;omega
  |str a=>simp only[dep] at h0;omega
  |dk ds=>simp only[dep] at hd;have:cLine=9900:=rfl;omega
  |dt ds=>simp only[dep] at hd;have:cLine=9900:=rfl;omega
  |tup ds=>
   simp only[dep] at hd;have hx0:=hx;simp only[Dat] at hx;obtain⟨a,xs,rfl,ha,hxs⟩:=hx;cases rx;obtain⟨its,r1,p⟩:=eM I ha
   cases e with
   |non=>simp only[Dat] at hy;subst hy;cases ry;exact⟨SeqAt.RcAt.tuple_none p hu',SeqAt.EqAt.tuple_none p hu',SeqAt.RcNeAt.tuple_none p hu'⟩
   |bl b=>simp only[Dat] at hy;subst hy;cases ry;exact⟨SeqAt.RcAt.tuple_bool b p hu',SeqAt.EqAt.tuple_bool b p hu',SeqAt.RcNeAt.tuple_bool b p hu'⟩
   |int b=>simp only[Dat] at hy;subst hy;obtain⟨t,rfl⟩:=ry;exact⟨SeqAt.RcAt.tuple_int b t p hu',SeqAt.EqAt.tuple_int b t p hu',SeqAt.RcNeAt.tuple_int b t p hu'⟩
   |str b=>simp only[Dat] at hy;subst hy;obtain⟨t,rfl⟩:=ry;exact⟨SeqAt.RcAt.tuple_str b t p hu',SeqAt.EqAt.tuple_str b t p hu',SeqAt.RcNeAt.tuple_str b t p hu'⟩
   |lst es=>
    simp only[Dat] at hy;obtain⟨b,ys,rfl,hb,_⟩:=hy;cases ry;obtain⟨its2,_,p2⟩:=jk I hb;exact⟨SeqAt.RcAt.tuple_list p p2 hu',SeqAt.EqAt.tuple_list p p2 hu',SeqAt.RcNeAt.tuple_list p p2 hu'⟩
   |dk es=>
    simp only[Dat] at hy;obtain⟨b,ys,rfl,hb,_⟩:=hy;cases ry;exact EE p (oX I hb) hu'
   |dt es=>
    simp only[Dat] at hy;obtain⟨b,ys,rfl,hb,_⟩:=hy;cases ry;exact EE p (oW I hb) hu'
   |tup es=>
    have hy0:=hy;simp only[Dat] at hy;obtain⟨b,ys,rfl,hb,hys⟩:=hy;cases ry;obtain⟨its2,r2,p2⟩:=eM I hb;have it:=items ds es xs ys its its2 (by omega) hxs hys r1 r2
    have z1:its.toArray.size=ds.length:=by rw[←hxs.length,r1.length];simp
    have z2:its2.toArray.size=es.length:=by rw[←hys.length,r2.length];simp
    have e0:=B3 (ds:=ds) (es:=es)
    have rc:SeqAt.RcAt A s (.ref a) (.ref b) (db ds es):=by
     have:=SeqAt.RcAt.tuples p p2 hu' it;rw[z1,z2,e0] at this;exact this
    have rn:SeqAt.RcNeAt A s (.ref a) (.ref b) (!db ds es):=by
     have:=SeqAt.RcNeAt.tuples p p2 hu' it;rw[z1,z2,e0] at this;exact this
    simp only[eqD];refine⟨rc,?_,rn⟩;by_cases hab:a=b
    ·subst hab
     have:D.tup ds=D.tup es:=hx0.inj hy0;cases this;rw[fQ];exact SeqAt.EqAt.same _
    ·exact .of_refs hab rc
  |lst ds=>
   simp only[dep] at hd;have hx0:=hx;simp only[Dat] at hx;obtain⟨a,xs,rfl,ha,hxs⟩:=hx;cases rx;obtain⟨its,r1,p⟩:=jk I ha
   cases e with
   |non=>simp only[Dat] at hy;subst hy;cases ry;exact⟨SeqAt.RcAt.list_none p hu',SeqAt.EqAt.list_none p hu',SeqAt.RcNeAt.list_none p hu'⟩
   |bl b=>simp only[Dat] at hy;subst hy;cases ry;exact⟨SeqAt.RcAt.list_bool b p hu',SeqAt.EqAt.list_bool b p hu',SeqAt.RcNeAt.list_bool b p hu'⟩
   |int b=>simp only[Dat] at hy;subst hy;obtain⟨t,rfl⟩:=ry;exact⟨SeqAt.RcAt.list_int b t p hu',SeqAt.EqAt.list_int b t p hu',SeqAt.RcNeAt.list_int b t p hu'⟩
   |str b=>simp only[Dat] at hy;subst hy;obtain⟨t,rfl⟩:=ry;exact⟨SeqAt.RcAt.list_str b t p hu',SeqAt.EqAt.list_str b t p hu',SeqAt.RcNeAt.list_str b t p hu'⟩
   |tup es=>
    simp only[Dat] at hy;obtain⟨b,ys,rfl,hb,_⟩:=hy;cases ry;obtain⟨its2,_,p2⟩:=eM I hb;exact⟨SeqAt.RcAt.list_tuple p p2 hu',SeqAt.EqAt.list_tuple p p2 hu',SeqAt.RcNeAt.list_tuple p p2 hu'⟩
   |dk es=>
    simp only[Dat] at hy;obtain⟨b,ys,rfl,hb,_⟩:=hy;cases ry;exact ES p (oX I hb) hu'
   |dt es=>
    simp only[Dat] at hy;obtain⟨b,ys,rfl,hb,_⟩:=hy;cases ry;exact ES p (oW I hb) hu'
   |lst es=>
    have hy0:=hy;simp only[Dat] at hy;obtain⟨b,ys,rfl,hb,hys⟩:=hy;cases ry;obtain⟨its2,r2,p2⟩:=jk I hb;have it:=items ds es xs ys its its2 (by omega) hxs hys r1 r2
    have z1:its.toArray.size=ds.length:=by rw[←hxs.length,r1.length];simp
    have z2:its2.toArray.size=es.length:=by rw[←hys.length,r2.length];simp
    have both:SeqAt.RcAt A s (.ref a) (.ref b) (db ds es)/\SeqAt.RcNeAt A s (.ref a) (.ref b) (!db ds es):=by
     by_cases hl:ds.length=es.length
     ·have r:=SeqAt.RcAt.lists p p2 (by rw[z1,z2];exact hl) hu' it
      have q:=SeqAt.RcNeAt.lists p p2 (by rw[z1,z2];exact hl) hu' it
      rw[z1,i9 hl] at r q;exact⟨r,q⟩
     ·have hne:(its.toArray.size != its2.toArray.size)=true:=by rw[z1,z2];simpa using hl
      rw[m7 hl];exact⟨SeqAt.RcAt.lists_lengths p p2 hne hu',SeqAt.RcNeAt.lists_lengths p p2 hne hu'⟩
    simp only[eqD];refine⟨both.1,?_,both.2⟩;by_cases hab:a=b
    ·subst hab
     have:D.lst ds=D.lst es:=hx0.inj hy0;cases this;rw[fQ];exact SeqAt.EqAt.same _
    ·exact .of_refs hab both.1
noncomputable def FT(neg:Bool):R2:=fun x y H Q=>∃d e,Dat H d x/\Dat H e y/\dep d<=100/\Q (.bl (if neg then !eqD d e else eqD d e)) H
theorem bQ(hu:X.A.units+100<cLine):OpR X (compareOp .Eq) (FT false):=by
 intro pins s σ H x y v u Q I rx ry h;obtain⟨d,e,hx,hy,hd,q⟩:=h;exact(nH I 100 d e x y v u X.A hd hu hx hy rx ry).1 X.prog X.w _ _ ⟨.bl _,H,I,rfl,q⟩
theorem kj(hu:X.A.units+100<cLine):OpR X (compareOp .NotEq) (FT true):=by
 intro pins s σ H x y v u Q I rx ry h;obtain⟨d,e,hx,hy,hd,q⟩:=h;exact(nH I 100 d e x y v u X.A hd hu hx hy rx ry).2.2 X.prog X.w _ _ ⟨.bl _,H,I,rfl,q⟩
end
theorem Be{H:Hp}{p:Addr}{o:HO}(h:H p=none):bH H (upd H p o):=fun b u e=>by
 rw[ah (av e h)];exact e
theorem gk{H:Hp}:∀ {ns:List Int} {xs:List V},ao H (ns.map D.int) xs->xs=ns.map V.int
 | [],xs,h=>by simpa[ao] using h
 |n::r,xs,h=>by
  simp only[zah,ao] at h;obtain⟨x,t,rfl,h1,h2⟩:=h;rw[gk h2];simp only[Dat] at h1;rw[h1];rfl
theorem Aa{e k y:Int}(h:0<k)(h2:k<=2^64):oI (e%k) y:=by
 have h1:=Int.emod_nonneg e (Int.ne_of_gt h);have h3:=Int.emod_lt_of_pos e h;exact .inl ⟨by omega,by omega⟩
theorem vF{x y:Int}(h:-(2^64)<x/\x<2^64):oI x y:=.inl h
theorem F6{x y:Int}(h:-(2^64)<y/\y<2^64):oI x y:=.inr h
section
variable{X:Cx}{tg a b l:Expr}{ta tb tl:TE}{pos:Pos}
theorem aP(K:W.Frag)(h:X.K=K):IxR X (rIx K):=h ▸ Gv
theorem fR(K:W.Frag)(h:X.K=K):cW X (.builtin "len") (fun xs H Q=>∃x n,xs=[x]/\D9 K x H n/\Q (.int n) H):=h ▸ Au
theorem pJ(K:W.Frag)(h:X.K=K)(hc:X.calm=true):cW X (.builtin "all") (fun xs H Q=>∃(a:Addr)(bs:List Bool),xs=[.ref a]/\SqL K H a (bs.map V.bl)/\Q (.bl (bs.all id)) H):=h ▸ Ad hc
theorem bt(K:W.Frag)(h:X.K=K)(ha:PE X a ta)(he:∀whole,isTrue a X.env whole=(do let v ← whole;standAt a.pos;holding [v] (truthy v))):
  PT X a (fun σ H Q=>ta σ H fun x H'=>∃k,sH K x H' k/\Q k H'):=h ▸ Ck ha he
theorem dc(K:W.Frag)(h:X.K=K):cW X (.type "tuple") (fun xs H Q=>∃p ys,xs=[.ref p]/\((SqL K H p ys/\∀l,H l=none->Q (.ref l) (upd H l (.tup ys)))\/(SqT K H p ys/\Q (.ref p) H))):=h ▸ oN
end
noncomputable def JT(J:It)(g:TG)(tb:TS)(D:iL)(σ:St)(H:Hp):Prop:=∃W:Nat->Nat->St->Hp->Prop,(∃m,W 0 m σ H)/\∀i m σ H,W i m σ H ->
 (J.stop i H/\D.nx σ H)\/(J.go i H/\∃N:St->Hp->Prop,(∀σ' H',N σ' H'->∃m',m'<m/\W (i+1) m' σ' H')/\∀x H',J.yld i H x H'->g x σ H' fun σ2 H2=>tb { D with nx:=N,ct:=N,bk:=D.nx } σ2 H2)
theorem Dh(wi:TI)(g:TG)(tb:TS)(D:iL)(σ:St)(H:Hp):FS wi g tb D σ H=wi σ H fun J H1=>JT J g tb D σ H1:=rfl
noncomputable def Bt(H H':Hp):Prop:=∀b xs,H b=some (.tup xs)->H' b=some (.tup xs)
mutual
noncomputable def noL:D->Bool
 |.lst _=>false
 |.dk _=>false
 |.dt _=>false
 |.tup ds=>KA ds
 |_=>true
noncomputable def KA:List D->Bool
 | []=>true
 |d::ds=>noL d && KA ds
end
mutual
theorem Dat.t{H H':Hp}(e:Bt H H'):∀ {d:D} {v:V},noL d=true->Dat H d v->Dat H' d v
 |.non,v,_,h=>by simpa only[Dat] using h
 |.bl b,v,_,h=>by simpa only[Dat] using h
 |.int i,v,_,h=>by simpa only[Dat] using h
 |.str x,v,_,h=>by simpa only[Dat] using h
 |.tup ds,v,n,h=>by
  simp only[Dat] at h ⊢;simp only[noL] at n;obtain⟨a,xs,rfl,h1,h2⟩:=h;exact⟨a,xs,rfl,e a _ h1,ao.t e n h2⟩
 |.lst ds,v,n,h=>by simp[noL] at n
 |.dk ds,v,n,h=>by simp[noL] at n
 |.dt ds,v,n,h=>by simp[noL] at n
theorem ao.t{H H':Hp}(e:Bt H H'):∀ {ds:List D} {xs:List V},KA ds=true->ao H ds xs->ao H' ds xs
 | [],xs,_,h=>by simpa only[ao] using h
 |d::ds,xs,n,h=>by
  simp only[ao] at h ⊢;simp only[KA,zax] at n;obtain⟨x,r,rfl,h1,h2⟩:=h;exact⟨x,r,rfl,Dat.t e n.1 h1,ao.t e n.2 h2⟩
end
theorem t6:∀ {ds:List D},(∀d∈ds,noL d=true)->KA ds=true
 | [],_=>by simp[KA]
 |d::ds,h=>by
  simp only[KA,zax];exact⟨h d (zau ..),t6 fun e he=>h e (zar _ he)⟩
end L2
namespace L2
theorem inv(F:Nat->St->Hp->Prop):∃Pv:Nat->St->Hp->Prop,∀i σ H,Pv i σ H↔F i σ H:=⟨F,fun _ _ _=>Iff.rfl⟩
end L2
namespace L2
open PySem
theorem cw.Kx{k:Nat}{A:Around}(r:cw k A):A.units+100<cLine:=by have:=r.un;omega
theorem iu:∀ {ds:List D} {n:Nat},(∀d∈ds,dep d<=n)->bW ds<=n
 | [],n,_=>by simp[bW]
 |d::ds,n,h=>by
  simp only[bW];exact Nat.max_le.mpr ⟨h d (zau ..),iu fun e he=>h e (zar _ he)⟩
theorem eD(ns:List Int):bW (ns.map D.int)=0:=by
 have:bW (ns.map D.int)<=0:=iu fun d hd=>by
  obtain⟨n,_,rfl⟩:=zal.mp hd;simp[dep]
 omega
end L2
namespace L2
open PySem PySem.Spec PyProof.Rows
section
variable{X:Cx}
theorem zM(hu:X.A.units+100<cLine):OpR X (compareOp .NotEq) (fun x y H Q=>∃a b xs,x=.ref a/\y=.ref b/\SqL X.K H a xs/\SqL X.K H b []/\Q (.bl (!xs.isEmpty)) H):=by
 intro pins s σ H x y v u Q I rx ry h;obtain⟨a,b,xs,rfl,rfl,ha,hb,q⟩:=h;cases rx;cases ry;obtain⟨its,r1,p1,_⟩:=I.list ha;obtain⟨its2,r2,p2,_⟩:=I.list hb;cases r2;have hu':X.A.units<cLine:=by omega
 cases xs with
 |nil=>
  cases r1;have:=SeqAt.RcNeAt.lists (e:=fun _=>true) p1.isList p2.isList rfl hu' (fun j h1 _=>absurd h1 (by simp))
  exact this X.prog X.w _ _ ⟨.bl _,H,I,rfl,q⟩
 |cons x xs=>
  have hne:(its.toArray.size != ([]:List Value).toArray.size)=true:=by
   have:=r1.length;rw[zao,←this]
   simp
  exact SeqAt.RcNeAt.lists_lengths p1.isList p2.isList hne hu' X.prog X.w _ _ ⟨.bl _,H,I,rfl,q⟩
end
end L2
namespace L2
open PySem
set_option tactic.hygienic true in
theorem ao.take{H:Hp}:∀ {ds:List D} {xs:List V} (n:Nat),ao H ds xs->ao H (ds.take n) (xs.take n):=fun {ds xs} n h=>by
 refine ao.of_get (by rw[zbh,zbh,h.length]) fun i d x e1 e2=>?_
 rw[List.getElem?_take] at e1 e2;split at e1
 ·rename_i hi
  rw[zaf hi] at e2;obtain⟨x',h1,h2⟩:=h.get e1;rw[e2] at h1;cases h1;exact h2
 ·cases e1
theorem ao.drop{H:Hp}:∀ {ds:List D} {xs:List V} (n:Nat),ao H ds xs->ao H (ds.drop n) (xs.drop n):=fun {ds xs} n h=>by
 refine ao.of_get (by rw[zcO,zcO,h.length]) fun i d x e1 e2=>?_
 rw[List.getElem?_drop] at e1 e2;obtain⟨x',h1,h2⟩:=h.get e1;rw[e2] at h1;cases h1;exact h2
end L2
namespace L2
open PySem PySem.Spec PyProof.Rows
section
variable{X:Cx}{e st:Expr}{te ts:TE}{pos p2:Pos}
noncomputable def IY(K:W.Frag)(te ts:TE):TE:=fun σ H Q=>te σ H fun x H1=>ts σ H1 fun k H2=>k=.int (-1)/\∃a xs,x=.ref a/\SqL K H2 a xs/\∀p,H2 p=none->Q (.ref p) (upd H2 p (.lst xs.reverse))
theorem Gz(K:W.Frag)(hK:X.K=K)(he:PE X e te)(hs:PE X st ts):PE X (.Subscript e (.Slice none none (some st) p2) pos) (IY K te ts):=.mk <| by
 subst hK;intro pins s σ H Q I h;refine Subscript_ (thn (he pins s σ H _ I h) fun v s1 ⟨x,H1,I1,r1,q1⟩=>?_);refine wpAny_Slice ?_;rw[evalPart_none];refine zab (zab ?_);rw[evalPart_some];refine thn (hs pins s1 σ H1 _ I1 q1) fun u s2 ⟨k,H2,I2,r2,q2⟩=>?_;obtain⟨rfl,a,xs,rfl,hx,q⟩:=q2;obtain⟨t,rfl⟩:=r2;cases r1;have I4:Inv X pins σ H2 { s2 with heap:=s2.heap.push { cls:=.type "slice",data:=.fields #[.none,.none,.int (-1) t] } }:=I2.kept (t':=s2.toks) fun b ob q=>zac _ q
 obtain⟨its,r,ht,hz⟩:=I4.list hx;have hlen:=r.length;refine tail_any (ops:=[.ref a,.ref s2.heap.objs.size]) (ht.isList.typeIs) slot_list_getitem.lookup ?_ (by with_unfolding_all rfl)
 refine wpAny_getItem_list_slice ht.isList (Heap.IsSliceOf.new ..) .none .none (.int (-1) t) (by simp) ?_ (by rw[zao]<;>omega)
 rw[W.krv_pick];refine⟨.ref _,_,I4.laid (t':=s2.toks) (o:=.lst xs.reverse) (fun b ob q=>zac _ q) (zaj _) ?_,rfl,q _ (I4.hok.fresh (zaj _))⟩;refine⟨by rw[zce];exact hz,its.reverse,0,?_,zan _ rfl⟩
 exact r.reverse
end
noncomputable def LD(H:Hp)(l:Addr)(ds:List D):Prop:=KA ds=true/\∃xs,H l=some (.lst xs)/\ao H ds xs
theorem t9{ds es:List D}:KA (ds++es)=(KA ds && KA es):=by
 induction ds with
 |nil=>simp[KA]
 |cons d ds ih=>simp[KA,ih,Bool.and_assoc]
inductive Tr where
 |lf (x:List D)
 |nd (x:List D) (l r:Tr)
namespace Tr
noncomputable def d:Tr->D
 |.lf x=>.tup x
 |.nd x l r=>.tup (x++[l.d,r.d])
noncomputable def size:Tr->Nat
 |.lf _=>1
 |.nd _ l r=>l.size+r.size+1
noncomputable def lvs:Tr->Nat
 |.lf _=>1
 |.nd _ l r=>l.lvs+r.lvs
noncomputable def dp:Tr->Nat
 |.lf _=>0
 |.nd _ l r=>1+max l.dp r.dp
noncomputable def post:Tr->List Tr
 |.lf x=>[.lf x]
 |.nd x l r=>l.post++r.post++[.nd x l r]
noncomputable def pre:Tr->List Tr
 |.lf x=>[.lf x]
 |.nd x l r=>.nd x l r::(r.pre++l.pre)
noncomputable def ok(lw:Str):Tr->Prop
 |.lf x=>x[0]?=some (.str lw)/\KA x=true
 |.nd x l r=>(∃w,x[0]?=some (.str w)/\w≠lw)/\KA x=true/\l.ok lw/\r.ok lw
theorem qC:∀t:Tr,t.pre.reverse=t.post
 |.lf x=>rfl
 |.nd x l r=>by simp[pre,post,qC l,qC r]
theorem nZ:∀t:Tr,t.post.length=t.size
 |.lf x=>rfl
 |.nd x l r=>by simp[post,size,nZ l,nZ r];omega
theorem sZ:∀t:Tr,1<=t.size
 |.lf x=>zaj _
 |.nd x l r=>by simp only[size];omega
theorem ok.noL{lw:Str}:∀ {t:Tr},t.ok lw->noL t.d=true
 |.lf x,h=>by simp only[d,L2.noL];exact h.2
 |.nd x l r,h=>by
  obtain⟨_,h1,h2,h3⟩:=h;simp only[d,L2.noL,t9,zax];exact⟨h1,by simp[KA,ok.noL h2,ok.noL h3]⟩
theorem ok.post{lw:Str}:∀ {t:Tr},t.ok lw->∀u∈t.post,u.ok lw
 |.lf x,h,u,hu=>by simp only[Tr.post,zaT] at hu;subst hu;exact h
 |.nd x l r,h,u,hu=>by
  simp only[Tr.post,zaL,zaT] at hu;rcases hu with(hu|hu)|hu
  ·exact ok.post h.2.2.1 u hu
  ·exact ok.post h.2.2.2 u hu
  ·subst hu;exact h
theorem ok.KA{lw:Str}{ts:List Tr}(h:∀t∈ts,t.ok lw):KA (ts.map d)=true:=t6 fun e he=>by
 obtain⟨t,ht,rfl⟩:=zal.mp he;exact(h t ht).noL
noncomputable def chk(s:Tr):List Tr->List Tr->Prop
 | [],st=>st=[s]
 |.lf x::r,st=>chk s r (st++[.lf x])
 |.nd x a b::r,st=>∃st',st=st'++[a,b]/\chk s r (st'++[.nd x a b])
theorem ng(s:Tr):∀(t:Tr)(r st:List Tr),chk s r (st++[t])->chk s (t.post++r) st
 |.lf x,r,st,h=>h
 |.nd x a b,r,st,h=>by
  simp only[post,zbM];refine ng s a _ st (ng s b _ _ ?_);refine⟨st,by simp,h⟩
theorem Dy(s:Tr):chk s s.post []:=by
 have:=ng s s [] [] rfl;simpa using this
end Tr
theorem n6(x y:Nat):Builtin.bitAnd (x:Int) (y:Int)=((x &&& y:Nat):Int):=by
 unfold Builtin.bitAnd;rw[zbq (by omega:(0:Int)<=x),zbq (by omega:(0:Int)<=y)]
 simp
theorem kG(x y:Nat):Builtin.bitOr (x:Int) (y:Int)=((x ||| y:Nat):Int):=by
 unfold Builtin.bitOr Builtin.bitAnd
 have h1:∀z:Nat,decide ((0:Int)<=Builtin.bitNot (z:Int))=false:=fun z=>by
  apply zaK;unfold Builtin.bitNot;omega
 have h2:∀z:Int,Builtin.bitNot (Builtin.bitNot z)=z:=fun z=>by unfold Builtin.bitNot;omega
 rw[h1,h1];simp only[h2,zba]
theorem u9(m n:Nat):Builtin.bitAnd ((m:Int) / 2^n) 1=if m.testBit n then 1 else 0:=by
 have e:((m:Int) / 2^n)=((m / 2^n:Nat):Int):=by push_cast;rfl
 rw[e,show (1:Int)=((1:Nat):Int) from rfl,n6,Nat.and_one_is_mod,Nat.testBit_eq_decide_div_mod_eq]
 rcases Nat.mod_two_eq_zero_or_one (m / 2^n) with h|h<;>simp[h]
section
variable{X:Cx}
theorem gz:∀ {ns:List Int} {its:List Value},ay (ns.map V.int) its->∀(i:Nat)(v:Value),its[i]?=some v->∃t,v=.int (ns.getD i 0) t
 | [],_,.nil,i,v,h=>by simp at h
 |n::ns,_,.cons r t,0,v,h=>by
  simp at h;subst h;obtain⟨t',e⟩:=r;exact⟨t',by rw[e];rfl⟩
 |n::ns,_,.cons r t,i+1,v,h=>by
  obtain⟨t',e⟩:=gz t i v (by simpa using h)
  exact⟨t',by rw[e];rfl⟩
theorem kQ(ns:List Int):∀j,j<=ns.length->preSum (fun i=>ns.getD i 0) j=(ns.take j).sum
 |0,_=>by simp[preSum]
 |j+1,h=>by
  have hj:j<ns.length:=by omega
  have e:ns.getD j 0=ns[j]:=by
   rw[zag,zae hj];rfl
  rw[preSum,kQ ns j (by omega),e,zbU,zae hj,List.sum_append]
  simp
theorem As(hc:X.calm=true):cW X (.builtin "sum") (fun xs H Q=>∃(a:Addr)(ns:List Int),xs=[.ref a]/\SqL X.K H a (ns.map V.int)/\Q (.int ns.sum) H):=by
 intro pins s σ H xs us Q I r h;obtain⟨a,ns,rfl,hq,q⟩:=h;obtain⟨u,rfl,rx⟩:=gE r;cases rx;obtain⟨its,rv,p,hz⟩:=I.list hq
 have hlt:a<s.heap.objs.size:=by
  obtain⟨o,ho,_⟩:=p.isList;exact zaq ho
 have hlen:its.length=ns.length:=by rw[←rv.length,zaA]
 refine call_sum_walkG (wpAny_pyIter_list p.isList ?_);refine⟨s.heap.objs.size,_,_,_,_,_,fun i=>ns.getD i 0,rfl,Walks.list (A:=X.A.in1) (I.ok.hd hc) _ a (zaF hlt) _,⟨⟨_,zan _ rfl,rfl,rfl⟩,p.isList.push _⟩,?_,?_,fun h' tk t' hk=>?_⟩
 ·intro b hb
  show b<(s.heap.push _).objs.size;rw[zcm];simp only[zay,List.not_mem_nil,or_false] at hb;rcases hb with e|e
  ·rw[e];exact Nat.lt_succ_self _
  ·rw[e];exact zdc hlt
 ·intro i v hP
  exact gz rv i v (by simpa using hP)
 ·refine⟨.int ns.sum,H,I.kept (t':=tk) fun b o e=>hk b o (fun hm=>?_) (zac _ e),⟨t',?_⟩,q⟩
  ·have:b=s.heap.objs.size:=by simpa using hm
   exact absurd (this ▸ zaq e) (zby _)
  ·rw[zao,hlen,kQ ns _ (zaj _),zbC]
theorem iK{prog:Program}{w:World}{A:Around}{E:Value->Shared->Prop}{s:Shared}{t sl:Addr}{items:Array Value}{vl vu:Value}{lo hi:Option Int}{Q:Value->Shared->Prop}(ht:IsTup s.heap t items)(hs:s.heap.IsSliceOf sl vl vu .none)(pl:IsPart vl lo)(pu:IsPart vu hi)(hw:HT.sIx items.size 0 lo=0/\HT.sIx items.size items.size hi=items.size)(h:Q (.ref t) s):wpAny (model prog w) A (getItem (.ref t) (.ref sl)) Q E s:=by
 obtain⟨os,hos,hcs,hds⟩:=id hs;have hTs:s.TypeIs (.ref sl) "slice":=⟨os,hos,hcs⟩;unfold getItem
 try with_reducible refine zbs ?_
 first|refine zaa (zab ?_)|skip
 refine zaa (wpAny_sequenceKey ht.typeIs (by decide) ?_)
 refine zaa (zbx (name:=Str.ofString "__getitem__") ht.typeIs zbm
  (zbt zbm ht.typeIs PyProof.Rows.entry_tuple_getitem ?_ (PyProof.Rows.args_tuple_getitem _ _)))
 show wpAny _ _ (Builtin.Tuple.tupleItemsOf (.ref t) >>= _) _ _ s;refine zaa (tupleItemsOf_ ht ?_);refine zaa (zdg hTs ?_);rw[zaf (by decide)]
 refine zaa (HT.sliceApplied_gen hs pl pu ?_)
 have hyes:(((HT.sIx items.size 0 lo:Nat):Int) == 0 && (1:Int) == 1 && (HT.sIx items.size items.size hi-HT.sIx items.size 0 lo) == items.size)=true:=by
  rw[hw.1,hw.2];simp
 show wpAny _ _ (if (((HT.sIx items.size 0 lo:Nat):Int) == 0 && (1:Int) == 1 && (HT.sIx items.size items.size hi-HT.sIx items.size 0 lo) == items.size)=true then _ else _) _ _ s
 rw[zaf hyes];unfold Builtin.Tuple.tupleIsExact;refine zaa (zaa (zdg ht.typeIs (zab ?_)));rw[zaf (by decide)]
 exact zaa (zbF (zab ⟨_,rfl,zab h⟩))
noncomputable def Fi(K:W.Frag):V->Option Int->Option Int->Hp->VK->Prop:=fun x lo hi H Q=>∃a xs,x=.ref a/\SqT K H a xs /\
 if HT.sIx xs.length 0 lo=0/\HT.sIx xs.length xs.length hi=xs.length then Q (.ref a) H else ∀p,H p=none->Q (.ref p) (upd H p (.tup (qY xs lo hi)))
theorem Ed:SlR X (Fi X.K):=by
 intro pins s σ H x v vl vu lo hi sl Q I rx hs pl pu h;obtain⟨a,xs,rfl,hx,h⟩:=h;by_cases hw:HT.sIx xs.length 0 lo=0/\HT.sIx xs.length xs.length hi=xs.length
 ·rw[zaf hw] at h
  cases rx;obtain⟨its,r,ht,hz⟩:=I.tuple hx;have hlen:its.toArray.size=xs.length:=by rw[zao];exact r.length.symm
  exact⟨"tuple",_,zbm.lookup,ht.typeIs,iK ht hs pl pu (by rw[hlen];exact hw) ⟨.ref a,H,I,rfl,h⟩⟩
 ·rw[zad hw] at h
  exact G5 pins s σ H (.ref a) v vl vu lo hi sl Q I rx hs pl pu ⟨a,xs,rfl,hx,hw,h⟩
end
noncomputable def wdD(w:List Int):D:=.tup (w.map D.int)
structure SN(n:Nat)(H:Hp)(S:Addr)(ad:Nat->Addr)(fs:Nat->List D):Prop where
 s:H S=some (.lst ((List.range n).map fun i=>.ref (ad i)))
 l:∀i,i<n->LD H (ad i) (fs i)
noncomputable def StE(w:World)(e:DictEntry)(p:Str×V):Prop:=e.hash=PyData.keyHash w.params p.1/\(∃t,e.key=.str p.1 t)/\aB p.2 e.val
noncomputable def StD(w:World)(K:W.Frag)(a:Addr)(kvs:List (Str×V)):Prop:=∃(o:Obj)(es:List DictEntry)(ep:Nat),K.lookup a=some o/\o.ExactDict/\o.data=.dict es.toArray ep/\Paired (StE w) es kvs
noncomputable def wq(kvs:List (Str×V))(x:Str):Option V:=(kvs.find? fun p=>decide (p.1=x)).map (·.2)
theorem StE.find{P:Program}{w:World}:∀ {es:List DictEntry} {kvs:List (Str×V)} {x:Str} {v:V},Paired (StE w) es kvs->wq kvs x=some v->∃u,findBy (aY P w).is es.toArray (Sum.inr x)=some u/\aB v u:=by
 intro es
 induction es with
 |nil=>intro kvs x v h hv;cases h;cases hv
 |cons e es ih=>
  intro kvs x v h hv
  cases h with
  | @cons _ p _ kvs r t=>
   obtain⟨h1,⟨tk,h2⟩,h3⟩:=r
   have hf:findBy (aY P w).is (e::es).toArray (Sum.inr x)=if hU (Sum.inr x) e.key=true then some e.val else findBy (aY P w).is es.toArray (Sum.inr x):=by
    unfold findBy;simp only[List.find?_toArray,zaR,wA];cases hU (Sum.inr x) e.key<;>simp
   by_cases hx:p.1=x
   ·have hk:hU (Sum.inr x) e.key=true:=by rw[h2,←hx];exact pW _ _
    rw[hf,zaf hk];unfold wq at hv;rw[List.find?_cons_of_pos (by simp[hx])] at hv
    cases hv;exact⟨_,rfl,h3⟩
   ·have hk:¬ hU (Sum.inr x) e.key=true:=by
     rw[h2];intro z;rcases bp z with⟨i,t',e1,e2⟩|⟨y,t',e1,e2⟩
     ·cases e2
     ·injection e2 with e2 _
      injection e1 with e1;exact hx (e2.trans e1.symm)
    rw[hf,zad hk];unfold wq at hv;rw[List.find?_cons_of_neg (by simp[hx])] at hv
    exact ih t hv
theorem StE.keys{P:Program}{w:World}:∀ {es:List DictEntry} {kvs:List (Str×V)},Paired (StE w) es kvs->∀e∈es,∃k,(aY P w).is k e.key=true/\e.hash=(aY P w).hash k
 |_,_,.nil,e,h=>by cases h
 |_,_,.cons (a:=e0) (b:=p) r t,e,h=>by
  rcases zay.mp h with rfl|h
  ·obtain⟨h1,⟨tk,h2⟩,_⟩:=r
   exact⟨Sum.inr p.1,by rw[h2];exact gK _ _ _ _,h1⟩
  ·exact StE.keys t e h
section
variable{X:Cx}{o i:Expr}{ty:TE}{pos:Pos}{a:Addr}{kvs:List (Str×V)}
noncomputable def FG(kvs:List (Str×V))(td ty:TE):TE:=fun σ H Q=>td σ H fun _ H0=>ty σ H0 fun y H1=>∃x v,y=.str x/\wq kvs x=some v/\Q v H1
theorem C5(hd:StD X.w X.K a kvs)(ho:PE X o (tC (.ref a)))(hi:PE X i ty)(hs:Dt i):PE X (.Subscript o i pos) (FG kvs (tC (.ref a)) ty):=.mk <| by
 intro pins s σ H Q I h;obtain⟨ob,es,ep,hk,hx,hdat,hp⟩:=hd;refine qS zdu.lookup hs (thn (ho pins s σ H (fun x H1=>x=.ref a/\ty σ H1 fun y H1=>∃x v,y=.str x/\wq kvs x=some v/\Q v H1) I ⟨rfl,h⟩) fun u s1 ⟨x,H1,I1,rx,ex,q1⟩=>thn (hi pins s1 σ H1 _ I1 q1) fun iv s2 ⟨y,H2,I2,ry,k,v,ey,hv,q2⟩=>?_);subst ex;subst ey;obtain rfl:u=Value.ref a:=rx;obtain⟨t,rfl⟩:=ry;obtain⟨u',hf,ru⟩:=StE.find (P:=X.prog) hp hv
 have hg:s2.heap.get? a=some ob:=I2.kIn a ob hk;have hm:s2.heap.MapOf (aY X.prog X.w) a (findBy (aY X.prog X.w).is es.toArray):=⟨ob,es.toArray,ep,hg,hx,hdat,fun e he=>StE.keys hp e (by simpa using he),fun _=>rfl⟩
 exact⟨⟨ob,hg,hx.1⟩,wpAny_getItem_of (knd:=aY X.prog X.w) (gK _ _ _ _) hm hf ⟨v,H2,I2.tok _,ru,q2⟩⟩
end
open Classical in
noncomputable def eqF(H:Hp)(dx:D)(u:Value):Bool:=if h:∃d,∃x,aB x u/\Dat H d x then eqD (Classical.choose h) dx else false
theorem zD{H:Hp}{dx d:D}{x:V}{u:Value}(r:aB x u)(h:Dat H d x):eqF H dx u=eqD d dx:=by
 have hex:∃d,∃x,aB x u/\Dat H d x:=⟨d,x,r,h⟩;unfold eqF;rw[dif_pos hex];obtain⟨x',r',h'⟩:=Classical.choose_spec hex;have:x'=x:=r'.inj r;subst this;rw[Dat.inj h' h]
theorem qF{H:Hp}{dx:D}:∀ {ds:List D} {xs:List V} {its:List Value},ao H ds xs->ay xs its->its.any (eqF H dx)=ds.any fun d=>eqD d dx
 | [],xs,its,h,r=>by
  simp only[ao] at h;subst h;cases r;rfl
 |d::ds,xs,its,h,r=>by
  simp only[ao] at h;obtain⟨x,xr,rfl,h1,h2⟩:=h
  cases r with
  |cons r1 r2=>rw[zbz,zbz,zD r1 h1,qF h2 r2]
theorem r9{H:Hp}:∀ {ds:List D} {xs:List V} {its:List Value},ao H ds xs->ay xs its->∀u∈its,∃d x,d∈ds/\aB x u/\Dat H d x
 | [],xs,its,h,r,u,hu=>by simp only[ao] at h;subst h;cases r;cases hu
 |d::ds,xs,its,h,r,u,hu=>by
  simp only[ao] at h;obtain⟨x,xr,rfl,h1,h2⟩:=h
  cases r with
  |cons r1 r2=>
   rcases zay.mp hu with rfl|hu
   ·exact⟨d,x,zau ..,r1,h1⟩
   ·obtain⟨d',x',m,q⟩:=r9 h2 r2 u hu
    exact⟨d',x',zar _ m,q⟩
theorem yl:∀ {ds:List D} {d:D},d∈ds->dep d<=bW ds
 |e::ds,d,h=>by
  simp only[bW];rcases zay.mp h with rfl|h
  ·omega
  ·have:=yl h;omega
noncomputable def inD(dx:D)(ds:List D):Bool:=ds.any fun d=>eqD d dx
noncomputable def ID(neg:Bool):R2:=fun x y H Q=>∃dx ds,Dat H dx x/\(Dat H (.lst ds) y\/Dat H (.tup ds) y)/\bW ds<=90/\Q (.bl (if neg then !inD dx ds else inD dx ds)) H
section
variable{X:Cx}
theorem vn(hu:X.A.units+100<cLine):OpR X (compareOp .In) (ID false):=by
 intro pins s σ H x y v u Q I rx ry h;obtain⟨dx,ds,hx,hy,hdp,q⟩:=h
 have he:∀ {xs:List V} {its:List Value},ao H ds xs->ay xs its->∀w,w∈its.toArray->SeqAt.EqAt X.A.in1 s w v (eqF H dx w):=fun hd r w hw=>by
  obtain⟨d,z,hm,rz,hz⟩:=r9 hd r w (by simpa using hw)
  rw[zD rz hz];exact(nH I 90 d dx z x w v X.A.in1 (zaN (yl hm) hdp) (by show X.A.units+1+90<cLine;omega) hz hx rz rx).2.1
 rcases hy with hy|hy
 ·simp only[Dat] at hy
  obtain⟨a,xs,rfl,ha,hd⟩:=hy;cases ry;obtain⟨its,r,pl,_⟩:=I.list (SqL.of ha);refine SeqAt.in_listAt (eqF H dx) pl.isList (he hd r) ⟨.bl _,H,I,rfl,?_⟩;rw[show its.toArray.any (eqF H dx)=its.any (eqF H dx) by simp,qF hd r]
  exact q
 ·simp only[Dat] at hy
  obtain⟨a,xs,rfl,ha,hd⟩:=hy;cases ry;obtain⟨its,r,pl,_⟩:=I.tuple (SqT.of ha);refine SeqAt.in_tupleAt (eqF H dx) pl (he hd r) ⟨.bl _,H,I,rfl,?_⟩;rw[show its.toArray.any (eqF H dx)=its.any (eqF H dx) by simp,qF hd r]
  exact q
theorem zt(hc:X.calm=true):cW X (.builtin "sum") (fun xs H Q=>∃(a:Addr)(ns:List Int),xs=[.ref a]/\SqT X.K H a (ns.map V.int)/\Q (.int ns.sum) H):=by
 intro pins s σ H xs us Q I r h;obtain⟨a,ns,rfl,hq,q⟩:=h;obtain⟨u,rfl,rx⟩:=gE r;cases rx;obtain⟨its,rv,p,hz⟩:=I.tuple hq
 have hlt:a<s.heap.objs.size:=by
  obtain⟨o,ho,_⟩:=p;exact zaq ho
 have hlen:its.length=ns.length:=by rw[←rv.length,zaA]
 have p':s.heap.IsTuple a its.toArray:=p;refine call_sum_walkG (wpAny_pyIter_tuple p' ?_);refine⟨s.heap.objs.size,_,_,_,_,_,fun i=>ns.getD i 0,rfl,Walks.tuple (A:=X.A.in1) (I.ok.hd hc) _ a (zaF hlt) _,⟨⟨_,zan _ rfl,rfl,rfl⟩,p'.push _⟩,?_,?_,fun h' tk t' hk=>?_⟩
 ·intro b hb
  show b<(s.heap.push _).objs.size;rw[zcm];simp only[zay,List.not_mem_nil,or_false] at hb;rcases hb with e|e
  ·rw[e];exact Nat.lt_succ_self _
  ·rw[e];exact zdc hlt
 ·intro i v hP
  exact gz rv i v (by simpa using hP)
 ·refine⟨.int ns.sum,H,I.kept (t':=tk) fun b o e=>hk b o (fun hm=>?_) (zac _ e),⟨t',?_⟩,q⟩
  ·have:b=s.heap.objs.size:=by simpa using hm
   exact absurd (this ▸ zaq e) (zby _)
  ·rw[zao,hlen,kQ ns _ (zaj _),zbC]
end
end L2
namespace L2
open PySem PySem.Spec PyProof.Rows
section
variable{X:Cx}{pos:Pos}
theorem j3(K:W.Frag)(h:X.K=K)(hu:X.A.units+100<cLine):OpR X (compareOp .NotEq) (fun x y H Q=>∃a b xs,x=.ref a/\y=.ref b/\SqL K H a xs/\SqL K H b []/\Q (.bl (!xs.isEmpty)) H):=h ▸ zM hu
end
section
variable{X:Cx}
theorem jM{es fs x1 pos te t}(ha:PE X (.Tuple fs x1 pos) te)(hr:PA X es t):PA X (.Tuple fs x1 pos::es) (jI te t):=ab ha hr (by rfl)
theorem tT{es fs pos te t}(ha:PE X (.List fs pos) te)(hr:PA X es t):PA X (.List fs pos::es) (jI te t):=ab ha hr (by rfl)
theorem aS{es c j pos te t}(ha:PE X (.Constant c j pos) te)(hr:PA X es t):PA X (.Constant c j pos::es) (jI te t):=ab ha hr (by rfl)
end
end L2
namespace L2
open PySem PySem.Spec PySem.Calls PyProof.Rows
noncomputable def Frz(H H':Hp):Prop:=∀b o u,H b=some (.frz o u)->H' b=some (.frz o u)
theorem bH.frz{H H':Hp}(h:bH H H'):Frz H H':=fun b o u e=>h b _ e
noncomputable def nY(H:Hp)(f:Addr)(q:Str)(params:Arguments)(body:Expr)(scope:Scope)(clos:List (Str×Addr)):Prop:=
 ∃(pm:Value)(c:Addr)(ctv:Value)(oc:Obj)(vs:Array Value)(t:Tok)(u u':HO),H f=some (.frz (W.kla_obj "<lambda>" q params body scope clos pm c ctv) u)/\H c=some (.frz oc u')/\oc.data=.fields vs/\vs[1]?=some (.str q t)
theorem nY.frz{H H':Hp}{f:Addr}{q:Str}{params:Arguments}{body:Expr}{scope:Scope}{clos:List (Str×Addr)}(x:nY H f q params body scope clos)(k:Frz H H'):nY H' f q params body scope clos:=
 let ⟨pm,c,ctv,oc,vs,t,u,u',h1,h2,r⟩:=x;⟨pm,c,ctv,oc,vs,t,u,u',k _ _ _ h1,k _ _ _ h2,r⟩
noncomputable def yU(K:W.Frag)(c P:Addr):Bool:=match K.lookup c with
 | some o=>(o.cls == .type "code") && c != P && (match o.data with
  | .fields vs=>(vs[11]? == some (.ref P)) && (match vs.getD 18 .none,vs.getD 7 .none,vs.getD 9 .none,vs.getD 10 .none with
   |.str _ _,.int _ _,.bool _,.int _ _=>true
   |_,_,_,_=>false)
  |_=>false)
 |none=>false
set_option tactic.hygienic true in
theorem yY{K:W.Frag}{h:Heap}{c P:Addr}(X:K.In h)(e:yU K c P=true):W.CodeHd h c P:=by
 unfold yU at e
 cases q:K.lookup c with
 |none=>rw[q] at e;cases e
 |some o=>
  rw[q] at e;simp only[zax] at e;obtain⟨⟨e1,e2⟩,e3⟩:=e
  cases d:o.data with
  |fields vs=>
   rw[d] at e3;simp only[zax] at e3;obtain⟨e4,e5⟩:=e3;have e4':vs[11]?=some (.ref P):=eq_of_beq e4;split at e5
   ·rename_i f tf g tg b x tt h18 h7 h9 h10
    refine⟨o,vs,f,tf,g,tg,b,x,tt,X _ _ q,eq_of_beq e1,d,e4',?_,h18,h7,h9,h10,by simpa using e2⟩
    simp[zaU,e4']
   ·cases e5
  |_=>rw[d] at e3;cases e3
set_option tactic.hygienic true in
theorem vH{pos:Pos}{a b:Int}{c cv:Value}(l:List Value)(h:TriplesOk l)(e:codeAmong pos (l++[rawInt a,rawInt b,c])=some cv):codeAmong pos l=some cv\/cv=c:=by
 fun_induction TriplesOk l with
 |case1=>
  simp only[zcp,rawInt,codeAmong] at e;split at e
  ·exact .inr (zbj e).symm
  ·cases e
 |case2 a' t b' u x aJ ih=>
  simp only[zbD,codeAmong] at e ⊢;split at e
  ·rename_i hc
   rw[zaf hc];exact .inl e
  ·rename_i hc
   rw[zad hc];exact ih h e
 |case3 l h1 h2=>exact h.elim
section
variable{P:Program}{w:World}{H H':Hp}{h h':Heap}{p:Addr}{ps:Array Value}
theorem Un.lam{fs:List Addr}(hok:HOk P w H h)(hP:H p=some (.tbl ps))(k:∀b o,b≠p->h.get? b=some o->h'.get? b=some o)(hp':∃o,h'.get? p=some o)(same:∀b,b<h.objs.size->H' b=H b):Un fs [] H H' h h':=by
 have ne:∀b,H b=none->b≠p:=fun b n z=>by rw[z,hP] at n;cases n
 refine⟨fun b o q n _ _=>k b o (ne b n) q,fun b o q n _ _=>⟨o.slots,k b o (ne b n) q⟩,fun b o q n _=>(same b (zaq q)).trans n,fun b o q _=>?_,fun b xs q=>(same b (hok.lt q)).trans q,fun b o u q=>(same b (hok.lt q)).trans q,fun b xs q=>⟨#[],?_⟩⟩
 ·by_cases hb:b=p
  ·rw[hb];exact hp'
  ·exact⟨o,k b o hb q⟩
 ·rw[(same b (hok.lt q)).trans q];simp
theorem HOk.lam(hok:HOk P w H h)(hP:H p=some (.tbl ps))(k:∀b o,b≠p->h.get? b=some o->h'.get? b=some o)(same:∀b,b<h.objs.size->H' b=H b)(newP:bb P w H' h' p (.tbl ps))(new:∀b u,h.objs.size<=b->H' b=some u->bb P w H' h' b u):HOk P w H' h':=fun b u e=>by
 rcases Nat.lt_or_ge b h.objs.size with hb|hb
 ·rw[same b hb] at e
  by_cases hp:b=p
  ·subst hp
   rw[hP] at e;cases e;exact newP
  ·refine(hok b u e).stay (fun c v hc q=>k c v ?_ q) (fun c q=>(same c (hok.lt q)).trans q) (fun c xs q=>(same c (hok.lt q)).trans q) fun c o u q=>(same c (hok.lt q)).trans q
   rcases hc with rfl|hc
   ·exact hp
   ·rintro rfl
    rw[hP] at hc;cases hc
 ·exact new b u hb e
end
noncomputable def GC(q:Str)(args:Arguments)(body:Expr)(scope:Scope)(clos:List (Str×Addr)):TE:=fun _ H Q=>∀f H',bH H H'->H f=none->nY H' f q args body scope clos->Q (.ref f) H'
section
variable{X:Cx}{args:Arguments}{body:Expr}{scope:Scope}{pos:Pos}{x:Str}{c p:Addr}{clos:List (Str×Addr)}
theorem zR(hcode:X.env.code=.ref c)(hq:X.env.qual=x ++ ".<locals>.")(hm:(x,c,p)∈iY X.K)(hh:yU X.K c p=true)(hcl:closureFor scope X.env=pure clos)(hdef:defaultsOf args X.env=([],[]):=by rfl):
  PE X (.Lambda args body scope pos) (GC (x ++ ".<locals>." ++ "<lambda>") args body scope clos):=.mk <| by
 intro pins s σ H Q I h;refine W.kla_eval hdef ?_;rw[hq];obtain⟨ps,eP,z0⟩:=(I.ok.tt.mono I.base.tbls) _ hm;obtain⟨qs,hP,tr,codes⟩:=I.hok _ _ eP;dsimp only at eP z0 hP;have C:W.CodeHd s.heap c p:=(yY I.ok.mod.kin hh).keeps I.bk;have hg:s.heap.Ns mainGlobals X.mg:=I.ok.mod.glob.keeps I.bk;obtain⟨bm,ob,b1,b2,b3,b4,b5,b6⟩:=I.ok.mod.bm
 have hgP:mainGlobals≠p:=fun q=>by
  obtain⟨o,es,ep,e,hd,_⟩:=hg;rw[q,hP] at e;cases e;cases hd
 have hbP:bm≠p:=fun q=>by
  have e:=I.bk _ _ b3;rw[q,hP] at e;cases e;cases b4
 have hbG:bm≠mainGlobals:=fun q=>by
  obtain⟨o,es,ep,e,hd,_⟩:=I.ok.mod.glob;rw[q,e] at b3;cases b3;rw[hd] at b6;cases b6
 have hB:s.heap.BuiltinsAt X.mg p:=⟨bm,ob,b1,b2,hbG,hbP,I.bk _ _ b3,b4,b5,b6⟩;have hps:p<s.heap.objs.size:=zaq hP
 cases e:codeAmong pos qs.toList with
 |none=>
  refine W.kla_makeFunction (mg:=X.mg) hcl I.ok.glob hg hcode C hP tr e hgP hB fun c' ctv h' tk hx hge hlt hrec htb=>?_;obtain⟨c₂,oc,vs,t,e2,hoc,hd,hv⟩:=hrec;cases e2;have hps':p<h'.objs.size:=zaq htb
  let H':Hp:=upd (upd H c' (.frz oc (.own p))) h'.objs.size (.frz (W.kla_obj "<lambda>" (x ++ ".<locals>." ++ "<lambda>") args body scope clos ((X.mg "__name__").getD .none) c' ctv) (.own h'.objs.size))
  have ef:H' h'.objs.size=some (.frz (W.kla_obj "<lambda>" (x ++ ".<locals>." ++ "<lambda>") args body scope clos ((X.mg "__name__").getD .none) c' ctv) (.own h'.objs.size)):=aN;have ec:H' c'=some (.frz oc (.own p)):=(ah (zaF hlt)).trans aN
  have same:∀b,b<s.heap.objs.size->H' b=H b:=fun b hb=>by
   have h1:b≠h'.objs.size:=zaF (Nat.lt_trans (zaD hb hge) hlt);have h2:b≠c':=zaF (zaD hb hge);exact(ah h1).trans (ah h2)
  have k:∀b o,b≠p->s.heap.get? b=some o->(h'.push (W.kla_obj "<lambda>" (x ++ ".<locals>." ++ "<lambda>") args body scope clos ((X.mg "__name__").getD .none) c' ctv)).get? b=some o:=fun b o n q=>zac _ (hx b o n q);have htb':=zac (W.kla_obj "<lambda>" (x ++ ".<locals>." ++ "<lambda>") args body scope clos ((X.mg "__name__").getD .none) c' ctv) htb;refine⟨.ref h'.objs.size,H',I.un (Un.lam I.hok eP k ⟨_,htb'⟩ same) (I.hok.lam eP k same ⟨_,htb',?_,?_⟩ ?_),rfl,h _ _ (fun b o q=>(same b (I.hok.lt q)).trans q) (I.hok.fresh (zaN hge (zbd hlt))) ⟨_,c',ctv,oc,vs,t,_,_,ef,ec,hd,hv⟩⟩
  ·rw[Array.toList_append]
   exact TriplesOk_snoc _ _ _ _ tr
  ·intro pos' cv q
   rw[Array.toList_append] at q;rcases vH _ tr q with q|rfl
   ·obtain⟨c1,o1,v1,t1,q1,a1,a2,a3,a4,a5⟩:=codes pos' cv q
    exact⟨c1,o1,v1,t1,q1,a1,(same c1 (I.hok.lt a2)).trans a2,a3,a4,a5⟩
   ·exact⟨c',oc,vs,t,_,rfl,ec,hd,hv,z0⟩
  ·intro b u hb q
   by_cases hbf:b=h'.objs.size
   ·subst hbf
    rw[ef] at q;cases q;exact⟨zan _ rfl,_,zan _ rfl⟩
   ·have q':upd H c' (.frz oc (.own p)) b=some u:=(ah hbf).symm.trans q
    by_cases hbc:b=c'
    ·subst hbc
     rw[aN] at q';cases q';exact⟨zac _ hoc,_,zac _ hoc⟩
    ·rw[ah hbc,I.hok.fresh hb] at q';cases q'
 |some cv=>
  obtain⟨c',oc,vs,t,q,rfl,ec,hd,hv,hq0⟩:=codes pos cv e
  have hqq:q=x ++ ".<locals>." ++ "<lambda>":=by
   rw[hq0] at z0;injection z0 with z0;injection z0
  subst hqq;refine W.kla_makeFunctionHit (mg:=X.mg) hcl I.ok.glob hg hcode C hP tr e hB fun ctv h' tk hk hsz=>?_;have hne:∀b u,H b=some u->b≠h'.objs.size:=fun b u q z=>absurd (zaD (I.hok.lt q) hsz) (by rw[z];exact zby _)
  refine⟨.ref h'.objs.size,upd H h'.objs.size (.frz (W.kla_obj "<lambda>" (x ++ ".<locals>." ++ "<lambda>") args body scope clos ((X.mg "__name__").getD .none) c' ctv) (.own h'.objs.size)),I.laid (fun b u q=>zac _ (hk b u q)) hsz ?_,rfl,h _ _ (fun b o q=>(ah (hne b o q)).trans q) (I.hok.fresh hsz) ⟨_,c',ctv,oc,vs,t,_,_,aN,(ah (hne _ _ ec)).trans ec,hd,hv⟩⟩;exact⟨zan _ rfl,_,zan _ rfl⟩
end
structure Clo(P:Program)(w:World)(K:W.Frag)(mg:Str->Option Value)(base:Heap)(H₀:Hp)(k:Nat)(f:Addr)(n:Nat)(sp:Sp):Prop where
 fn:(∃(oc:Value)(od:Option Addr)(fd:FuncData) (sl:Array (Option Value)) (u:HO),H₀ f=some (.frz ⟨oc,od,.func fd,sl⟩ u))\/∃(oc:Value)(od:Option Addr)(fd:FuncData) (sl:Array (Option Value)),K.lookup f=some ⟨oc,od,.func fd,sl⟩
 len:∀vs H Q E,sp vs H Q E->vs.length=n
 run:∀(A:Around)(outer:List Env)(s:Shared)(H:Hp)(us:List Value)(vs:List V)(Q:VK)(E:XK),cw k A->tS P w K mg base A outer s H->Frz H₀ H->ay vs us->sp vs H Q E ->
  codeAny (model P w) A (.call (.ref f) ⟨us,[]⟩) (CR CX0 outer P w H s Q E) s
noncomputable def Bj(X:Cx)(k n i:Nat)(t:TA):TE:=fun σ H Q=>∃f sp,σ[i]?=some (some (.ref f))/\Clo X.prog X.w X.K X.mg X.base X.H₀ k f n sp/\t σ H fun vs H1=>sp vs H1 Q E0
section
variable{X:Cx}{k n i:Nat}{x:Str}{p pos:Pos}{e:Expr}{es:List Expr}{t:TA}
theorem tJ(hr:cw k X.A)(hN:X.N[i]?=some x)(hv:Vis X.env.scope x)(ha:PA X (e::es) t)(hd:(x == ("__debug__":Str))=false:=by decide)(hcd:(x == ("__classdict__":Str))=false:=by decide)(he:starEach (e::es) X.env=(false,eval e X.env)::starEach es X.env:=by rfl)(hpl:(backTo pos (starEach es X.env)).any (·.1)=false:=by rfl):
  PE X (.Call (.Name x p) (e::es) [] pos) (Bj X k n i t):=.mk <| by
 intro pins s σ H Q I h;obtain⟨f,sp,ev,C,h⟩:=h
 have at':∀ {σ1:St} {H1:Hp} {s1:Shared},Inv X pins σ1 H1 s1->W.FnAt f s1.heap:=fun {σ1 H1 s1} J=>by
  rcases C.fn with⟨oc,od,fd,sl,u,q⟩|⟨oc,od,fd,sl,q⟩
  ·exact⟨oc,od,fd,sl,(J.hok _ _ (J.base.frzs _ _ _ q)).1⟩
  ·exact⟨oc,od,fd,sl,J.kIn _ _ q⟩
 refine zcY (thn (zK (X:=X) hN hv hd hcd pins s σ H (fun v H1=>v=.ref f/\H1=H) I ⟨_,ev,rfl,rfl⟩) fun u s1 ⟨v,H1,I1,r,e1,e2⟩=>?_);subst e1 e2;obtain rfl:u=Value.ref f:=r;refine W.callWith_F (at' I1) (thn (ha pos pins s1 σ H1 _ I1 h) fun us s2 ⟨vs,H2,I2,r2,q2⟩=>⟨at' I2,?_⟩) he hpl;refine wpAny_call (codeAny_mono (C.run X.A X.stack s2 H2 us vs Q E0 hr I2.env0 (fun b o u q=>I2.base.frzs b o u q) r2 q2) fun r s' hq=>?_)
 cases r with
 |error e=>exact False.elim hq
 |ok fl=>
  cases fl with
  |ret u=>exact I2.after hq
  |next=>exact False.elim hq
  |brk=>exact False.elim hq
  |cont=>exact False.elim hq
end
theorem Mod.mono{K:W.Frag}{mg:Str->Option Value}{b b':Heap}(m:Mod K mg b)(k:∀a o,b.get? a=some o->b'.get? a=some o):Mod K mg b':=
 ⟨m.kin.keeps k,m.glob.keeps k,let ⟨mb,h1,h2⟩:=m.blt;⟨mb,h1.keeps k,h2⟩,m.nolimit.keeps k,let ⟨bm,ob,h1,h2,h3,r⟩:=m.bm;⟨bm,ob,h1,h2,k _ _ h3,r⟩⟩
noncomputable def zI(X:Cx)(σ:St)(b:Heap):Prop:=∀(i:Nat)(x:Str)(v:V),X.N[i]?=some x->σ[i]?=some (some v)->X.env.scope.names.lookup x=some .cell->X.fn x=true->∃c u,X.env.cells.lookup x=some c/\b.IsCell c (some u)/\aB v u
theorem lg{h b b':Heap}:∀ {l:List Env},h.FunFrames b l->(∀a∈frs l,b'.get? a=none)->h.FunFrames b' l
 | [],_,_=>trivial
 |env::r,x,k=>by
  obtain⟨hk,⟨L,o,hf,hn,ho,hd⟩,hr⟩:=x;have hL:L∈frs (env::r):=by unfold frs;rw[zcT,hf];exact zau
  refine⟨hk,⟨L,o,hf,k L hL,ho,hd⟩,lg hr fun a ha=>k a ?_⟩;unfold frs at ha ⊢;rw[zcT,hf];exact zar _ ha
theorem Inv.grow{X:Cx}{pins:List (Addr×Obj)}{σ:St}{H:Hp}{s:Shared}(I:Inv X pins σ H s):
  ∃b',(∀a o,X.base.get? a=some o->b'.get? a=some o)/\tS X.prog X.w X.K X.mg b' X.A X.stack s H/\zI X σ b':=by
 have keep:∀a o,s.heap.get? a=some o->H a=none->a ∉ frs X.stack->(W.hideAll s.heap (trk s.heap H++frs X.stack)).get? a=some o:=fun a o e n hf=>W.hideAll_get _ e fun hm=>by
  rcases zaL.mp hm with z|z
  ·have q:(H a).isSome=true:=(zdr.mp z).2
   rw[n] at q;simp at q
  ·exact hf z
 have sub:∀a o,X.base.get? a=some o->(W.hideAll s.heap (trk s.heap H++frs X.stack)).get? a=some o:=fun a o e=>keep a o (I.bs a o e).1 (I.bs a o e).2 fun hm=>by
  have:=(I.stack.mem hm).1;rw[e] at this;cases this
 have e0:=I.env0;refine⟨W.hideAll s.heap (trk s.heap H++frs X.stack),sub,⟨e0.frames,e0.mod.mono sub,fun a o e=>⟨W.of_hideAll _ e,?_⟩,Nat.le_of_eq (W.hideAll_size _ _),lg e0.funs fun a ha=>W.hideAll_none _ (zaC _ ha),e0.frf,e0.tt,e0.hok,e0.bare⟩,?_⟩
 ·cases q:H a with
  |none=>rfl
  |some u=>
   have hm:a∈trk s.heap H:=zdr.mpr ⟨zbk.mpr (I.hok.lt q),by simp[q]⟩
   rw[W.hideAll_none _ (zbn _ hm)] at e;cases e
 ·intro i x v h1 h2 h3 h4
  obtain⟨m,hn,hl⟩:=I.loc;obtain⟨u,r,l⟩:=hl i x v h1 h2 (.inr (.inl h3));rcases l with⟨k,_⟩|⟨_,c,hc,o,ho,hd⟩
  ·have k':X.env.scope.names.lookup x=some .local:=k
   rw[h3] at k';cases k'
  ·refine⟨c,u,hc,⟨o,keep c o ho (I.freeC x c hc) fun hm=>?_,hd⟩,r⟩
   rcases zay.mp (I.KJ c hm) with z|z
   ·exact I.cne x c hc z
   ·obtain⟨_,o',ho',_⟩:=I.ok.funs.mem z
    exact absurd (zaD (zaq ho') (I.ok.cab x c h4 hc)) (zby _)
noncomputable def zZ(X:Cx)(spf:Heap->Sp)(t:TA):TE:=fun σ H Q=>t σ H fun vs H1=>∀b',(∀a o,X.base.get? a=some o->b'.get? a=some o)->zI X σ b'->spf b' vs H1 Q E0
section
variable{X:Cx}{k:Nat}{f:Addr}{fd:FuncData}{ps:List Str}{x:Str}{p pos:Pos}{e:Expr}{es:List Expr}{t:TA}{spf:Heap->Sp}
theorem CU(F:∀b',a7 X.prog X.w X.K X.mg b' CX0 k f fd ps (spf b'))(hr:cw k X.A)(hg:Gl X x)(hm:X.mg x=some (.ref f))(hk:W.keepIn X.K (.ref f)=true)(hb:bq X.K fd ps [])(ha:PA X (e::es) t)(hdb:(x == ("__debug__":Str))=false:=by decide)(he:starEach (e::es) X.env=(false,eval e X.env)::starEach es X.env:=by rfl)(hpl:(backTo pos (starEach es X.env)).any (·.1)=false:=by rfl):
  PE X (.Call (.Name x p) (e::es) [] pos) (zZ X spf t):=.mk <| by
 intro pins s σ H Q I h;refine zcY (qK I hg hm ?_ hdb);refine W.callWith_K (h₀:=X.base) I.ok.mod.kin hk (thn (ha pos pins s σ H _ I h) fun us s1 ⟨vs,H1,I1,r,q⟩=>⟨I1.kIn,?_⟩) he hpl;obtain⟨b',sub,e0,cb⟩:=I1.grow;have q:=q b' sub cb;have hl:(us++[]).length=ps.length:=by rw[zaM,←r.length];exact(F b').len _ _ _ _ q
 have hbb:=hb s1 us I1.kIn hl;rw[zaM] at hbb;refine wpAny_call (codeAny_mono ((F b').run X.A X.stack s1 H1 ⟨us,[]⟩ us vs Q E0 hr e0 hbb r q) fun r s' hq=>?_)
 cases r with
 |error e=>exact False.elim hq
 |ok fl=>
  cases fl with
  |ret u=>exact I1.after hq
  |next=>exact False.elim hq
  |brk=>exact False.elim hq
  |cont=>exact False.elim hq
end
noncomputable def wY(P:Program)(w:World)(K:W.Frag)(mg:Str->Option Value)(base:Heap)(N:List Str)(qual:Str)(scope:Scope)(f:Addr)(cd:Value)(cl:List (Str×Addr))(A:Around)(outer:List Env)(s:Shared)(H:Hp):Cx where
 prog:=P
 w:=w
 K:=K
 mg:=mg
 base:=base
 A:=A.deeper (W.envX qual scope s.heap.objs.size f cd cl)
 N:=N
 s₀:=s
 H₀:=H
 env:=W.envX qual scope s.heap.objs.size f cd cl
 outer:=outer
 stack:=W.envX qual scope s.heap.objs.size f cd cl::outer
 ex:=[]
 calm:=true
 fn:=fun _=>false
 pn:=[]
 xe:=fun _ _=>False
structure uk(ps cs:List Str)(sc:Scope):Prop where
 kind:sc.kind=.function
 co:sc.isCoroutine=false
 gen:sc.isGenerator=false
 nd:(ps++cs).Nodup
 par:∀x∈ps,sc.names.lookup x=some .local
 free:∀x∈cs,sc.names.lookup x=some .free
 has:∀y∈sc.names,y.2≠.cell/\(y.2=.free->y.1∈cs)
noncomputable def wK(b:Heap)(cl:List (Str×Addr))(cs:List Str)(caps:List V):Prop:=caps.length=cs.length/\(∀x c,cl.lookup x=some c->x∈cs)/\(∀x y c,cl.lookup x=some c->cl.lookup y=some c->x=y) /\
 ∀(j:Nat)(x:Str)(v:V),cs[j]?=some x->caps[j]?=some v->∃c u,cl.lookup x=some c/\b.IsCell c (some u)/\aB v u
theorem nM{α:Type}:∀ {ps:List Str} {us:List α} {i:Nat} {x:Str} {u:α},ps.Nodup->ps[i]?=some x->us[i]?=some u->(ps.zip us).reverse.lookup x=some u:=by
 intro ps
 induction ps with
 |nil=>intro us i x u _ h;simp at h
 |cons p ps ih=>
  intro us i x u nd h1 h2
  cases us with
  |nil=>simp at h2
  |cons w us=>
   obtain⟨n1,n2⟩:=zbZ.mp nd;rw[zdz,zcr,List.lookup_append]
   cases i with
   |zero=>
    simp at h1 h2;subst h1 h2
    have:(ps.zip us).reverse.lookup p=none:=by
     rw[List.lookup_eq_none_iff];intro q hq;rw[List.mem_reverse] at hq;have:=(zds (a:=q.1) (b:=q.2) hq).1;simp only[zdq,ne_eq,bne_iff_ne];intro z;exact n1 (z ▸ this)
    rw[this];simp[List.lookup]
   |succ i=>
    rw[ih n2 (by simpa using h1) (by simpa using h2)]
    rfl
theorem FQ{P:Program}{w:World}{K:W.Frag}{mg:Str->Option Value}{base:Heap}{H₀:Hp}{k:Nat}{f:Addr}{q:Str}{params:Arguments}{body:Expr}{scope:Scope}{cl:List (Str×Addr)}{ps cs:List Str}{caps:List V}{sp:Sp}(L:nY H₀ f q params body scope cl)(S:uk ps cs scope)(C:wK base cl cs caps)(hb:∀(pm:Value)(c:Addr)(ctv:Value)(us:List Value),us.length=ps.length->bindArgs (W.kla_fn "<lambda>" q params body scope cl pm (.ref c) ctv) ⟨us,[]⟩=pure (ps.zip us))(len:∀vs H Q E,sp vs H Q E->vs.length=ps.length)
  (hbody:∀(cd:Value)(A:Around)(outer:List Env)(s:Shared)(H:Hp)(vs:List V)(Q:VK)(E:XK),cw k (A.deeper (W.envX q scope s.heap.objs.size f cd cl))->sp vs H Q E ->
   ∃t,PE (wY P w K mg base (ps++cs) q scope f cd cl A outer s H) body t/\t ((vs++caps).map some) H Q):Clo P w K mg base H₀ (k+1) f ps.length sp:=by
 obtain⟨pm,c,ctv,oc,vc,tc,u1,u2,e1,e2,e3,e4⟩:=L;refine⟨.inl ⟨_,_,_,_,_,e1⟩,len,fun A outer s H us vs Q E hr e0 hF r hsp=>?_⟩;have hl:=len _ _ _ _ hsp;have hlu:us.length=ps.length:=r.length.symm.trans hl;have f1:=(e0.hok _ _ (hF _ _ _ e1)).1;have f2:=(e0.hok _ _ (hF _ _ _ e2)).1;have lim:s.heap.NoLimit:=e0.mod.nolimit.keeps fun b o e=>(e0.bs b o e).1;have nps:ps.Nodup:=S.nd.sublist (List.sublist_append_left _ _)
 refine W.kla_callFunE hr.depth f1 rfl S.co S.gen rfl ⟨c,oc,vc,tc,rfl,f2,e3,e4⟩ ?_;rw[hb pm c ctv us hlu];refine zab (wpAny_newFunctionEnv (fun y hy=>(S.has y hy).1) (fun y hy=>S.par y.1 (zds (a:=y.1) (b:=y.2) hy).1) (fun h₁ hns hsb=>⟨lim.fresh _ hsb,?_⟩) S.kind);show codeAny _ _ (.expr body (W.envX q scope s.heap.objs.size f (.ref c) cl)) _ _;have hk₁:∀b o,s.heap.get? b=some o->h₁.get? b=some o:=fun b o e=>hsb.extBut b o (zaF (zaq e)) (zac _ e)
 obtain⟨c1,c2,c3,c4⟩:=C;obtain⟨t,ht,hq⟩:=hbody (.ref c) A outer s H vs Q E (hr.deeper _) hsp
 have capC:∀x c,cl.lookup x=some c->∃v,base.IsCell c v:=fun x c e=>by
  obtain⟨j,hj⟩:=List.getElem?_of_mem (c2 x c e);have hj2:j<caps.length:=by rw[c1];exact(zav.mp hj).1
  obtain⟨c',u,z1,z2,_⟩:=c4 j x caps[j] hj (zae hj2);rw[e] at z1;cases z1;exact⟨_,z2⟩
 have noA:∀b:Addr,b ∉ (wY P w K mg base (ps++cs) q scope f (.ref c) cl A outer s H).ex:=fun b z=>absurd (show b∈([]:List Addr) from z) (by simp)
 have I:Inv (wY P w K mg base (ps++cs) q scope f (.ref c) cl A outer s H) [] ((vs++caps).map some) H { s with heap:=h₁,toks:=s.toks+(ps.zip us).length }:=by
  refine⟨⟨e0.mod,S.kind,rfl,rfl,zaj _,c3,fun y hy=>?_,fun y c h=>(nomatch h),fun _=>hr.hd,Around.frames_deeper e0.frames,.inr ⟨rfl,rfl⟩,fun b z=>absurd z (noA b),e0.bs,e0.bsz,fun b _ _=>noA b,fun b z=>absurd z (noA b),e0.funs,e0.frf,e0.tt⟩,
   rfl,e0.bare,Un.kept hk₁,⟨_,hns,fun i y v h1 h2 h3=>?_⟩,fun y c h=>?_,e0.hok.fresh (zaj _),fun y c h=>?_,fun p hp=>absurd (show p∈([]:List (Addr×Obj)) from hp) (by simp),e0.hok.kept hk₁,?_⟩
  ·have hy:scope.names.lookup y=some .cell\/scope.names.lookup y=some .free:=hy
   rcases hy with hy|hy
   ·exact absurd rfl (S.has _ (zcd hy)).1
   ·have hm:=(S.has _ (zcd hy)).2 rfl
    obtain⟨j,hj⟩:=List.getElem?_of_mem hm;have hj2:j<caps.length:=by rw[c1];exact(zav.mp hj).1
    obtain⟨c',u,z1,z2,_⟩:=c4 j y caps[j] hj (zae hj2);exact⟨c',z1⟩
  ·have h1:(ps++cs)[i]?=some y:=h1
   rw[zam] at h2
   cases hv:(vs++caps)[i]? with
   |none=>rw[hv] at h2;cases h2
   |some v'=>
    rw[hv] at h2;cases h2;rcases Nat.lt_or_ge i ps.length with hi|hi
    ·rw[zbo hi] at h1
     rw[zbo (by rw[hl];exact hi)] at hv
     obtain⟨u,hu,ru⟩:=r.get hv;exact⟨u,ru,.inl ⟨S.par y (zaz h1),nM nps h1 hu⟩⟩
    ·rw[zcj hi] at h1
     rw[zcj (by rw[hl];exact hi),hl] at hv
     obtain⟨c',u,z1,z2,z3⟩:=c4 _ y v h1 hv;refine⟨u,z3,.inr ⟨.inr (S.free y (zaz h1)),c',z1,?_⟩⟩;obtain⟨o,ho,hd⟩:=z2;exact⟨o,hk₁ _ _ (e0.bs _ _ ho).1,hd⟩
  ·obtain⟨v,o,ho,hd⟩:=capC y c h
   exact⟨v,o,hk₁ _ _ (e0.bs _ _ ho).1,hd⟩
  ·obtain⟨v,o,ho,hd⟩:=capC y c h
   exact(e0.bs _ _ ho).2
  ·show ((vs++caps).map some).length=(ps++cs).length
   rw[zaA,zaw,zaw,hl,c1]
 refine W.kla_codeExpr (zbi (ht [] _ _ H _ I hq) (fun v s' ⟨v',H',J,rv,q'⟩=>?_) fun e s' hs=>False.elim hs);exact⟨v',H',J.os,J.bare,J.base,J.hok,rv,q'⟩
structure zg(K:W.Frag)(x qual:Str)(st:Stmt)(f:Addr)(fd:FuncData)(c p:Addr):Prop where
 ex:∃(oc:Value)(od:Option Addr)(kV doc pm:Value)(an:Option Addr)(ct:Value) (osl:Array (Option Value)),
  fd=W.fnOf x qual (defArgs st) (defBody st) (defScope st) .none kV doc pm an (.ref c) ct/\K.lookup f=some ⟨oc,od,.func fd,osl⟩/\W.codeIn K (.ref c) qual=true
 tab:(x,c,p)∈iY K
 hd:yU K c p=true
theorem zg.ok{P:Program}{w:World}{K:W.Frag}{mg:Str->Option Value}{base:Heap}{x qual:Str}{st:Stmt}{f c p:Addr}{fd:FuncData}{N ps:List Str}{k:Nat}{sp:Sp}(F:zg K x qual st f fd c p)(S:aK N ps (defScope st))(len:∀vs H Q E,sp vs H Q E->vs.length=ps.length)
  (hbody:∀(A:Around)(outer:List Env)(s:Shared)(H:Hp)(vs:List V)(Q:VK)(E:XK),cw k (A.deeper (envOfC qual (defScope st) s.heap.objs.size f (.ref c)))->sp vs H Q E ->
   ∃t,PSs (oJ CX0 P w K mg base N qual (defScope st) f (.ref c) A outer s H E).nox (defBody st) t/\t { nx:=fun _ H'=>Q .non H',rt:=Q } (start N vs) H):a7 P w K mg base CX0 (k+1) f fd ps sp:=by
 obtain⟨oc,od,kV,doc,pm,an,ct,osl,rfl,lk,hcd⟩:=F.ex;refine Fj lk hcd S len fun A outer s H vs Q E hr hsp=>?_;obtain⟨t,h,q⟩:=hbody A outer s H vs Q E hr hsp;exact⟨t,h.nox,q⟩
theorem D8{K:W.Frag}{x qual:Str}{st:Stmt}{f c p:Addr}{oc:Value}{od an:Option Addr}{osl:Array (Option Value)}{kV doc pm cdv ct:Value}(l:K.lookup f=some ⟨oc,od,.func (W.fnOf x qual (defArgs st) (defBody st) (defScope st) .none kV doc pm an cdv ct),osl⟩)(hc:W.codeIn K cdv qual=true)(e:cdv=.ref c)(t:(iY K).contains (x,c,p)=true)(h:yU K c p=true):zg K x qual st f (W.fnOf x qual (defArgs st) (defBody st) (defScope st) .none kV doc pm an cdv ct) c p:=by
 subst e;exact⟨⟨oc,od,kV,doc,pm,an,ct,osl,rfl,l,hc⟩,by simpa using t,h⟩
noncomputable def ndB:List Nat->Bool
 | []=>true
 |a::r=>!(r.contains a) && ndB r
theorem xX{α:Type}(f:α->Nat):∀ {l:List α} {q:α},ndB (l.map f)=true->q∈l->l.find? (fun t=>f t == f q)=some q
 | [],_,_,m=>nomatch m
 |a::r,q,h,m=>by
  rw[zah,ndB,zax] at h;obtain⟨h1,h2⟩:=h;rcases zay.mp m with e|m
  ·subst e
   rw[List.find?_cons_of_pos (by simp)]
  ·have ne:(f a == f q)=false:=by
    cases z:f a == f q with
    |false=>rfl
    |true=>
     have z':f a=f q:=eq_of_beq z
     have:(r.map f).contains (f a)=true:=by
      rw[z'];simpa using⟨q,m,rfl⟩
     rw[this] at h1;cases h1
   rw[List.find?_cons_of_neg (by rw[ne];simp)]
   exact xX f h2 m
noncomputable def oE(K:W.Frag)(b:Addr):Option HO:=((iY K).find? fun t=>t.2.2 == b).map fun t=>HO.tbl #[.str (t.1 ++ ".<locals>." ++ "<lambda>") 0]
theorem mw{K:W.Frag}{b:Addr}{o:HO}(e:oE K b=some o):∃t∈iY K,t.2.2=b/\o=HO.tbl #[.str (t.1 ++ ".<locals>." ++ "<lambda>") 0]:=by
 unfold oE at e
 cases q:(iY K).find? (fun t=>t.2.2 == b) with
 |none=>rw[q] at e;cases e
 |some t=>
  rw[q] at e;cases e;have:=List.find?_some q;exact⟨t,List.mem_of_find?_eq_some q,eq_of_beq this,rfl⟩
noncomputable def BF(K:W.Frag)(names:List Str):Bool:=W.noTabs K && ndB ((iY K).map fun t=>t.2.2) && (iY K).all fun t=>names.contains t.1
set_option tactic.hygienic true in
theorem DD{K:W.Frag}{t:Str×Addr×Addr}(h:t∈iY K):W.tabIn K t.1=some t.2:=by
 unfold iY at h;split at h
 ·obtain⟨e,_,q⟩:=List.mem_filterMap.mp h
  split at q
  ·rename_i x tk hx
   cases z:W.tabIn K x with
   |none=>rw[z] at q;cases q
   |some r=>rw[z] at q;cases q;exact z
  ·cases q
 ·cases h
theorem y6{P:Program}{w:World}{K:W.Frag}{mg mb:Str->Option Value}{CX:CXT}{k:Nat}{fa a:Addr}{fd:FuncData}{x:Str}{sp:Sp}{s₁:Shared}{vs:List Value}{ns:List Int}(KX:K.In s₁.heap)(hns:s₁.heap.Ns mainGlobals mg)(hb:s₁.heap.Ns builtinsNs mb)(hbb:∀x:Str,x≠"__name__"->mb x=bootBuiltins x)(hlim:s₁.heap.NoLimit)(hg:s₁.gens=#[])(hbm:∃bm ob,mg "__builtins__"=some (.ref bm)/\bm≠builtinsNs/\s₁.heap.get? bm=some ob/\ob.cls=.type "module"/\ob.dict=some builtinsNs/\ob.data=.plain)(hT:∀t∈iY K,W.CodeHd s₁.heap t.2.1 t.2.2/\s₁.heap.get? t.2.2=some (W.tabObj #[]))(nt:W.noTabs K=true)(nd:ndB ((iY K).map fun t=>t.2.2)=true)(ha:s₁.heap.get? a=some { cls:=.type "list",data:=.seq vs.toArray })(hi:IntsAre vs ns)(hl:ns.length<=sizeLine)(hr:cw k callerA)(F:∀base:Heap,a7 P w K mg base CX k fa fd [x] sp)(hbind:∀(s:Shared)(u:Value),BindsTo s fd ⟨[u],[]⟩ [(x,u)])(hsp:∀H:Hp,SqL K H a (ns.map V.int)->sp [.ref a] H (fun v _=>v=.bl true) fun _ _ _=>False)(hCX:∀H e s',CX [] H s₁ (fun _ _ _=>False) e s'->False):
  codeAny (model P w) callerA (.call (.ref fa) ⟨[.ref a],[]⟩) (fun r s'=>r=.ok (.ret (.bool true))/\OldK s₁.heap s'.heap/\s'.os=s₁.os/\AllBare s'.gens) s₁:=by
 have rv:=ph hi;have lenV:=hi.length
 have tabNot:∀b o,K.lookup b=some o->oE K b=none:=fun b o e=>by
  cases q:oE K b with
  |none=>rfl
  |some u=>
   obtain⟨t,ht,rfl,_⟩:=mw q;have e1:=(hT t ht).2;rw[KX _ _ e] at e1;cases e1;have h2:=zaB.mp nt _ (W.mem_of_lookupK e);exact absurd (show false=true from h2) zat
 have tabA:oE K a=none:=by
  cases q:oE K a with
  |none=>rfl
  |some u=>
   obtain⟨t,ht,e,_⟩:=mw q;have e1:=(hT t ht).2;rw[e,ha] at e1;cases e1
 have core:∀H:Hp,(∀b,b≠a->H b=oE K b)->(H a=none\/(K.lookup a=none/\H a=some (.frz { cls:=.type "list",data:=.seq vs.toArray } (.lst (ns.map V.int)))))->SqL K H a (ns.map V.int) ->
   codeAny (model P w) callerA (.call (.ref fa) ⟨[.ref a],[]⟩) (fun r s'=>r=.ok (.ret (.bool true))/\OldK s₁.heap s'.heap/\s'.os=s₁.os/\AllBare s'.gens) s₁:=by
  intro H hH hA hS
  have what:∀b u,H b=some u->(b=a/\K.lookup a=none/\u=.frz { cls:=.type "list",data:=.seq vs.toArray } (.lst (ns.map V.int)))\/∃t∈iY K,t.2.2=b/\u=HO.tbl #[.str (t.1 ++ ".<locals>." ++ "<lambda>") 0]:=fun b u e=>by
   by_cases hb:b=a
   ·subst hb
    rcases hA with z|⟨z1,z2⟩
    ·rw[z] at e;cases e
    ·rw[z2] at e;cases e
     exact .inl ⟨rfl,z1,rfl⟩
   ·rw[hH b hb] at e
    exact .inr (mw e)
  have hok:HOk P w H s₁.heap:=fun b u e=>by
   rcases what b u e with⟨rfl,_,rfl⟩|⟨t,ht,rfl,rfl⟩
   ·exact⟨ha,by rw[zaA];exact hl,vs,_,rv,ha⟩
   ·exact⟨#[],(hT t ht).2,trivial,fun pos cv q=>by cases q⟩
  have tt:yQ K H:=fun t ht=>by
   refine⟨#[.str (t.1 ++ ".<locals>." ++ "<lambda>") 0],?_,rfl⟩
   have ne:t.2.2≠a:=fun z=>by
    have e1:=(hT t ht).2;rw[z,ha] at e1;cases e1
   rw[hH _ ne];unfold oE;rw[xX (fun t:Str×Addr×Addr=>t.2.2) nd ht];rfl
  have base_of:∀ {b:Addr} {o:Obj},s₁.heap.get? b=some o->H b=none->(qX s₁.heap H).get? b=some o:=fun e n=>CI e n
  have freeB:∀ {b:Addr} {o:Obj},s₁.heap.get? b=some o->o.cls≠.none->o.cls≠.type "list"->H b=none:=fun {b o} e c1 c2=>by
   cases q:H b with
   |none=>rfl
   |some u=>
    rcases what b u q with⟨rfl,_,_⟩|⟨t,ht,rfl,_⟩
    ·rw[ha] at e;cases e;exact absurd rfl c2
    ·rw[(hT t ht).2] at e;cases e;exact absurd rfl c1
  have noD:∀ {b:Addr} {o:Obj} {es:Array DictEntry} {ep:Nat},s₁.heap.get? b=some o->o.data=.dict es ep->H b=none:=fun {b o es ep} e d=>by
   cases q:H b with
   |none=>rfl
   |some u=>
    rcases what b u q with⟨rfl,_,_⟩|⟨t,ht,rfl,_⟩
    ·rw[ha] at e;cases e;cases d
    ·rw[(hT t ht).2] at e;cases e;cases d
  have nsK:∀ {b:Addr} {m:Str->Option Value},s₁.heap.Ns b m->(qX s₁.heap H).Ns b m:=fun {b m} ⟨o,es,ep,e,d,r⟩=>⟨o,es,ep,base_of e (noD e d),d,r⟩
  have hKb : K.In (qX s₁.heap H):=fun b o e=>base_of (KX b o e) (by
   cases q:H b with
   |none=>rfl
   |some u=>
    by_cases hb:b=a
    ·subst hb
     rcases hA with z|⟨z1,_⟩
     ·rw[z] at q;cases q
     ·rw[e] at z1;cases z1
    ·rw[hH b hb,tabNot b o e] at q;cases q)
  have hM:Mod K mg (qX s₁.heap H):=⟨hKb,nsK hns,⟨mb,nsK hb,hbb⟩,let ⟨mc,h1,h2⟩:=hlim;⟨mc,nsK h1,h2⟩,
   let ⟨bm,ob,b1,b2,b3,b4,b5,b6⟩:=hbm;⟨bm,ob,b1,b2,base_of b3 (freeB b3 (by rw[b4];nofun) (by rw[b4];decide)),b4,b5,b6⟩⟩
  have e0:tS P w K mg (qX s₁.heap H) callerA [] s₁ H:=⟨rfl,hM,fun b o e=>DP e,Nat.le_of_eq (zr _ _),trivial,fun b hb=>absurd (show b∈([]:List Addr) from hb) (by simp),tt,hok,.of_eq hg⟩
  refine codeAny_mono ((F _).run callerA [] s₁ H ⟨[.ref a],[]⟩ [.ref a] [.ref a] _ _ hr e0 (hbind s₁ (.ref a)) (.cons rfl .nil) (hsp H hS)) fun r s' h=>?_
  cases r with
  |error e=>exact(hCX H e s' h).elim
  |ok fl=>
   cases fl with
   |next=>exact False.elim h
   |brk=>exact False.elim h
   |cont=>exact False.elim h
   |ret u=>
    obtain⟨v,H',os,bare,un,hok',r',q⟩:=h;have q':v=.bl true:=q;subst q';obtain rfl:u=Value.bool true:=r';refine⟨rfl,⟨fun b o e=>?_,fun b o e=>un.there b o e (by simp)⟩,os,bare⟩
    cases q:H b with
    |none=>exact .inl (un.keep b o e q (by intro z;exact absurd (show b∈([]:List Addr) from z) (by simp)) (by simp))
    |some u=>
     rcases what b u q with⟨rfl,_,rfl⟩|⟨t,ht,rfl,rfl⟩
     ·have z2:=un.frzs _ _ _ q
      obtain⟨e1,_⟩:=hok _ _ q;obtain⟨e2,_⟩:=hok' _ _ z2;rw[e] at e1;cases e1;exact .inl e2
     ·obtain⟨more,z2⟩:=un.tbls _ _ q
      obtain⟨qs,e2,_⟩:=hok' _ _ z2;have e1:=(hT t ht).2;rw[e] at e1;obtain rfl:=zbj e1;exact .inr (.inl ⟨((hT t ht).1.tab (hT t ht).2).isCodeTable,rfl,#[],qs,rfl,by rw[Array.empty_append];exact e2⟩)
 cases hk:K.lookup a with
 |some o=>
  have e:=KX a o hk;rw[ha] at e;cases e;exact core (fun b=>oE K b) (fun _ _=>rfl) (.inl tabA) (.inr ⟨_,vs.toArray,_,hk,rfl,rfl,rfl,by rw[zao,lenV];exact hl,by simpa using rv⟩)
 |none=>
  refine core (fun b=>if b=a then some (.frz { cls:=.type "list",data:=.seq vs.toArray } (.lst (ns.map V.int))) else oE K b) (fun b hb=>zad hb) (.inr ⟨hk,zaf rfl⟩) (.inl (.inr ⟨_,zaf rfl⟩))
theorem zH{l:W.OpenLaw}{n k:Nat}{q:Program}{loose:List Str}{XP:(Str->Option Value)->Heap->Prop}{YP:World->Heap->Prop}{d:DefRec}{K:Params->W.Frag}{CX:CXT}{sp:W.Frag->Sp}{x:Str}(hn:l.most=some n)(hn2:n<=sizeLine)(hdf:d.params.defaults=[])(hr:cw k callerA)(hY:∀(w:World)(h:Heap),YP w h->(K w.params).In h)(tabs:∀w:World,BF (K w.params) ((recsOf q).map (·.name))=true)
  (F:∀(w:World)(mg:Str->Option Value)(fa:Addr)(h:Heap),(K w.params).In h->h.Ns mainGlobals mg->mg d.name=some (.ref fa) ->
   ∃fd:FuncData,(∀(s:Shared)(u:Value),BindsTo s fd ⟨[u],[]⟩ [(x,u)])/\∀base:Heap,a7 l.prog w (K w.params) mg base CX k fa fd [x] (sp (K w.params)))
  (hsp:∀(K:W.Frag)(H:Hp)(a:Addr)(ns:List Int),ns.length<=n->IX H->SqL K H a (ns.map V.int)->sp K [.ref a] H (fun v _=>v=.bl true) fun _ _ _=>False)
  (hCX:∀(H:Hp)(s:Shared)(e:Value)(s':Shared),CX [] H s (fun _ _ _=>False) e s'->False) :
  W.WalkO q loose XP YP l.row.toRowW d [] (fun f vs=>PySem.call f vs):=by
 refine Att.ut hn hdf fun w s₀ s₁ mg mb fa o pm cd doc a vs ns G Y ho hd hcd hmg hobj hints hlen hg=>?_;have KX:=hY w _ Y;have tb:=tabs w;unfold BF at tb;rw[zax,zax] at tb;obtain⟨⟨t1,t2⟩,t3⟩:=tb;obtain⟨fd,hb,hF⟩:=F w mg fa _ KX G.T.g hmg;refine y6 KX G.T.g G.T.b G.T.builtins G.T.nolimit hg G.T.bmain (fun t ht=>?_) t1 t2 hobj hints (zaN hlen hn2) hr hF hb (fun H hS=>hsp _ H a ns hlen trivial hS) fun H e s'=>hCX H s₁ e s'
 have hc:=zaB.mp t3 t ht;have hm:t.1∈(recsOf q).map (·.name):=by simpa using hc
 obtain⟨r,hr1,hr2⟩:=zal.mp hm
 cases z:(recsOf q).find? (fun e=>e.name == t.1) with
 |none=>
  have:=List.find?_eq_none.mp z r hr1;rw[hr2] at this;simp at this
 |some d'=>exact W.tab_of G.T KX z (DD ht)
end L2
namespace L2
open PySem PySem.Spec PySem.Calls PyProof.Rows
open AutoSeq1 (wpAny_loadPart')
section
variable{prog:Program}{w:World}{A:Around}{E:Value->Shared->Prop}{S:Shared}
theorem uV{j t:Addr}{k:Nat}{its:Array Value}{v:Value}{Q:Value->Shared->Prop}(hj:S.heap.IsTupleIter j t k)(ht:S.heap.IsTuple t its)(hv:its[k]?=some v)(hQ:∀h1,h1.IsTupleIter j t (k+1)->Heap.SameBut j S.heap h1->Q v { S with heap:=h1 }):wpAny (model prog w) A (Builtin.SmallTypes.nextOf (.ref j)) Q E S:=by
 obtain⟨oj,hoj,hcj,hdj⟩:=id hj;obtain⟨ot,hot,_,nt,hdt⟩:=ht;unfold Builtin.SmallTypes.nextOf;refine zaa (zbx (name:=Str.ofString "__next__") hj.typeIs zcD (zbt zcD hj.typeIs F.entry_tuple_iterator_next ?_ (F.args_tuple_iterator_next_1 _)));show wpAny _ _ (field (.ref j) 0 >>= _) _ _ S;refine zaa (zbH hoj hdj (x:=.ref t) rfl ?_)
 show wpAny _ _ (if (Value.ref t == Value.none)=true then _ else _) _ _ S
 rw[zad (show ¬ (Value.ref t == Value.none)=true by intro z;cases z)]
 show wpAny _ _ (field (.ref j) 1 >>= _) _ _ S;refine zaa (zbH hoj hdj (x:=.int k 0) rfl ?_);show wpAny _ _ (seqItems? (.ref t) >>= _) _ _ S;refine zaa (zbr hot hdt ?_);simp only[zba,hv];refine zaa (wpAny_setField hoj hdj (by simp) (zab ⟨v,rfl,zab (hQ _ ?_ (zcg ..))⟩))
 refine⟨_,zbP _ hoj (Obj.isFreed_of_fields (Obj.data_mapFields hdj _)),(Obj.cls_mapFields ..).trans hcj,?_⟩;rw[Obj.data_mapFields hdj];simp[rawInt]
theorem yZ{j t:Addr}{k:Nat}{its:Array Value}{Q:Value->Shared->Prop}(hh:A.handled=none)(hj:S.heap.IsTupleIter j t k)(ht:S.heap.IsTuple t its)(hv:its[k]?=none)(hE:∀h1 e,Heap.ExtBut j S.heap h1->(∃o,h1.get? e=some o/\o.cls=.type "StopIteration")->E (.ref e) { S with heap:=h1 }):wpAny (model prog w) A (Builtin.SmallTypes.nextOf (.ref j)) Q E S:=by
 obtain⟨oj,hoj,hcj,hdj⟩:=id hj;obtain⟨ot,hot,_,nt,hdt⟩:=ht;unfold Builtin.SmallTypes.nextOf;refine zaa (zbx (name:=Str.ofString "__next__") hj.typeIs zcD (zbt zcD hj.typeIs F.entry_tuple_iterator_next ?_ (F.args_tuple_iterator_next_1 _)));show wpAny _ _ (field (.ref j) 0 >>= _) _ _ S;refine zaa (zbH hoj hdj (x:=.ref t) rfl ?_)
 show wpAny _ _ (if (Value.ref t == Value.none)=true then _ else _) _ _ S
 rw[zad (show ¬ (Value.ref t == Value.none)=true by intro z;cases z)]
 show wpAny _ _ (field (.ref j) 1 >>= _) _ _ S;refine zaa (zbH hoj hdj (x:=.int k 0) rfl ?_);show wpAny _ _ (seqItems? (.ref t) >>= _) _ _ S;refine zaa (zbr hot hdt ?_);simp only[zba,hv];refine zaa (zbF (zaa (wpAny_setField hoj hdj (by simp) ?_)))
 show wpAny _ _ (newExc (Value.type "StopIteration") [] >>= _) _ _ _;refine zaa ?_;simp only[newTuple,newExc];refine zaa (zbv ?_ (by size_fits))
 refine zaa (m:=firstArgMember _ _) (zco (a:=Value.none) (by first|rfl|(unfold firstArgMember;rfl)) ?_)
 refine zbv ?_ (hd:=by size_fits)
 unfold raiseNew;refine zaa (wpAny_handled ?_)
 first|rw[show A.in1.handled=none from hh]|rw[hh]
 refine zaa (zab (wpAny_throw (hE _ _ ?_ ⟨_,zan _ rfl,rfl⟩)));exact((zcg ..).extBut.push _).push _
set_option maxHeartbeats 2000000 in
end
theorem Inv.K4{X:Cx}{pins:List (Addr×Obj)}{σ:St}{H:Hp}{s:Shared}{h':Heap}{tk:Nat}{ch:List Addr}{T:Addr}{o:HO}(I:Inv X pins σ H s)(hch:∀b∈ch,fM X pins H b)(k:∀b ob,b ∉ ch->s.heap.get? b=some ob->h'.get? b=some ob)(hT:s.heap.objs.size<=T)(new:bb X.prog X.w (upd H T o) h' T o):Inv X pins σ (upd H T o) { s with heap:=h',toks:=tk }:=by
 have hn:=I.hok.fresh hT;have nc:∀b u,H b=some u->b ∉ ch:=fun b u e hb=>by rw[(hch b hb).1] at e;cases e
 have nT:∀b u,H b=some u->b≠T:=fun b u e=>av e hn;have lT:∀b ob,s.heap.get? b=some ob->b≠T:=fun b ob e=>zaF (zaD (zaq e) hT)
 refine I.step (g':=s.gens) (d':=s.drawn) (ch:=ch) (fun b hb=>?_) (fun b ob _ _ hc e _=>k b ob hc e) (fun b ob _ _ hc e _=>⟨ob.slots,k b ob hc e⟩) (fun b ob _ e n=>by rw[ah (lT b ob e)];exact n)
  (fun b ob hc e=>⟨ob,k b ob hc e⟩) (fun b xs e=>by rw[ah (nT b _ e)];exact e) (fun b ob u e=>by rw[ah (nT b _ e)];exact e) (fun b ps e=>⟨#[],by rw[ah (nT b _ e),e];simp⟩) (fun m hm=>?_) (fun b u e=>?_) I.bare
 ·obtain⟨f0,f1,f2,f3,f4,f5⟩:=hch b hb
  exact⟨f3,f1,f4,f5⟩
 ·obtain⟨ob,es,ep,ho,r⟩:=hm
  exact⟨ob,es,ep,k _ ob (fun z=>(hch _ z).2.1 rfl) ho,r⟩
 ·by_cases hb:b=T
  ·subst hb;rw[aN] at e;cases e;exact new
  ·rw[ah hb] at e
   refine(I.hok b u e).stay (fun c v hc q=>k c v ?_ q) (fun c q=>by rw[ah (nT c _ q)];exact q) (fun c xs q=>by rw[ah (nT c _ q)];exact q) fun c ob u' q=>by rw[ah (nT c _ q)];exact q
   rcases hc with rfl|hc
   ·exact nc _ _ e
   ·exact nc _ _ hc
theorem Inv.K5{X:Cx}{pins:List (Addr×Obj)}{σ:St}{H:Hp}{s:Shared}{h':Heap}{tk:Nat}{ch:List Addr}(I:Inv X pins σ H s)(hch:∀b∈ch,fM X pins H b)(k:∀b ob,b ∉ ch->s.heap.get? b=some ob->h'.get? b=some ob):Inv X pins σ H { s with heap:=h',toks:=tk }:=by
 have nc:∀b u,H b=some u->b ∉ ch:=fun b u e hb=>by rw[(hch b hb).1] at e;cases e
 refine I.step (g':=s.gens) (d':=s.drawn) (ch:=ch) (fun b hb=>?_) (fun b ob _ _ hc e _=>k b ob hc e) (fun b ob _ _ hc e _=>⟨ob.slots,k b ob hc e⟩) (fun b ob _ e n=>n)
  (fun b ob hc e=>⟨ob,k b ob hc e⟩) (fun b xs e=>e) (fun b ob u e=>e) (fun b ps e=>⟨#[],by rw[e];simp⟩) (fun m hm=>?_) (fun b u e=>?_) I.bare
 ·obtain⟨f0,f1,f2,f3,f4,f5⟩:=hch b hb
  exact⟨f3,f1,f4,f5⟩
 ·obtain⟨ob,es,ep,ho,r⟩:=hm
  exact⟨ob,es,ep,k _ ob (fun z=>(hch _ z).2.1 rfl) ho,r⟩
 ·refine(I.hok b u e).stay (fun c v hc q=>k c v ?_ q) (fun c q=>q) (fun c xs q=>q) fun c ob u' q=>q
  rcases hc with rfl|hc
  ·exact nc _ _ e
  ·exact nc _ _ hc
end L2
namespace L2
open PySem PySem.Spec PySem.Calls PyProof.Rows
structure Src(prog:Program)(w:World)(A:Around)(j q:Addr)(its:Array Value)(It1:Nat->Heap->Prop)(Sq1:Heap->Prop):Prop where
 item:∀(n:Nat)(v:Value)(S:Shared)(Q:Value->Shared->Prop)(E:Value->Shared->Prop),It1 n S.heap->Sq1 S.heap->its[n]?=some v->(∀h1,It1 (n+1) h1->Heap.SameBut j S.heap h1->Q v { S with heap:=h1 })->wpAny (model prog w) A (Builtin.SmallTypes.nextOf (.ref j)) Q E S
 stop:∀(n:Nat)(S:Shared)(Q:Value->Shared->Prop)(E:Value->Shared->Prop),It1 n S.heap->Sq1 S.heap->its[n]?=none->(∀h1 e,Heap.ExtBut j S.heap h1->(∃o,h1.get? e=some o/\o.cls=.type "StopIteration")->E (.ref e) { S with heap:=h1 })->wpAny (model prog w) A (Builtin.SmallTypes.nextOf (.ref j)) Q E S
 mv:∀(n:Nat)(h h1:Heap),It1 n h->(∀o,h.get? j=some o->h1.get? j=some o)->It1 n h1
 sv:∀(h h1:Heap),Sq1 h->(∀o,h.get? q=some o->h1.get? q=some o)->Sq1 h1
 live:∀(n:Nat)(h:Heap),It1 n h->∃o vs,h.get? j=some o/\o.data=.fields vs
theorem J2{prog:Program}{w:World}{A:Around}(hh:A.handled=none)(j q:Addr)(its:Array Value):Src prog w A j q its (fun n h=>h.IsTupleIter j q n) (fun h=>h.IsTuple q its):=
 ⟨fun n v S Q E a b c d=>uV a b c d,fun n S Q E a b c d=>yZ hh a b c d,fun n h h1 a k=>a.at k,fun h h1 a k=>let ⟨o,e,r⟩:=a;⟨o,k o e,r⟩,fun n h a=>let ⟨o,e,_,d⟩:=a;⟨o,_,e,d⟩⟩
theorem JW{prog:Program}{w:World}{A:Around}(hh:A.handled=none)(j q:Addr)(its:Array Value):Src prog w A j q its (fun n h=>h.IsListIter j q n) (fun h=>h.IsList q its):=
 ⟨fun n v S Q E a b c d=>wpAny_nextOf_list_item a b c d,fun n S Q E a b c d=>wpAny_nextOf_list_end hh a b c d,fun n h h1 a k=>a.at k,fun h h1 a k=>let ⟨o,e,r⟩:=a;⟨o,k o e,r⟩,fun n h a=>let ⟨o,e,_,d⟩:=a;⟨o,_,e,d⟩⟩
section
variable{prog:Program}{w:World}{A:Around}{E:Value->Shared->Prop}{S:Shared}{z u o i j p q:Addr}{m n:Nat}{xs ys:Array Value}{x y a b:Value}{Ii Ij:Nat->Heap->Prop}{Sp Sq:Heap->Prop}
theorem yO{Q:Value->Shared->Prop}(D:ZipApart z u o i j p q)(Gi:Src prog w A i p xs Ii Sp)(Gj:Src prog w A j q ys Ij Sq)(hz:IsZip S.heap z u o .none)(hu:IsPair S.heap u (.ref i) (.ref j))(ho:IsPair S.heap o a b)(hi:Ii m S.heap)(hj:Ij n S.heap)(hp:Sp S.heap)(hq:Sq S.heap)(hx:xs[m]?=some x)(hy:ys[n]?=some y)(hQ:∀h1,IsZip h1 z u o (rawInt S.heap.objs.size)->IsPair h1 o x y->Ii (m+1) h1->Ij (n+1) h1->IsPair h1 S.heap.objs.size x y->(∀c ob,c≠z->c≠o->c≠i->c≠j->S.heap.get? c=some ob->h1.get? c=some ob)->Q (.ref S.heap.objs.size) { S with heap:=h1 }):
  wpAny (model prog w) A (Builtin.«zip.__next__» ⟨[.ref z],[]⟩) (fun fin s1=>∃v,fin=.done (.ret v)/\Q v s1) E S:=by
 show wpAny _ _ (field (.ref z) 2 >>= _) _ _ S;refine zaa (zbH hz (x:=.bool false) rfl rfl ?_);show wpAny _ _ (field (.ref z) 3 >>= _) _ _ S;refine zaa (zbH hz (x:=.ref u) rfl rfl ?_);refine zaa (zbr hu rfl ?_);show wpAny _ _ (Builtin.SmallTypes.ownedTupleIsFree (.ref z) >>= _) _ _ S;refine zaa ?_;unfold Builtin.SmallTypes.ownedTupleIsFree;refine zaa (zbH hz (x:=.none) rfl rfl (zab ?_))
 simp only[zaX];refine zaa (zbF (zaa (zbH hz (x:=.ref o) rfl rfl ?_)));refine zaa (zcy hz (by simp) fun k1 z1 b1=>?_)
 replace z1:IsZip k1 z u o .ellipsis:=z1
 refine zaa ?_;simp only[List.zipIdx_cons,List.forIn_cons,List.zipIdx_nil,List.forIn_nil];refine zaa (zaa (wpAny_onRaise ?_));show wpAny _ _ (Builtin.SmallTypes.nextOf (.ref i) >>= _) _ _ _;refine zaa (Gi.item m x _ _ _ (Gi.mv _ _ _ hi fun ob e=>b1.extBut _ _ D.i1z e) (Gi.sv _ _ hp fun ob e=>b1.extBut _ _ D.l1z e) hx fun k2 i2 b2=>zab ?_);have o2:IsPair k2 o a b:=b2.extBut _ _ D.TOi1 (b1.extBut _ _ D.TOz ho)
 refine zaa (zbr o2 rfl ?_);refine zaa (wpAny_updateSeq_pair o2 fun k3 o3 b3=>?_)
 replace o3:IsPair k3 o x b:=o3
 refine zaa (wpAny_letGo (zab ?_));refine zaa (zaa (wpAny_onRaise ?_));show wpAny _ _ (Builtin.SmallTypes.nextOf (.ref j) >>= _) _ _ _;refine zaa (Gj.item n y _ _ _ (Gj.mv _ _ _ hj fun ob e=>b3.extBut _ _ D.TOi2.symm (b2.extBut _ _ D.i12.symm (b1.extBut _ _ D.i2z e))) (Gj.sv _ _ hq fun ob e=>b3.extBut _ _ D.l2TO (b2.extBut _ _ D.l2i1 (b1.extBut _ _ D.l2z e))) hy fun k4 j4 b4=>zab ?_)
 have o4:IsPair k4 o x b:=b4.extBut _ _ D.TOi2 o3;refine zaa (zbr o4 rfl ?_);refine zaa (wpAny_updateSeq_pair o4 fun k5 o5 b5=>?_)
 replace o5:IsPair k5 o x y:=o5
 refine zaa (wpAny_letGo (zab (zab ?_)));refine zaa (zbr o5 rfl (zaa (wpAny_newTuple ?_)));have hsz:k5.objs.size=S.heap.objs.size:=by rw[b5.1,b4.1,b3.1,b2.1,b1.1]
 have z5:IsZip k5 z u o .ellipsis:=b5.extBut _ _ D.TOz.symm (b4.extBut _ _ D.i2z.symm (b3.extBut _ _ D.TOz.symm (b2.extBut _ _ D.i1z.symm z1)));have all5:∀c ob,c≠z->c≠o->c≠i->c≠j->S.heap.get? c=some ob->k5.get? c=some ob:=fun c ob c1 c2 c3 c4 e=>b5.extBut _ _ c2 (b4.extBut _ _ c4 (b3.extBut _ _ c2 (b2.extBut _ _ c3 (b1.extBut _ _ c1 e))));have i5:Ii (m+1) k5:=Gi.mv _ _ _ i2 fun ob e=>b5.extBut _ _ D.TOi1.symm (b4.extBut _ _ D.i12 (b3.extBut _ _ D.TOi1.symm e))
 have j5:Ij (n+1) k5:=Gj.mv _ _ _ j4 fun ob e=>b5.extBut _ _ D.TOi2.symm e;have zlt:z<k5.objs.size:=zaq z5;show wpAny _ _ (Builtin.SmallTypes.ownedTupleHandOut (.ref z) (.ref k5.objs.size) >>= _) _ _ _;refine zaa ?_;unfold Builtin.SmallTypes.ownedTupleHandOut;have z6:IsZip (k5.push { cls:=.type "tuple",data:=.seq #[x,y] }) z u o .ellipsis:=zac _ z5;refine zaa (zcy z6 (by simp) fun k7 z7 b7=>?_)
 replace z7:IsZip k7 z u o (rawInt k5.objs.size):=z7
 refine zcy z7 (by simp) fun k8 z8 b8=>?_
 replace z8:IsZip k8 z u o (rawInt k5.objs.size):=z8
 have up:∀c ob,c≠z->k5.get? c=some ob->k8.get? c=some ob:=fun c ob c1 e=>b8.extBut _ _ c1 (b7.extBut _ _ c1 (zac _ e));have t8:IsPair k8 k5.objs.size x y:=b8.extBut _ _ (zdf zlt) (b7.extBut _ _ (zdf zlt) (zan _ rfl));rw[hsz] at z8 t8;refine zab ⟨_,rfl,?_⟩;show Q (.ref k5.objs.size) _;rw[hsz];exact hQ k8 z8 (up _ _ D.TOz o5) (Gi.mv _ _ _ i5 fun ob e=>up _ ob D.i1z e) (Gj.mv _ _ _ j5 fun ob e=>up _ ob D.i2z e) t8 fun c ob c1 c2 c3 c4 e=>up c ob c1 (all5 c ob c1 c2 c3 c4 e)
theorem Cf{Q:Fin->Shared->Prop}(D:ZipApart z u o i j p q)(Gi:Src prog w A i p xs Ii Sp)(Gj:Src prog w A j q ys Ij Sq)(hz:IsZip S.heap z u o .none)(hu:IsPair S.heap u (.ref i) (.ref j))(ho:IsPair S.heap o a b)(hi:Ii m S.heap)(hj:Ij n S.heap)(hp:Sp S.heap)(hq:Sq S.heap)(he:xs[m]?=none\/ys[n]?=none)(hE:∀h1 e,(∀c ob,c≠z->c≠o->c≠i->c≠j->S.heap.get? c=some ob->h1.get? c=some ob)->(∃ob,h1.get? e=some ob/\ob.cls=.type "StopIteration")->E (.ref e) { S with heap:=h1 }):
  wpAny (model prog w) A (Builtin.«zip.__next__» ⟨[.ref z],[]⟩) Q E S:=by
 show wpAny _ _ (field (.ref z) 2 >>= _) _ _ S;refine zaa (zbH hz (x:=.bool false) rfl rfl ?_);show wpAny _ _ (field (.ref z) 3 >>= _) _ _ S;refine zaa (zbH hz (x:=.ref u) rfl rfl ?_);refine zaa (zbr hu rfl ?_);show wpAny _ _ (Builtin.SmallTypes.ownedTupleIsFree (.ref z) >>= _) _ _ S;refine zaa ?_;unfold Builtin.SmallTypes.ownedTupleIsFree;refine zaa (zbH hz (x:=.none) rfl rfl (zab ?_))
 simp only[zaX];refine zaa (zbF (zaa (zbH hz (x:=.ref o) rfl rfl ?_)));refine zaa (zcy hz (by simp) fun k1 z1 b1=>?_)
 replace z1:IsZip k1 z u o .ellipsis:=z1
 refine zaa ?_;simp only[List.zipIdx_cons,List.forIn_cons,List.zipIdx_nil,List.forIn_nil];refine zaa (zaa (wpAny_onRaise ?_));show wpAny _ _ (Builtin.SmallTypes.nextOf (.ref i) >>= _) _ _ _;have i1:=Gi.mv _ _ _ hi fun ob e=>b1.extBut _ _ D.i1z e;have p1:=Gi.sv _ _ hp fun ob e=>b1.extBut _ _ D.l1z e
 cases hx:xs[m]? with
 |none=>
  refine zaa (Gi.stop m _ _ _ i1 p1 hx fun k2 e b2 x2=>?_);obtain⟨oe,eoe,ece⟩:=x2;have z2:IsZip k2 z u o .ellipsis:=b2 _ _ D.i1z.symm z1;have ez:e≠z:=fun w1=>by subst w1;rw[z2] at eoe;cases eoe;simp at ece
  exact zcy z2 (by simp) fun k3 _ b3=>hE k3 e (fun c ob c1 _ c3 _ e1=>b3.extBut _ _ c1 (b2 _ _ c3 (b1.extBut _ _ c1 e1))) ⟨oe,b3.extBut _ _ ez eoe,ece⟩
 |some x=>
  have hy:ys[n]?=none:=he.resolve_left (by rw[hx];simp)
  refine zaa (Gi.item m x _ _ _ i1 p1 hx fun k2 i2 b2=>zab ?_);have o2:IsPair k2 o a b:=b2.extBut _ _ D.TOi1 (b1.extBut _ _ D.TOz ho);refine zaa (zbr o2 rfl ?_);refine zaa (wpAny_updateSeq_pair o2 fun k3 o3 b3=>?_);refine zaa (wpAny_letGo (zab ?_));refine zaa (zaa (wpAny_onRaise ?_));show wpAny _ _ (Builtin.SmallTypes.nextOf (.ref j) >>= _) _ _ _
  refine zaa (Gj.stop n _ _ _ (Gj.mv _ _ _ hj fun ob e=>b3.extBut _ _ D.TOi2.symm (b2.extBut _ _ D.i12.symm (b1.extBut _ _ D.i2z e))) (Gj.sv _ _ hq fun ob e=>b3.extBut _ _ D.l2TO (b2.extBut _ _ D.l2i1 (b1.extBut _ _ D.l2z e))) hy fun k4 e b4 x4=>?_);obtain⟨oe,eoe,ece⟩:=x4;have z4:IsZip k4 z u o .ellipsis:=b4 _ _ D.i2z.symm (b3.extBut _ _ D.TOz.symm (b2.extBut _ _ D.i1z.symm z1));have ez:e≠z:=fun w1=>by subst w1;rw[z4] at eoe;cases eoe;simp at ece
  exact zcy z4 (by simp) fun k5 _ b5=>hE k5 e (fun c ob c1 c2 c3 c4 e1=>b5.extBut _ _ c1 (b4 _ _ c4 (b3.extBut _ _ c2 (b2.extBut _ _ c3 (b1.extBut _ _ c1 e1))))) ⟨oe,b5.extBut _ _ ez eoe,ece⟩
end
noncomputable def Zp(Sa Sb:Hp->Addr->List V->Prop)(a b:Addr):It:=
  ⟨fun i H=>∃xs ys x y,Sa H a xs/\Sb H b ys/\xs[i]?=some x/\ys[i]?=some y,fun i H v H'=>∃T x y,H T=none/\v=.ref T/\H'=upd H T (.tup [x,y])/\∀xs ys,Sa H a xs->Sb H b ys->xs[i]?=some x/\ys[i]?=some y,
   fun i H=>∃xs ys,Sa H a xs/\Sb H b ys/\min xs.length ys.length=i⟩
structure Kd(cls:String)(Sa:W.Frag->Hp->Addr->List V->Prop)(Iti:Heap->Addr->Addr->Nat->Prop)(Is:Heap->Addr->Array Value->Prop):Prop where
 got:∀ {X:Cx} {pins:List (Addr×Obj)} {σ:St} {H:Hp} {s:Shared} {a:Addr} {xs:List V},Inv X pins σ H s->Sa X.K H a xs->∃its:List Value,ay xs its/\Is s.heap a its.toArray
 inj:∀ {X:Cx} {pins:List (Addr×Obj)} {σ:St} {H:Hp} {s:Shared} {a:Addr} {xs ys:List V},Inv X pins σ H s->Sa X.K H a xs->Sa X.K H a ys->xs=ys
 src:∀(prog:Program)(w:World)(A:Around)(j q:Addr)(its:Array Value),A.handled=none->Src prog w A j q its (fun n h=>Iti h j q n) (fun h=>Is h q its)
 seq:∀ {h:Heap} {a:Addr} {its:Array Value},Is h a its->∃o n,h.get? a=some o/\o.data=.seq its n
 ne:∀ {X:Cx} {pins:List (Addr×Obj)} {σ:St} {H:Hp} {s:Shared} {a b:Addr} {xs:List V},Inv X pins σ H s->Sa X.K H a xs->fM X pins H b->a≠b
 itr:∀ {prog:Program} {w:World} {A:Around} {E:Value->Shared->Prop} {S:Shared} {a:Addr} {its:Array Value} {Q:Value->Shared->Prop},Is S.heap a its->Q (.ref S.heap.objs.size) { S with heap:=S.heap.push { cls:=.type cls,data:=.fields #[.ref a,.int 0 0] } }->wpAny (model prog w) A (pyIter (.ref a)) Q E S
 sv:∀ {h h1:Heap} {a:Addr} {its:Array Value},Is h a its->(∀ob,h.get? a=some ob->h1.get? a=some ob)->Is h1 a its
 new:∀ {h:Heap} {j q:Addr},h.get? j=some { cls:=.type cls,data:=.fields #[.ref q,.int 0 0] }->Iti h j q 0
theorem Iq{X:Cx}{pins:List (Addr×Obj)}{σ:St}{H:Hp}{s:Shared}{a b:Addr}{ob:Obj}(I:Inv X pins σ H s)(e:X.K.lookup a=some ob)(f:fM X pins H b):a≠b:=fun z=>by
 subst z;have hb:=I.ok.mod.kin a ob e;rcases f.2.2.2.1 with h|h
 ·exact I.ok.noex a ob hb h
 ·exact absurd (zaD (zaq hb) (zaN I.ok.bsz h)) (zby _)
theorem kdT:Kd "tuple_iterator" SqT (fun h j q n=>h.IsTupleIter j q n) (fun h q its=>h.IsTuple q its) where
 got:=fun I h=>let ⟨its,rv,p,_⟩:=I.tuple h;⟨its,rv,p⟩
 inj:=fun I h h'=>I.KL h h'
 src:=fun prog w A j q its hh=>J2 hh j q its
 seq:=fun x=>let ⟨o,e,_,n,d⟩:=x;⟨o,n,e,d⟩
 ne:=fun I h f=>by
  rcases h with(h|⟨ob,h⟩)|⟨ob,its,n,hk,_⟩
  ·exact av h f.1
  ·exact av h f.1
  ·exact Iq I hk f
 itr:=fun h hQ=>wpAny_pyIter_tuple h hQ
 sv:=fun x k=>let ⟨o,e,r⟩:=x;⟨o,k o e,r⟩
 new:=fun e=>⟨_,e,rfl,rfl⟩
theorem kdL:Kd "list_iterator" SqL (fun h j q n=>h.IsListIter j q n) (fun h q its=>h.IsList q its) where
 got:=fun I h=>let ⟨its,rv,p,_⟩:=I.list h;⟨its,rv,p.isList⟩
 inj:=fun I h h'=>I.KQ h h'
 src:=fun prog w A j q its hh=>JW hh j q its
 seq:=fun x=>let ⟨o,e,_,n,d⟩:=x;⟨o,n,e,d⟩
 ne:=fun I h f=>by
  rcases h with(h|⟨ob,h⟩)|⟨ob,its,n,hk,_⟩
  ·exact av h f.1
  ·exact av h f.1
  ·exact Iq I hk f
 itr:=fun h hQ=>wpAny_pyIter_list h hQ
 sv:=fun x k=>let ⟨o,e,r⟩:=x;⟨o,k o e,r⟩
 new:=fun e=>⟨_,e,rfl,rfl⟩
section
variable{c1 c2:String}{Sa Sb:W.Frag->Hp->Addr->List V->Prop}{Ia Ib:Heap->Addr->Addr->Nat->Prop}{Isa Isb:Heap->Addr->Array Value->Prop}
theorem CV{P:Program}{w:World}{K:W.Frag}{elts:List Expr}{kk:Nat}{pp:Pos}(k1:Kd c1 Sa Ia Isa)(k2:Kd c2 Sb Ib Isb)(a b z u o i j:Addr)(huz:u≠z)(hoz:o≠z)(hiz:i≠z)(hjz:j≠z)(huo:u≠o)(hui:u≠i)(huj:u≠j)(hoi:o≠i)(hoj:o≠j)(hij:i≠j):
  um P w K (.Tuple elts kk pp) (Zp (Sa K) (Sb K) a b) [z,u,o,i,j] z (fun n h=>IsZip h z u o .none/\IsPair h u (.ref i) (.ref j)/\(∃x y,IsPair h o x y)/\Ia h i a n/\Ib h j b n) where
 mem:=by simp
 obj:=fun n h st c hc=>by
  obtain⟨h1,h2,⟨x,y,h3⟩,h4,h5⟩:=st;obtain⟨o4,v4,e4,d4⟩:=(k1.src default w callerA i a #[] rfl).live _ _ h4;obtain⟨o5,v5,e5,d5⟩:=(k2.src default w callerA j b #[] rfl).live _ _ h5;rcases(by simpa using hc:c=z\/c=u\/c=o\/c=i\/c=j) with rfl|rfl|rfl|rfl|rfl
  ·exact⟨_,h1,fun v q=>by cases q⟩
  ·exact⟨_,h2,fun v q=>by cases q⟩
  ·exact⟨_,h3,fun v q=>by cases q⟩
  ·exact⟨_,e4,fun v q=>by rw[d4] at q;cases q⟩
  ·exact⟨_,e5,fun v q=>by rw[d5] at q;cases q⟩
 keep:=fun n h h' st k=>by
  obtain⟨h1,h2,⟨x,y,h3⟩,h4,h5⟩:=st;exact⟨k z (by simp) _ h1,k u (by simp) _ h2,⟨x,y,k o (by simp) _ h3⟩,(k1.src default w callerA i a #[] rfl).mv _ _ _ h4 fun ob e=>k i (by simp) ob e,(k2.src default w callerA j b #[] rfl).mv _ _ _ h5 fun ob e=>k j (by simp) ob e⟩
 item:=by
  intro X hP hw hK hc n pins s σ H E I hf st hg;subst hP hw hK;obtain⟨xs,ys,x,y,ha,hb,hx,hy⟩:=hg;obtain⟨its,rv,pa⟩:=k1.got I ha;obtain⟨jts,rw',pb⟩:=k2.got I hb;obtain⟨vx,hvx,rx⟩:=rv.get hx;obtain⟨vy,hvy,ry⟩:=rw'.get hy;obtain⟨h1,h2,⟨x0,y0,h3⟩,h4,h5⟩:=st;have na:=fun c (hc:c∈[z,u,o,i,j])=>k1.ne I ha (hf c hc);have nb:=fun c (hc:c∈[z,u,o,i,j])=>k2.ne I hb (hf c hc);have D:ZipApart z u o i j a b:=⟨huz,hoz,hiz,hjz,huo,hui,huj,hoi,hoj,hij,na z (by simp),na o (by simp),na i (by simp),na j (by simp),nb z (by simp),nb o (by simp),nb i (by simp),nb j (by simp)⟩
  have hT:s.TypeIs (.ref z) "zip":=⟨_,h1,rfl⟩;unfold pyNext
  refine zaa (wpAny_attempt (zbx (name:=Str.ofString "__next__") hT F.slot_zip_next (zbt F.slot_zip_next hT F.entry_zip_next
   (yO D (k1.src X.prog X.w _ i a its.toArray (I.ok.hd hc)) (k2.src X.prog X.w _ j b jts.toArray (I.ok.hd hc)) h1 h2 h3 h4 h5 pa pb (x:=vx) (y:=vy) (by simpa using hvx) (by simpa using hvy) fun q1 a1 a2 a3 a4 a5 a6=>zab ?_) (F.args_zip_next_1 _))))
  refine⟨_,rfl,wpAny_letOwnedTupleGo_zip a1 fun q2 b1 sb=>?_⟩;have lt:∀ {c ob},s.heap.get? c=some ob->c<s.heap.objs.size:=fun e=>zaq e;have zl:=lt h1;have kp:∀c ob,c ∉ [z,u,o,i,j]->s.heap.get? c=some ob->q2.get? c=some ob:=fun c ob hc' e=>(sb.2 c fun w1=>hc' (by simp[w1])).trans (a6 c ob (fun w1=>hc' (by simp[w1])) (fun w1=>hc' (by simp[w1])) (fun w1=>hc' (by simp[w1])) (fun w1=>hc' (by simp[w1])) e)
  have hT2:q2.get? s.heap.objs.size=some { cls:=.type "tuple",data:=.seq #[vx,vy] }:=(sb.2 _ (zdf zl)).trans a5;have J:=I.K4 (h':=q2) (tk:=s.toks) (ch:=[z,u,o,i,j]) (T:=s.heap.objs.size) (o:=.tup [x,y]) hf kp (zaj _) ⟨(show 2<=sizeLine by decide),[vx,vy],.cons rx (.cons ry .nil),⟨⟨_,hT2,rfl,_,rfl⟩,_,hT2,rfl⟩⟩
  refine⟨.ref s.heap.objs.size,_,J,rfl,⟨_,x,y,I.hok.fresh (zaj _),rfl,rfl,fun xs' ys' e1 e2=>⟨by rw[k1.inj I e1 ha];exact hx,by rw[k2.inj I e2 hb];exact hy⟩⟩,⟨b1,(sb.2 u huz).trans (a6 u _ huz huo hui huj h2),⟨vx,vy,(sb.2 o hoz).trans a2⟩,?_,?_⟩,fun c hc'=>?_⟩
  ·exact(k1.src default X.w callerA i a #[] rfl).mv _ _ _ a3 fun ob e=>(sb.2 i hiz).trans e
  ·exact(k2.src default X.w callerA j b #[] rfl).mv _ _ _ a4 fun ob e=>(sb.2 j hjz).trans e
  ·have hlt:c<s.heap.objs.size:=by
    obtain⟨o4,v4,e4,d4⟩:=(k1.src default X.w callerA i a #[] rfl).live _ _ h4;obtain⟨o5,v5,e5,d5⟩:=(k2.src default X.w callerA j b #[] rfl).live _ _ h5;rcases(by simpa using hc':c=z\/c=u\/c=o\/c=i\/c=j) with rfl|rfl|rfl|rfl|rfl
    ·exact lt h1
    ·exact lt h2
    ·exact lt h3
    ·exact lt e4
    ·exact lt e5
   rw[ah (zaF hlt)];exact(hf c hc').1
 done:=by
  intro X hP hw hK hc n pins s σ H E I hf st hg;subst hP hw hK;obtain⟨xs,ys,ha,hb,hm⟩:=hg;obtain⟨its,rv,pa⟩:=k1.got I ha;obtain⟨jts,rw',pb⟩:=k2.got I hb;obtain⟨h1,h2,⟨x0,y0,h3⟩,h4,h5⟩:=st;have na:=fun c (hc:c∈[z,u,o,i,j])=>k1.ne I ha (hf c hc);have nb:=fun c (hc:c∈[z,u,o,i,j])=>k2.ne I hb (hf c hc);have D:ZipApart z u o i j a b:=⟨huz,hoz,hiz,hjz,huo,hui,huj,hoi,hoj,hij,na z (by simp),na o (by simp),na i (by simp),na j (by simp),nb z (by simp),nb o (by simp),nb i (by simp),nb j (by simp)⟩
  have hT:s.TypeIs (.ref z) "zip":=⟨_,h1,rfl⟩;have l1:=rv.length;have l2:=rw'.length;unfold pyNext
  refine zaa (wpAny_attempt (zbx (name:=Str.ofString "__next__") hT F.slot_zip_next (zbt F.slot_zip_next hT F.entry_zip_next
   (Cf D (k1.src X.prog X.w _ i a its.toArray (I.ok.hd hc)) (k2.src X.prog X.w _ j b jts.toArray (I.ok.hd hc)) h1 h2 h3 h4 h5 pa pb ?_ fun q1 e ke xe=>?_) (F.args_zip_next_1 _))))
  ·rcases Nat.le_total xs.length ys.length with h|h
   ·exact .inl (zbB (by simp;omega))
   ·exact .inr (zbB (by simp;omega))
  ·obtain⟨ob,eob,cob⟩:=xe
   refine zaa (zcR (T:="StopIteration") (b:=true) ⟨ob,eob,cob⟩ isSubtype_stop (zab ⟨rfl,?_⟩));exact I.K5 (h':=q1) (tk:=s.toks) (ch:=[z,u,o,i,j]) hf fun c ob' hc' e1=>ke c ob' (fun w1=>hc' (by simp[w1])) (fun w1=>hc' (by simp[w1])) (fun w1=>hc' (by simp[w1])) (fun w1=>hc' (by simp[w1])) e1
 self:=fun A n s Q E st h=>wpAny_pyIter_zip st.1 h
end
section
variable{c1 c2:String}{Sa Sb:W.Frag->Hp->Addr->List V->Prop}{Ia Ib:Heap->Addr->Addr->Nat->Prop}{Isa Isb:Heap->Addr->Array Value->Prop}
noncomputable abbrev zk1(c1:String)(h:Heap)(a:Addr):Heap:=h.push { cls:=.type c1,data:=.fields #[.ref a,.int 0 0] }
noncomputable abbrev zk2(c1 c2:String)(h:Heap)(a b:Addr):Heap:=(zk1 c1 h a).push { cls:=.type c2,data:=.fields #[.ref b,.int 0 0] }
noncomputable abbrev zk3(c1 c2:String)(h:Heap)(a b:Addr):Heap:=(zk2 c1 c2 h a b).push { cls:=.type "tuple",data:=.seq #[.ref h.objs.size,.ref (zk1 c1 h a).objs.size] }
noncomputable abbrev zk4(c1 c2:String)(h:Heap)(a b:Addr):Heap:=(zk3 c1 c2 h a b).push { cls:=.type "tuple",data:=.seq #[.none,.none] }
noncomputable abbrev zk5(c1 c2:String)(h:Heap)(a b:Addr):Heap:=(zk4 c1 c2 h a b).push { cls:=.type "zip",data:=.fields #[.none,.bool false,.bool false,.ref (zk2 c1 c2 h a b).objs.size,.ref (zk3 c1 c2 h a b).objs.size] }
theorem CG(k1:Kd c1 Sa Ia Isa)(k2:Kd c2 Sb Ib Isb)(a b:Addr)(its jts:Array Value):
  Meets (Builtin.«zip.__new__» ⟨[.type "zip",.ref a,.ref b],[]⟩) (fun _ R S=>Isa S.heap a its/\Isb S.heap b jts/\R (.ok (.ret (.ref (zk4 c1 c2 S.heap a b).objs.size))) { S with heap:=zk5 c1 c2 S.heap a b }):=
 .of_wp fun prog w A R S h=>by
  obtain⟨hp,g,d,tk,os⟩:=S;obtain⟨h1,h2,h⟩:=h;have hsub:=sub_zip;have g1:Isa (Shared.heap ⟨hp,g,d,tk,os⟩) a its:=h1;have g2:Isb (Shared.heap ⟨zk1 c1 hp a,g,d,tk,os⟩) b jts:=k2.sv h2 fun ob e=>zac _ e
  wp_walk using k1.itr g1,k2.itr g2
  exact⟨_,rfl,h⟩
theorem zk{prog:Program}{w:World}{A:Around}{E:Value->Shared->Prop}{S:Shared}{a b:Addr}{its jts:Array Value}{Q:Value->Shared->Prop}(k1:Kd c1 Sa Ia Isa)(k2:Kd c2 Sb Ib Isb)(h1:Isa S.heap a its)(h2:Isb S.heap b jts)
  (h:∀q,IsZip q (S.heap.objs.size+4) (S.heap.objs.size+2) (S.heap.objs.size+3) .none->IsPair q (S.heap.objs.size+2) (.ref S.heap.objs.size) (.ref (S.heap.objs.size+1))->IsPair q (S.heap.objs.size+3) .none .none ->
   Ia q S.heap.objs.size a 0->Ib q (S.heap.objs.size+1) b 0->(∀c ob,S.heap.get? c=some ob->q.get? c=some ob)->Q (.ref (S.heap.objs.size+4)) { S with heap:=q }):wpAny (model prog w) A (call (.type "zip") [.ref a,.ref b]) Q E S:=by
 refine callType_new F.called_zip (by decide) (F.typeCall_zip_2 _ _) (F.newCall_zip_2 _ _) (fun obj=>F.args_object_init_3 obj _ _) F.entry_zip_new (CG k1 k2 a b its jts) ⟨h1,h2,?_⟩
 have n1:(zk1 c1 S.heap a).objs.size=S.heap.objs.size+1:=zcm ..;have n2:(zk2 c1 c2 S.heap a b).objs.size=S.heap.objs.size+2:=by rw[zcm,n1]
 have n3:(zk3 c1 c2 S.heap a b).objs.size=S.heap.objs.size+3:=by rw[zcm,n2]
 have n4:(zk4 c1 c2 S.heap a b).objs.size=S.heap.objs.size+4:=by rw[zcm,n3]
 have g5:(zk5 c1 c2 S.heap a b).get? (zk4 c1 c2 S.heap a b).objs.size=some _:=zan _ rfl;have g4:(zk5 c1 c2 S.heap a b).get? (zk3 c1 c2 S.heap a b).objs.size=some _:=zac _ (zan _ rfl);have g3:(zk5 c1 c2 S.heap a b).get? (zk2 c1 c2 S.heap a b).objs.size=some _:=zac _ (zac _ (zan _ rfl))
 have g2:(zk5 c1 c2 S.heap a b).get? (zk1 c1 S.heap a).objs.size=some _:=zac _ (zac _ (zac _ (zan _ rfl)));have g1:(zk5 c1 c2 S.heap a b).get? S.heap.objs.size=some _:=zac _ (zac _ (zac _ (zac _ (zan _ rfl))));show _/\_;rw[n2,n3,n4] at g5
 rw[n1,n2] at g3;rw[n3] at g4;rw[n1] at g2;rw[n4];exact⟨⟨_,g5,rfl⟩,h _ g5 g3 g4 (k1.new g1) (k2.new g2) fun c ob e=>zac _ (zac _ (zac _ (zac _ (zac _ e))))⟩
variable{X:Cx}
end
theorem gl{X:Cx}(K:W.Frag)(h:X.K=K){ts:List Expr}{k n:Nat}{pos:Pos}{t:TGs}(hc:X.calm=true)(hts:PGs X ts t)(hn:(assignEach ts X.env).length=n:=by rfl)(hst:(assignEach ts X.env).findIdx? (·.1)=none:=by rfl):PG X (.Tuple ts k pos) (F9 K n t):=h ▸ Gf hc hts hn hst
noncomputable def Ord(n:Nat)(p:Array Nat):Prop:=p.Perm (List.range n).toArray
theorem Ord.lt{n:Nat}{p:Array Nat}(hn:0<n)(h:Ord n p)(k:Nat):p.getD k 0<n:=by
 by_cases hk:k<p.size
 ·have hm:p[k]∈p:=Array.getElem_mem hk
  have h2:=(h.mem_iff (a:=p[k])).mp hm;simp at h2;simp[Array.getD,hk];exact h2
 ·simp[Array.getD,hk]
  exact hn
theorem Ord.rev{n i j:Nat}{p:Array Nat}(h:Ord n p):Ord n (W.kas_rev p i j):=(mirror_perm p i j _).trans h
theorem Ord.bub{n i j:Nat}{p:Array Nat}(h:Ord n p):Ord n (bubble p i j):=(bubble_perm p i j).trans h
section
variable{n:Nat}(hn:0<n)
include hn
end
noncomputable def Zs:List Value->List Int->Prop
 | [],[]=>True
 |v::vs,n::ns=>(∃t,v=.int n t)/\Zs vs ns
 |_,_=>False
section
variable{X:Cx}
theorem Zs.of:∀ {ns:List Int} {its:List Value},ay (ns.map V.int) its->Zs its ns
 | [],[],_=>trivial
 |n::ns,v::vs,h=>by
  cases h with
  |cons r rr=>
   exact⟨r,Zs.of rr⟩
 | [],_::_,h=>by cases h
 |_::_,[],h=>by cases h
theorem on{α:Type}{f:α->V}{g:α->Value}:∀ {l:List α},(∀i∈l,aB (f i) (g i))->ay (l.map f) (l.map g)
 | [],_=>.nil
 |_::_,h=>.cons (h _ (zau ..)) (on fun j hj=>h j (zar _ hj))
theorem Ord.mem{n:Nat}{p:Array Nat}(h:Ord n p){i:Nat}(hi:i∈p.toList):i<n:=by
 have:=(h.mem_iff (a:=i)).mp (Array.mem_toList_iff.mp hi);simpa using this
end
structure cQ(c:Nat->Nat->Bool):Prop where
 as:∀i j,c i j=true->c j i=false
 tr:∀i j k,c j i=false->c k j=false->c k i=false
section
variable{c:Nat->Nat->Bool}(L:cQ c)
noncomputable def Dn(c:Nat->Nat->Bool)(p:Array Nat)(k:Nat):Prop:=∀i j,i<=j->j<k->c (p.getD i 0) (p.getD j 0)=false
include L
end
theorem eU{p:Array Nat}{i j:Nat}(hj:j<=p.size)(k:Nat):(W.kas_rev p i j).getD k 0=if i<=k/\k<j then p.getD (i+j-1-k) 0 else p.getD k 0:=by
 have:=getElem?_mirror_all (xs:=p) (i:=i) hj k;simp only[zaU];unfold W.kas_rev;rw[this];split<;>rfl
theorem m9{p:Array Nat}{s d:Nat}(hs:s<p.size)(hd:d<=s)(k:Nat):(bubble p s d).getD k 0=if k=s-d then p.getD s 0 else if s-d<k/\k<=s then p.getD (k-1) 0 else p.getD k 0:=by
 have:=getElem?_bubble hs d hd k;simp only[zaU];rw[this];split
 ·rfl
 ·split<;>rfl
section
variable{c:Nat->Nat->Bool}(L:cQ c)
include L
end
noncomputable def bU:List Int->List Int->Bool
 | [],[]=>false
 | [],_::_=>true
 |_::_,[]=>false
 |x::xs,y::ys=>if x=y then bU xs ys else decide (x<y)
theorem qy:∀x y:List Int,bU x y=true->bU y x=false
 | [],[],h=>by simp[bU] at h
 | [],_::_,_=>rfl
 |_::_,[],h=>by simp[bU] at h
 |x::xs,y::ys,h=>by
  unfold bU at h ⊢;by_cases e:x=y
  ·rw[zaf e] at h;rw[zaf e.symm];exact qy xs ys h
  ·rw[zad e] at h;rw[zad (zbJ e)]
   simp at h ⊢;omega
theorem vL:∀x y z:List Int,bU y x=false->bU z y=false->bU z x=false
 | [],_,[],_,_=>rfl
 | [],_,_::_,_,_=>rfl
 |_::_,[],_,h,_=>by simp[bU] at h
 |_::_,_::_,[],_,h=>by simp[bU] at h
 |x::xs,y::ys,z::zs,h1,h2=>by
  unfold bU at h1 h2 ⊢;by_cases e1:y=x
  ·subst e1
   rw[zaf rfl] at h1;by_cases e2:z=y
   ·subst e2
    rw[zaf rfl] at h2 ⊢;exact vL xs ys zs h1 h2
   ·rw[zad e2] at h2 ⊢;exact h2
  ·rw[zad e1] at h1
   simp at h1;by_cases e2:z=y
   ·subst e2
    rw[zad e1];simpa using h1
   ·rw[zad e2] at h2
    simp at h2;rw[zad (by omega)]
    simp;omega
theorem CH:∀x y:List Int,bU y x=false->bU x y=false->x=y
 | [],[],_,_=>rfl
 | [],_::_,_,h=>by simp[bU] at h
 |_::_,[],h,_=>by simp[bU] at h
 |x::xs,y::ys,h1,h2=>by
  unfold bU at h1 h2;by_cases e:x=y
  ·subst e
   rw[zaf rfl] at h1 h2;rw[CH xs ys h1 h2]
  ·rw[zad e] at h2
   rw[zad (zbJ e)] at h1;simp at h1 h2;omega
end L2
namespace L2
open PySem PySem.Spec PyProof.Rows
inductive AV where
 |d (x:D)
 |r (v:V)
 |p (v:V) (P:Hp->Prop)
inductive OC where
 |own (xs:List AV)
 |frz (ds:List D)
 |dic (kvs:List (Str×AV))
 |sto (kvs:List (D×AV))
noncomputable abbrev Om:=Addr->Option OC
noncomputable abbrev SA:=List (Option AV)
noncomputable abbrev Fs:=Addr->Bool
noncomputable def Om.put(Z:Om)(l:Addr)(c:OC):Om:=fun b=>if b=l then some c else Z b
theorem Om.Kv{Z:Om}{l:Addr}{c:OC}:Z.put l c l=some c:=by unfold Om.put;rw[zaf rfl]
theorem Om.Kw{Z:Om}{l b:Addr}{c:OC}(h:b≠l):Z.put l c b=Z b:=by unfold Om.put;rw[zad h]
theorem Om.Kz{Z:Om}{l:Addr}{c e:OC}:(Z.put l c).put l e=Z.put l e:=by funext b;unfold Om.put;split<;>rfl
theorem Om.KZ{Z:Om}{l p:Addr}{c e:OC}(h:p≠l):(Z.put l c).put p e=(Z.put p e).put l c:=by
 funext b;unfold Om.put;split<;>split<;>simp_all
set_option tactic.hygienic true in
theorem Om.K0{Z:Om}{l:Addr}{c:OC}(h:Z l=some c):Z.put l c=Z:=by
 funext b;unfold Om.put;split
 ·rename_i e;rw[e,h]
 ·rfl
noncomputable def ow:Option OC->Bool
 |some (.own _)=>true
 |some (.dic _)=>true
 |some (.sto _)=>true
 |_=>false
noncomputable def Fs.add(F:Fs)(l:Addr):Fs:=fun b=>decide (b=l) || F b
noncomputable def cut(F:Fs)(H:Hp)(Z:Om):Hp:=fun b=>if (ow (Z b) || F b)=true then none else H b
noncomputable def RV(G:Hp):AV->V->Prop
 |.d x,v=>Dat G x v
 |.r u,v=>v=u
 |.p u P,v=>v=u/\∀G',bH G G'->P G'
noncomputable def RVs(G:Hp):List AV->List V->Prop
 | [],vs=>vs=[]
 |a::as,vs=>∃v r,vs=v::r/\RV G a v/\RVs G as r
noncomputable def RS(G:Hp)(ρ:SA)(σ:St):Prop:=ρ.length=σ.length/\∀(i:Nat)(a:AV),ρ[i]?=some (some a)->∃v,σ[i]?=some (some v)/\RV G a v
noncomputable def RKs(G:Hp):List (Str×AV)->List (Key×V)->Prop
 | [],ks=>ks=[]
 |p::r,ks=>∃v r',ks=((Sum.inr p.1:Key),v)::r'/\RV G p.2 v/\RKs G r r'
mutual
noncomputable def cF:D->Int
 |.int i=>hashInt i
 |.tup ds=>reduceHash (Builtin.Tuple.tupleHashOf (jV ds))
 |_=>0
noncomputable def jV:List D->List Int
 | []=>[]
 |d::ds=>cF d::jV ds
end
noncomputable abbrev stO(l:Addr)(es:List (D×V×V)):HO:=.ext fun h=>∃o es' ep,h.get? l=some o/\o.ExactDict/\o.data=.dict es' ep/\(l == sysModules)=false/\es.length<=sizeLine/\(es.map (·.1)).Nodup /\
 Paired (fun(p:D×V×V) (q:DictEntry)=>q.hash=cF p.1/\aB p.2.1 q.key/\aB p.2.2 q.val) es es'.toList
noncomputable def RDs(G:Hp):List (D×AV)->List (D×V×V)->Prop
 | [],es=>es=[]
 |p::r,es=>∃kv v r',es=(p.1,kv,v)::r'/\Dat G p.1 kv/\RV G p.2 v/\RDs G r r'
structure Rep(F:Fs)(H:Hp)(Z:Om):Prop where
 own:∀l xs,Z l=some (.own xs)->∃vs,H l=some (.lst vs)/\RVs (cut F H Z) xs vs
 frz:∀l ds,Z l=some (.frz ds)->Dat (cut F H Z) (.lst ds) (.ref l)
 hid:∀b,F b=true->Z b=none/\∃vs,H b=some (.lst vs)
 dic:∀l kvs,Z l=some (.dic kvs)->∃ks,H l=some (.dK ks)/\RKs (cut F H Z) kvs ks
 sto:∀l kvs,Z l=some (.sto kvs)->∃es,H l=some (stO l es)/\RDs (cut F H Z) kvs es
structure Fr(F:Fs)(H:Hp)(Z:Om)(H':Hp)(Z':Om):Prop where
 st:∀b o,ow (Z b)=false->F b=false->H b=some o->H' b=some o/\ow (Z' b)=false
 hd:∀b,F b=true->H' b=H b
section
variable{F:Fs}{H H1 H2 H':Hp}{Z Z1 Z2 Z':Om}{G G':Hp}
theorem Fr.refl:Fr F H Z H Z:=⟨fun _ _ h _ e=>⟨e,h⟩,fun _ _=>rfl⟩
theorem Fr.trans(a:Fr F H Z H1 Z1)(b:Fr F H1 Z1 H2 Z2):Fr F H Z H2 Z2:=
 ⟨fun c o h f e=>let ⟨x,y⟩:=a.st c o h f e;b.st c o y f x,fun c h=>(b.hd c h).trans (a.hd c h)⟩
theorem bi{b:Addr}{o:HO}:cut F H Z b=some o↔ow (Z b)=false/\F b=false/\H b=some o:=by
 unfold cut;cases ow (Z b)<;>cases F b<;>simp
theorem Fr.same(a:Fr F H Z H' Z'):bH (cut F H Z) (cut F H' Z'):=fun b o e=>by
 obtain⟨h,f,e⟩:=bi.mp e;obtain⟨x,y⟩:=a.st b o h f e;exact bi.mpr ⟨y,f,x⟩
theorem ar:bH (cut F H Z) H:=fun b o e=>(bi.mp e).2.2
theorem RV.same(e:bH G G'):∀ {a:AV} {v:V},RV G a v->RV G' a v
 |.d _,_,h=>Dat.same e h
 |.r _,_,h=>h
 |.p _ _,_,h=>⟨h.1,fun G2 s=>h.2 G2 (e.trans s)⟩
theorem RVs.same(e:bH G G'):∀ {as:List AV} {vs:List V},RVs G as vs->RVs G' as vs
 | [],_,h=>h
 |_::_,_,⟨v,r,h1,h2,h3⟩=>⟨v,r,h1,h2.same e,h3.same e⟩
theorem RKs.same(e:bH G G'):∀ {as:List (Str×AV)} {vs:List (Key×V)},RKs G as vs->RKs G' as vs
 | [],_,h=>h
 |_::_,_,⟨v,r,h1,h2,h3⟩=>⟨v,r,h1,h2.same e,h3.same e⟩
theorem RDs.same(e:bH G G'):∀ {as:List (D×AV)} {vs:List (D×V×V)},RDs G as vs->RDs G' as vs
 | [],_,h=>h
 |_::_,_,⟨k,v,r,h1,h2,h3,h4⟩=>⟨k,v,r,h1,Dat.same e h2,h3.same e,h4.same e⟩
theorem RS.same(e:bH G G'){ρ:SA}{σ:St}(h:RS G ρ σ):RS G' ρ σ:=⟨h.1,fun i a q=>let ⟨v,x,y⟩:=h.2 i a q;⟨v,x,y.same e⟩⟩
theorem RVs.length:∀ {as:List AV} {vs:List V},RVs G as vs->vs.length=as.length
 | [],_,h=>by cases h;rfl
 |_::_,_,⟨v,r,h1,_,h3⟩=>by subst h1;simp[h3.length]
theorem RVs.get:∀ {as:List AV} {vs:List V} {i:Nat} {a:AV},RVs G as vs->as[i]?=some a->∃v,vs[i]?=some v/\RV G a v
 | [],_,_,_,_,e=>by simp at e
 |_::_,_,0,_,⟨v,r,h1,h2,_⟩,e=>by subst h1;simp at e;subst e;exact⟨v,rfl,h2⟩
 |_::_,_,i+1,_,⟨v,r,h1,_,h3⟩,e=>by subst h1;simp at e;obtain⟨v',e1,e2⟩:=h3.get e;exact⟨v',by simpa using e1,e2⟩
theorem RVs.append:∀ {as bs:List AV} {vs us:List V},RVs G as vs->RVs G bs us->RVs G (as++bs) (vs++us)
 | [],_,_,_,h,k=>by cases h;exact k
 |_::_,_,_,_,⟨v,r,h1,h2,h3⟩,k=>by subst h1;exact⟨v,_,rfl,h2,h3.append k⟩
theorem RVs.one{a:AV}{v:V}(h:RV G a v):RVs G [a] [v]:=⟨v,[],rfl,h,rfl⟩
theorem RVs.dats:∀ {ds:List D} {vs:List V},RVs G (ds.map AV.d) vs↔ao G ds vs
 | [],_=>by simp[RVs,ao]
 |d::ds,vs=>by
  simp only[zah,RVs,ao,RV];constructor
  ·rintro⟨v,r,h1,h2,h3⟩;exact⟨v,r,h1,h2,RVs.dats.mp h3⟩
  ·rintro⟨v,r,h1,h2,h3⟩;exact⟨v,r,h1,h2,RVs.dats.mpr h3⟩
theorem RVs.dropLast:∀ {as:List AV} {vs:List V},RVs G as vs->RVs G as.dropLast vs.dropLast
 | [],_,h=>by cases h;exact rfl
 | [a],_,⟨v,r,h1,h2,h3⟩=>by cases h3;subst h1;exact rfl
 |a::b::as,_,⟨v,r,h1,h2,h3⟩=>by
  obtain⟨u,r',rfl,k2,k3⟩:=id h3;subst h1;exact⟨v,_,rfl,h2,h3.dropLast⟩
theorem Rep.free(R:Rep F H Z){p:Addr}(h:H p=none):Z p=none/\F p=false:=by
 constructor
 ·cases e:Z p with
  |none=>rfl
  |some c=>cases c with
   |own xs=>obtain⟨vs,q,_⟩:=R.own p xs e;rw[h] at q;cases q
   |frz ds=>
    have q:=R.frz p ds e;simp only[Dat] at q;obtain⟨a,xs,e1,e2,_⟩:=q;cases e1;rw[ar _ _ e2] at h;cases h
   |dic kvs=>obtain⟨vs,q,_⟩:=R.dic p kvs e;rw[h] at q;cases q
   |sto kvs=>obtain⟨vs,q,_⟩:=R.sto p kvs e;rw[h] at q;cases q
 ·cases e:F p with
  |false=>rfl
  |true=>obtain⟨_,o,q⟩:=R.hid p e;rw[h] at q;cases q
theorem Rep.lay(R:Rep F H Z){p:Addr}{o:HO}(h:H p=none):Rep F (upd H p o) Z/\Fr F H Z (upd H p o) Z/\cut F (upd H p o) Z p=some o:=by
 have hs:=Be (o:=o) h
 have fr:Fr F H Z (upd H p o) Z:=⟨fun b u x f e=>⟨hs _ _ e,x⟩,fun b f=>by
  obtain⟨_,u,q⟩:=R.hid b f
  rw[ah (av q h)]⟩
 obtain⟨f1,f2⟩:=R.free h;refine⟨⟨fun l xs e=>?_,fun l ds e=>(R.frz l ds e).same fr.same,fun b f=>?_,fun l ks e=>(by obtain⟨vs,e1,e2⟩:=R.dic l ks e;exact⟨vs,hs _ _ e1,e2.same fr.same⟩),fun l ks e=>(by obtain⟨vs,e1,e2⟩:=R.sto l ks e;exact⟨vs,hs _ _ e1,e2.same fr.same⟩)⟩,fr,bi.mpr ⟨by rw[f1];rfl,f2,aN⟩⟩
 ·obtain⟨vs,e1,e2⟩:=R.own l xs e
  exact⟨vs,hs _ _ e1,e2.same fr.same⟩
 ·obtain⟨x,u,q⟩:=R.hid b f
  exact⟨x,u,hs _ _ q⟩
theorem yL{l:Addr}{xs ys:List AV}{o:HO}(h:Z l=some (.own xs)):cut F (upd H l o) (Z.put l (.own ys))=cut F H Z:=by
 funext b
 unfold cut Om.put;by_cases hb:b=l
 ·subst hb;rw[zaf rfl,h];simp[ow]
 ·rw[zad hb,ah hb]
theorem Rep.write(R:Rep F H Z){l:Addr}{xs ys:List AV}{vs:List V}(h:Z l=some (.own xs))(hv:RVs (cut F H Z) ys vs):
  Rep F (upd H l (.lst vs)) (Z.put l (.own ys))/\Fr F H Z (upd H l (.lst vs)) (Z.put l (.own ys)):=by
 have c:=yL (F:=F) (H:=H) (ys:=ys) (o:=.lst vs) h
 refine ⟨⟨fun k zs e=>?_,fun k ds e=>?_,fun b f=>?_,fun k ks e=>(by
  have hk:k≠l:=fun z=>(by subst z;rw[Om.Kv] at e;cases e)
  rw[Om.Kw hk] at e;rw[c,ah hk];exact R.dic k ks e),fun k ks e=>(by
  have hk:k≠l:=fun z=>(by subst z;rw[Om.Kv] at e;cases e)
  rw[Om.Kw hk] at e;rw[c,ah hk];exact R.sto k ks e)⟩,fun b o x f e=>?_,fun b f=>?_⟩
 ·rw[c]
  by_cases hk:k=l
  ·subst hk;rw[Om.Kv] at e;cases e;exact⟨vs,aN,hv⟩
  ·rw[Om.Kw hk] at e;rw[ah hk];exact R.own k zs e
 ·rw[c]
  by_cases hk:k=l
  ·subst hk;rw[Om.Kv] at e;cases e
  ·rw[Om.Kw hk] at e;exact R.frz k ds e
 ·obtain⟨x,o,q⟩:=R.hid b f
  have hb:b≠l:=fun z=>by subst z;rw[h] at x;cases x
  exact⟨by rw[Om.Kw hb];exact x,o,by rw[ah hb];exact q⟩
 ·have hb:b≠l:=fun z=>by subst z;rw[h] at x;cases x
  rw[Om.Kw hb,ah hb];exact⟨e,x⟩
 ·obtain⟨x,o,q⟩:=R.hid b f
  have hb:b≠l:=fun z=>by subst z;rw[h] at x;cases x
  exact ah hb
theorem Rep.mk'(R:Rep F H Z){l:Addr}{xs:List AV}{vs:List V}(h:H l=none)(hv:RVs (cut F H Z) xs vs):
  Rep F (upd H l (.lst vs)) (Z.put l (.own xs))/\Fr F H Z (upd H l (.lst vs)) (Z.put l (.own xs)):=by
 obtain⟨f1,f2⟩:=R.free h
 have c:cut F (upd H l (.lst vs)) (Z.put l (.own xs))=cut F H Z:=by
  funext b
  unfold cut Om.put;by_cases hb:b=l
  ·subst hb;rw[zaf rfl,f1,f2,h];simp[ow]
  ·rw[zad hb,ah hb]
 refine ⟨⟨fun k zs e=>?_,fun k ds e=>?_,fun b f=>?_,fun k ks e=>(by
  have hk:k≠l:=fun z=>(by subst z;rw[Om.Kv] at e;cases e)
  rw[Om.Kw hk] at e;rw[c,ah hk];exact R.dic k ks e),fun k ks e=>(by
  have hk:k≠l:=fun z=>(by subst z;rw[Om.Kv] at e;cases e)
  rw[Om.Kw hk] at e;rw[c,ah hk];exact R.sto k ks e)⟩,fun b o x f e=>?_,fun b f=>?_⟩
 ·rw[c]
  by_cases hk:k=l
  ·subst hk;rw[Om.Kv] at e;cases e;exact⟨vs,aN,hv⟩
  ·rw[Om.Kw hk] at e;rw[ah hk];exact R.own k zs e
 ·rw[c]
  by_cases hk:k=l
  ·subst hk;rw[Om.Kv] at e;cases e
  ·rw[Om.Kw hk] at e;exact R.frz k ds e
 ·obtain⟨x,o,q⟩:=R.hid b f
  have hb:b≠l:=av q h;exact⟨by rw[Om.Kw hb];exact x,o,by rw[ah hb];exact q⟩
 ·have hb:b≠l:=av e h
  rw[Om.Kw hb,ah hb];exact⟨e,x⟩
 ·obtain⟨x,o,q⟩:=R.hid b f
  exact ah (av q h)
theorem Rep.freeze(R:Rep F H Z){l:Addr}{ds:List D}(h:Z l=some (.own (ds.map AV.d))):
  Rep F H (Z.put l (.frz ds))/\Fr F H Z H (Z.put l (.frz ds))/\Dat (cut F H (Z.put l (.frz ds))) (.lst ds) (.ref l):=by
 have fr:Fr F H Z H (Z.put l (.frz ds)):=⟨fun b o x f e=>⟨e,by
  by_cases hb:b=l
  ·subst hb;rw[h] at x;cases x
  ·rw[Om.Kw hb];exact x⟩,fun _ _=>rfl⟩
 obtain⟨vs,e1,e2⟩:=R.own l _ h
 have hF:F l=false:=by
  cases e:F l with
  |false=>rfl
  |true=>have:=(R.hid l e).1;rw[h] at this;cases this
 have dl:Dat (cut F H (Z.put l (.frz ds))) (.lst ds) (.ref l):=by
  simp only[Dat];exact⟨l,vs,rfl,bi.mpr ⟨by rw[Om.Kv];rfl,hF,e1⟩,(RVs.dats.mp e2).same fr.same⟩
 refine ⟨⟨fun k zs e=>?_,fun k es e=>?_,fun b f=>?_,fun k ks e=>(by
  have hk:k≠l:=fun z=>(by subst z;rw[Om.Kv] at e;cases e)
  rw[Om.Kw hk] at e;obtain⟨us,q1,q2⟩:=R.dic k ks e;exact⟨us,q1,q2.same fr.same⟩),fun k ks e=>(by
  have hk:k≠l:=fun z=>(by subst z;rw[Om.Kv] at e;cases e)
  rw[Om.Kw hk] at e;obtain⟨us,q1,q2⟩:=R.sto k ks e;exact⟨us,q1,q2.same fr.same⟩)⟩,fr,dl⟩
 ·by_cases hk:k=l
  ·subst hk;rw[Om.Kv] at e;cases e
  ·rw[Om.Kw hk] at e
   obtain⟨us,q1,q2⟩:=R.own k zs e;exact⟨us,q1,q2.same fr.same⟩
 ·by_cases hk:k=l
  ·subst hk;rw[Om.Kv] at e;cases e;exact dl
  ·rw[Om.Kw hk] at e;exact(R.frz k es e).same fr.same
 ·obtain⟨x,o,q⟩:=R.hid b f
  have hb:b≠l:=fun z=>by subst z;rw[h] at x;cases x
  exact⟨by rw[Om.Kw hb];exact x,o,q⟩
theorem Rep.hide(R:Rep F H Z){l:Addr}{vs:List V}(h:H l=none):Rep (F.add l) (upd H l (.lst vs)) Z/\cut (F.add l) (upd H l (.lst vs)) Z=cut F H Z:=by
 obtain⟨f1,f2⟩:=R.free h
 have c:cut (F.add l) (upd H l (.lst vs)) Z=cut F H Z:=by
  funext b
  unfold cut Fs.add;by_cases hb:b=l
  ·subst hb;simp[h]
  ·rw[ah hb];simp[hb]
 refine⟨⟨fun k zs e=>?_,fun k ds e=>?_,fun b f=>?_,fun k ks e=>(by rw[c];obtain⟨us,q1,q2⟩:=R.dic k ks e;exact⟨us,by rw[ah (av q1 h)];exact q1,q2⟩),fun k ks e=>(by rw[c];obtain⟨us,q1,q2⟩:=R.sto k ks e;exact⟨us,by rw[ah (av q1 h)];exact q1,q2⟩)⟩,c⟩
 ·rw[c]
  obtain⟨us,q1,q2⟩:=R.own k zs e;exact⟨us,by rw[ah (av q1 h)];exact q1,q2⟩
 ·rw[c];exact R.frz k ds e
 ·by_cases hb:b=l
  ·subst hb;exact⟨f1,_,aN⟩
  ·have f':F b=true:=by simpa[Fs.add,hb] using f
   obtain⟨x,o,q⟩:=R.hid b f';exact⟨x,o,by rw[ah hb];exact q⟩
theorem Rep.hwrite(R:Rep F H Z){l:Addr}{vs:List V}(h:F l=true):Rep F (upd H l (.lst vs)) Z/\cut F (upd H l (.lst vs)) Z=cut F H Z:=by
 have c:cut F (upd H l (.lst vs)) Z=cut F H Z:=by
  funext b
  unfold cut;by_cases hb:b=l
  ·subst hb;simp[h]
  ·rw[ah hb]
 refine ⟨⟨fun k zs e=>?_,fun k ds e=>?_,fun b f=>?_,fun k ks e=>(by
  have hk:k≠l:=fun z=>(by subst z;rw[(R.hid _ h).1] at e;cases e)
  rw[c,ah hk];exact R.dic k ks e),fun k ks e=>(by
  have hk:k≠l:=fun z=>(by subst z;rw[(R.hid _ h).1] at e;cases e)
  rw[c,ah hk];exact R.sto k ks e)⟩,c⟩
 ·rw[c]
  obtain⟨us,q1,q2⟩:=R.own k zs e;have hk:k≠l:=fun z=>by subst z;rw[(R.hid _ h).1] at e;cases e
  exact⟨us,by rw[ah hk];exact q1,q2⟩
 ·rw[c];exact R.frz k ds e
 ·by_cases hb:b=l
  ·subst hb;exact⟨(R.hid _ h).1,_,aN⟩
  ·obtain⟨x,o,q⟩:=R.hid b f
   exact⟨x,o,by rw[ah hb];exact q⟩
theorem Rep.unhide{l:Addr}{vs:List V}(R:Rep (F.add l) H Z)(hF:F l=false)(h:H l=some (.lst vs)):
  Rep F H Z/\bH (cut (F.add l) H Z) (cut F H Z)/\cut F H Z l=some (.lst vs):=by
 have hl:Z l=none:=(R.hid l (by simp[Fs.add])).1
 have sm:bH (cut (F.add l) H Z) (cut F H Z):=fun b o e=>by
  obtain⟨x,f,e⟩:=bi.mp e;refine bi.mpr ⟨x,?_,e⟩;unfold Fs.add at f
  cases q:F b with
  |false=>rfl
  |true=>rw[q] at f;simp at f
 refine⟨⟨fun k zs e=>?_,fun k ds e=>(R.frz k ds e).same sm,fun b f=>R.hid b (by simp[Fs.add,f]),fun k ks e=>(by obtain⟨us,q1,q2⟩:=R.dic k ks e;exact⟨us,q1,q2.same sm⟩),fun k ks e=>(by obtain⟨us,q1,q2⟩:=R.sto k ks e;exact⟨us,q1,q2.same sm⟩)⟩,sm,bi.mpr ⟨by rw[hl];rfl,hF,h⟩⟩
 obtain⟨us,q1,q2⟩:=R.own k zs e;exact⟨us,q1,q2.same sm⟩
theorem Rep.K6{l:Addr}{vs:List V}{xs:List AV}(R:Rep (F.add l) H Z)(hF:F l=false)(h:H l=some (.lst vs))(hv:RVs (cut (F.add l) H Z) xs vs):
  Rep F H (Z.put l (.own xs))/\bH (cut (F.add l) H Z) (cut F H (Z.put l (.own xs))):=by
 have hl:Z l=none:=(R.hid l (by simp[Fs.add])).1
 have sm:bH (cut (F.add l) H Z) (cut F H (Z.put l (.own xs))):=fun b o e=>by
  obtain⟨x,f,e⟩:=bi.mp e;have hb:b≠l:=fun z=>by subst z;simp[Fs.add] at f
  refine bi.mpr ⟨by rw[Om.Kw hb];exact x,?_,e⟩
  unfold Fs.add at f
  cases q:F b with
  |false=>rfl
  |true=>rw[q] at f;simp at f
 refine ⟨⟨fun k zs e=>?_,fun k ds e=>?_,fun b f=>?_,fun k ks e=>(by
  have hk:k≠l:=fun z=>(by subst z;rw[Om.Kv] at e;cases e)
  rw[Om.Kw hk] at e;obtain⟨us,q1,q2⟩:=R.dic k ks e;exact⟨us,q1,q2.same sm⟩),fun k ks e=>(by
  have hk:k≠l:=fun z=>(by subst z;rw[Om.Kv] at e;cases e)
  rw[Om.Kw hk] at e;obtain⟨us,q1,q2⟩:=R.sto k ks e;exact⟨us,q1,q2.same sm⟩)⟩,sm⟩
 ·by_cases hk:k=l
  ·subst hk;rw[Om.Kv] at e;cases e;exact⟨vs,h,hv.same sm⟩
  ·rw[Om.Kw hk] at e
   obtain⟨us,q1,q2⟩:=R.own k zs e;exact⟨us,q1,q2.same sm⟩
 ·by_cases hk:k=l
  ·subst hk;rw[Om.Kv] at e;cases e
  ·rw[Om.Kw hk] at e;exact(R.frz k ds e).same sm
 ·have hb:b≠l:=fun z=>by subst z;rw[f] at hF;cases hF
  rw[Om.Kw hb];exact R.hid b (by simp[Fs.add,f])
end
noncomputable def LP{α β:Type}(R:Hp->α->β->Prop)(F:Fs)(H:Hp)(Z:Om)(Q':α->Om->Prop)(Q:β->Hp->Prop):Prop:=
 ∀a Z' v H',Rep F H' Z'->Fr F H Z H' Z'->R (cut F H' Z') a v->Q' a Z'->Q v H'
theorem LP.fr{α β:Type}{R:Hp->α->β->Prop}{F:Fs}{H H1:Hp}{Z Z1:Om}{Q':α->Om->Prop}{Q:β->Hp->Prop}(k:LP R F H Z Q' Q)(f:Fr F H Z H1 Z1):LP R F H1 Z1 Q' Q:=
 fun a Z' v H' rp fr rv q=>k a Z' v H' rp (f.trans fr) rv q
structure Ref{α β:Type}(R:Hp->α->β->Prop)(t:St->Hp->(β->Hp->Prop)->Prop)(t':SA->Om->(α->Om->Prop)->Prop):Prop where
 run:∀(F:Fs)(H:Hp)(Z:Om)(σ:St)(ρ:SA)(Q:β->Hp->Prop)(Q':α->Om->Prop),Rep F H Z->RS (cut F H Z) ρ σ->t' ρ Z Q'->LP R F H Z Q' Q->t σ H Q
theorem Ref.go{α β:Type}{R:Hp->α->β->Prop}{t:St->Hp->(β->Hp->Prop)->Prop}{t':SA->Om->(α->Om->Prop)->Prop}(h:Ref R t t'){F:Fs}{H:Hp}{Z:Om}{σ:St}{ρ:SA}{Q:β->Hp->Prop}{Q':α->Om->Prop}(rp:Rep F H Z)(rs:RS (cut F H Z) ρ σ)(w:t' ρ Z Q')(k:∀a Z1 v H1,Rep F H1 Z1->Fr F H Z H1 Z1->RS (cut F H1 Z1) ρ σ->R (cut F H1 Z1) a v->Q' a Z1->Q v H1):t σ H Q:=
 h.run F H Z σ ρ Q Q' rp rs w fun a Z1 v H1 rp1 fr1 rv q=>k a Z1 v H1 rp1 fr1 (rs.same fr1.same) rv q
noncomputable abbrev AE:=SA->Om->(AV->Om->Prop)->Prop
noncomputable abbrev AT:=SA->Om->(Bool->Om->Prop)->Prop
noncomputable abbrev AA:=SA->Om->(List AV->Om->Prop)->Prop
noncomputable def REq{α:Type}(_:Hp)(a b:α):Prop:=a=b
noncomputable abbrev aD(t:TE)(t':AE):Prop:=Ref RV t t'
noncomputable abbrev fS(t:TT)(t':AT):Prop:=Ref REq t t'
noncomputable abbrev jL(t:TA)(t':AA):Prop:=Ref RVs t t'
structure bj where
 nx:SA->Om->Prop
 rt:AV->Om->Prop
 bk:SA->Om->Prop:=fun _ _=>False
 ct:SA->Om->Prop:=fun _ _=>False
noncomputable abbrev AS:=bj->SA->Om->Prop
structure LE(F:Fs)(H:Hp)(Z:Om)(D':bj)(D:iL):Prop where
 nx:LP RS F H Z D'.nx D.nx
 rt:LP RV F H Z D'.rt D.rt
 bk:LP RS F H Z D'.bk D.bk
 ct:LP RS F H Z D'.ct D.ct
theorem LE.fr{F:Fs}{H H1:Hp}{Z Z1:Om}{D':bj}{D:iL}(k:LE F H Z D' D)(f:Fr F H Z H1 Z1):LE F H1 Z1 D' D:=⟨k.nx.fr f,k.rt.fr f,k.bk.fr f,k.ct.fr f⟩
structure eB(t:TS)(t':AS):Prop where
 run:∀(F:Fs)(H:Hp)(Z:Om)(σ:St)(ρ:SA)(D:iL)(D':bj),Rep F H Z->RS (cut F H Z) ρ σ->t' D' ρ Z->LE F H Z D' D->t D σ H
noncomputable abbrev AG:=AV->SA->Om->(SA->Om->Prop)->Prop
noncomputable abbrev AGs:=List AV->SA->Om->(SA->Om->Prop)->Prop
structure jK(g:TG)(g':AG):Prop where
 run:∀(F:Fs)(H:Hp)(Z:Om)(σ:St)(ρ:SA)(v:V)(a:AV)(Q:St->Hp->Prop)(Q':SA->Om->Prop),Rep F H Z->RS (cut F H Z) ρ σ->RV (cut F H Z) a v->g' a ρ Z Q'->LP RS F H Z Q' Q->g v σ H Q
structure xY(g:TGs)(g':AGs):Prop where
 run:∀(F:Fs)(H:Hp)(Z:Om)(σ:St)(ρ:SA)(v:List V)(a:List AV)(Q:St->Hp->Prop)(Q':SA->Om->Prop),Rep F H Z->RS (cut F H Z) ρ σ->RVs (cut F H Z) a v->g' a ρ Z Q'->LP RS F H Z Q' Q->g v σ H Q
noncomputable abbrev ASp:=List AV->Om->(AV->Om->Prop)->Prop
noncomputable def c9(sp:ASp):Sp:=fun vs H Q _=>∃(F:Fs)(xs:List AV)(Z:Om)(Q':AV->Om->Prop),Rep F H Z/\RVs (cut F H Z) xs vs/\sp xs Z Q'/\LP RV F H Z Q' Q
noncomputable def Fb:AS:=fun D ρ Z=>D.nx ρ Z
noncomputable def DW(t u:AS):AS:=fun D ρ Z=>t { D with nx:=u D } ρ Z
noncomputable def p6(te:AE):AS:=fun D ρ Z=>te ρ Z fun _ Z1=>D.nx ρ Z1
noncomputable def IO(te:AE):AS:=fun D ρ Z=>te ρ Z D.rt
noncomputable def C8(c:AT)(t u:AS):AS:=fun D ρ Z=>c ρ Z fun b Z1=>if b=true then t D ρ Z1 else u D ρ Z1
noncomputable def Ha(te:AE)(g:AG):AS:=fun D ρ Z=>te ρ Z fun x Z1=>g x ρ Z1 D.nx
noncomputable def GX(c:AT)(tb:AS):AS:=fun D ρ Z=>∃W:Nat->SA->Om->Prop,(∃m,W m ρ Z)/\∀m ρ Z,W m ρ Z ->
 c ρ Z fun b Z1=>if b=true then ∃N:SA->Om->Prop,(∀ρ' Z',N ρ' Z'->∃m',m'<m/\W m' ρ' Z')/\tb { D with nx:=N,ct:=N,bk:=D.nx } ρ Z1 else D.nx ρ Z1
noncomputable def eV(i:Nat):AG:=fun v ρ Z Q=>Q (ρ.set i (some v)) Z
noncomputable def yx:AGs:=fun vs ρ Z Q=>vs=[]/\Q ρ Z
noncomputable def kn(t:AG)(u:AGs):AGs:=fun vs ρ Z Q=>∃v r,vs=v::r/\t v ρ Z fun ρ' Z'=>u r ρ' Z' Q
section
variable{t u:TS}{t' u':AS}{te:TE}{te':AE}{tc:TT}{tc':AT}{g:TG}{g':AG}{gs:TGs}{gs':AGs}
set_option tactic.hygienic true in
theorem RS.set{G:Hp}{ρ:SA}{σ:St}{i:Nat}{a:AV}{v:V}(h:RS G ρ σ)(r:RV G a v):RS G (ρ.set i (some a)) (σ.set i (some v)):=by
 refine⟨by simp[h.1],fun j b e=>?_⟩
 by_cases hj:j=i
 ·subst hj
  rw[List.getElem?_set] at e;rw[List.getElem?_set];simp only[zaX] at e ⊢;split at e
  ·rename_i hl
   cases e;rw[zaf (h.1 ▸ hl)];exact⟨v,rfl,r⟩
  ·cases e
 ·rw[zcJ (zbJ hj)] at e
  rw[zcJ (zbJ hj)];exact h.2 j b e
theorem bw:eB EW Fb:=⟨fun F H Z σ ρ D D' rp rs h k=>k.nx ρ Z σ H rp .refl rs h⟩
theorem aw(h1:eB t t')(h2:eB u u'):eB (IS t u) (DW t' u'):=⟨fun F H Z σ ρ D D' rp rs h k=>
 h1.run F H Z σ ρ _ _ rp rs h ⟨fun ρ1 Z1 σ1 H1 rp1 fr1 rs1 q=>h2.run F H1 Z1 σ1 ρ1 D D' rp1 rs1 q (k.fr fr1),k.rt,k.bk,k.ct⟩⟩
theorem eZ(h:aD te te'):eB (Fv te) (p6 te'):=⟨fun F H Z σ ρ D D' rp rs w k=>h.go rp rs w fun a Z1 v H1 rp1 fr1 rs1 rv q=>k.nx ρ Z1 σ H1 rp1 fr1 rs1 q⟩
theorem a0(h:aD te te'):eB (HU te) (IO te'):=⟨fun F H Z σ ρ D D' rp rs w k=>h.run F H Z σ ρ _ _ rp rs w k.rt⟩
theorem dC(hc:fS tc tc')(h1:eB t t')(h2:eB u u'):eB (Iv tc t u) (C8 tc' t' u'):=⟨fun F H Z σ ρ D D' rp rs w k=>
 hc.go rp rs w fun a Z1 v H1 rp1 fr1 rs1 rv q=>by
  cases (show a=v from rv)
  cases a with
  |true=>rw[zaf rfl] at q ⊢;exact h1.run F H1 Z1 σ ρ D D' rp1 rs1 q (k.fr fr1)
  |false=>rw[zad zat] at q ⊢;exact h2.run F H1 Z1 σ ρ D D' rp1 rs1 q (k.fr fr1)⟩
theorem aZ(h:aD te te')(hg:jK g g'):eB (Dv te g) (Ha te' g'):=⟨fun F H Z σ ρ D D' rp rs w k=>h.go rp rs w fun a Z1 v H1 rp1 fr1 rs1 rv q=>
 hg.run F H1 Z1 σ ρ v a _ _ rp1 rs1 rv q (k.nx.fr fr1)⟩
theorem am{i:Nat}:jK (yg i) (eV i):=⟨fun F H Z σ ρ v a Q Q' rp rs rv w k=>k _ Z _ H rp .refl (rs.set rv) w⟩
theorem nW:xY HS yx:=⟨fun F H Z σ ρ vs as Q Q' rp rs rv w k=>by
 obtain⟨rfl,w⟩:=w
 exact⟨rv,k ρ Z σ H rp .refl rs w⟩⟩
theorem ci(h1:jK g g')(h2:xY gs gs'):xY (EH g gs) (kn g' gs'):=⟨fun F H Z σ ρ vs as Q Q' rp rs rv w k=>by
 obtain⟨a,r,rfl,w⟩:=w;obtain⟨v,us,rfl,rv1,rv2⟩:=rv
 exact⟨v,us,rfl,h1.run F H Z σ ρ v a _ _ rp rs rv1 w fun ρ1 Z1 σ1 H1 rp1 fr1 rs1 q=>h2.run F H1 Z1 σ1 ρ1 us r Q Q' rp1 rs1 (rv2.same fr1.same) q (k.fr fr1)⟩⟩
theorem mi(hc:fS tc tc')(hb:eB t t'):eB (At tc t) (GX tc' t'):=⟨fun F H Z σ ρ D D' rp rs w k=>by
 obtain⟨W,⟨m0,w0⟩,turn⟩:=w;refine⟨fun m σ1 H1=>∃ρ1 Z1,Rep F H1 Z1/\RS (cut F H1 Z1) ρ1 σ1/\Fr F H Z H1 Z1/\W m ρ1 Z1,⟨m0,ρ,Z,rp,rs,.refl,w0⟩,?_⟩;rintro m σ1 H1 ⟨ρ1,Z1,rp1,rs1,fr1,w1⟩;refine hc.go rp1 rs1 (turn m ρ1 Z1 w1) fun a Z2 v H2 rp2 fr2 rs2 rv q=>?_;cases (show a=v from rv)
 have k2:=k.fr (fr1.trans fr2)
 cases a with
 |true=>
  rw[zaf rfl] at q ⊢;obtain⟨N,hN,q⟩:=q;refine⟨fun σ' H'=>∃ρ' Z',Rep F H' Z'/\RS (cut F H' Z') ρ' σ'/\Fr F H Z H' Z'/\N ρ' Z',?_,hb.run F H2 Z2 σ1 ρ1 _ _ rp2 rs2 q ⟨?_,k2.rt,k2.nx,?_⟩⟩
  ·rintro σ' H' ⟨ρ',Z',e1,e2,e3,e4⟩
   obtain⟨m',hm,z⟩:=hN _ _ e4;exact⟨m',hm,ρ',Z',e1,e2,e3,z⟩
  ·exact fun ρ' Z' σ' H' e1 e2 e3 e4=>⟨ρ',Z',e1,e3,(fr1.trans fr2).trans e2,e4⟩
  ·exact fun ρ' Z' σ' H' e1 e2 e3 e4=>⟨ρ',Z',e1,e3,(fr1.trans fr2).trans e2,e4⟩
 |false=>
  rw[zad zat] at q ⊢
  exact k2.nx ρ1 Z2 σ1 H2 rp2 .refl rs2 q⟩
end
noncomputable def vm(G:Hp)(as:List AV)(J:It):Prop:=∀(F:Fs)(H:Hp)(Z:Om),Rep F H Z->bH G (cut F H Z)->J.stop as.length H /\
 ∀(i:Nat)(a:AV),as[i]?=some a->J.go i H/\∀x H',J.yld i H x H'->Rep F H' Z/\Fr F H Z H' Z/\RV (cut F H' Z) a x
noncomputable abbrev AI:=SA->Om->(List AV->Om->Prop)->Prop
noncomputable abbrev oo(t:TI)(t':AI):Prop:=Ref vm t t'
noncomputable def iR(g:AG)(tb:AS)(D:bj):List AV->SA->Om->Prop
 | [],ρ,Z=>D.nx ρ Z
 |a::as,ρ,Z=>g a ρ Z fun ρ1 Z1=>tb { nx:=iR g tb D as,ct:=iR g tb D as,bk:=D.nx,rt:=D.rt } ρ1 Z1
noncomputable def Jq(wi:AI)(g:AG)(tb:AS):AS:=fun D ρ Z=>wi ρ Z fun as Z1=>iR g tb D as ρ Z1
theorem dE{α:Type}{as:List α}{i:Nat}(h:i<as.length):∃a,as[i]?=some a/\as.drop i=a::as.drop (i+1):=
 ⟨as[i],zae h,zdx h⟩
theorem gJ{wi:TI}{wi':AI}{g:TG}{g':AG}{t:TS}{t':AS}(hi:oo wi wi')(hg:jK g g')(hb:eB t t'):eB (FS wi g t) (Jq wi' g' t'):=⟨fun F H Z σ ρ D D' rp rs w k=>by
 rw[Dh];refine hi.go rp rs w fun as Z1 J H1 rp1 fr1 rs1 it q=>?_;refine⟨fun i m σ2 H2=>m+i=as.length/\∃ρ2 Z2,Rep F H2 Z2/\RS (cut F H2 Z2) ρ2 σ2/\Fr F H1 Z1 H2 Z2/\iR g' t' D' (as.drop i) ρ2 Z2,⟨as.length,rfl,ρ,Z1,rp1,rs1,.refl,q⟩,?_⟩;rintro i m σ2 H2 ⟨hm,ρ2,Z2,rp2,rs2,fr2,q2⟩;obtain⟨stop,go⟩:=it F H2 Z2 rp2 fr2.same;by_cases hl:i<as.length
 ·obtain⟨a,ha,hd⟩:=dE hl
  rw[hd] at q2;obtain⟨g1,y1⟩:=go i a ha;refine .inr ⟨g1,fun σ' H'=>m-1+(i+1)=as.length/\∃ρ' Z',Rep F H' Z'/\RS (cut F H' Z') ρ' σ'/\Fr F H1 Z1 H' Z'/\iR g' t' D' (as.drop (i+1)) ρ' Z',fun σ' H' z=>⟨m-1,by omega,z⟩,fun x H' hy=>?_⟩
  obtain⟨rp3,fr3,rv3⟩:=y1 x H' hy;have fr13:=(fr2.trans fr3);refine hg.run F H' Z2 σ2 ρ2 x a _ _ rp3 (rs2.same fr3.same) rv3 q2 fun ρ4 Z4 σ4 H4 rp4 fr4 rs4 q4=>?_;have k4:=k.fr ((fr1.trans fr13).trans fr4);refine hb.run F H4 Z4 σ4 ρ4 _ _ rp4 rs4 q4 ⟨?_,k4.rt,k4.nx,?_⟩
  ·exact fun ρ' Z' σ' H'' e1 e2 e3 e4=>⟨by omega,ρ',Z',e1,e3,(fr13.trans fr4).trans e2,e4⟩
  ·exact fun ρ' Z' σ' H'' e1 e2 e3 e4=>⟨by omega,ρ',Z',e1,e3,(fr13.trans fr4).trans e2,e4⟩
 ·have hi:i=as.length:=by omega
  subst hi;rw[zcS] at q2
  exact .inl ⟨stop,k.nx ρ2 Z2 σ2 H2 rp2 (fr1.trans fr2) rs2 q2⟩⟩
noncomputable abbrev AL:=List AV->SA->Om->(List AV->SA->Om->Prop)->Prop
structure Fa(l:Addr)(F:Fs)(H:Hp)(Z:Om)(H':Hp)(Z':Om):Prop where
 st:∀b o,ow (Z b)=false->F b=false->H b=some o->H' b=some o/\ow (Z' b)=false
 hd:∀b,F b=true->b≠l->H' b=H b
theorem Fr.fa{l:Addr}{F:Fs}{H H':Hp}{Z Z':Om}(h:Fr F H Z H' Z'):Fa l F H Z H' Z':=⟨h.st,fun b f _=>h.hd b f⟩
theorem Fa.trans{l:Addr}{F:Fs}{H H1 H2:Hp}{Z Z1 Z2:Om}(a:Fa l F H Z H1 Z1)(b:Fa l F H1 Z1 H2 Z2):Fa l F H Z H2 Z2:=
 ⟨fun c o h f e=>let ⟨x,y⟩:=a.st c o h f e;b.st c o y f x,fun c h n=>(b.hd c h n).trans (a.hd c h n)⟩
theorem Fa.same{l:Addr}{F:Fs}{H H':Hp}{Z Z':Om}(a:Fa l F H Z H' Z'):bH (cut F H Z) (cut F H' Z'):=fun b o e=>by
 obtain⟨h,f,e⟩:=bi.mp e;obtain⟨x,y⟩:=a.st b o h f e;exact bi.mpr ⟨y,f,x⟩
noncomputable def LL(l:Addr)(F:Fs)(H:Hp)(Z:Om)(K':List AV->SA->Om->Prop)(K:St->Hp->Prop):Prop:=
 ∀xs vs ρ Z' σ H',Rep F H' Z'->Fa l F H Z H' Z'->RS (cut F H' Z') ρ σ->H' l=some (.lst vs)->RVs (cut F H' Z') xs vs->K' xs ρ Z'->K σ H'
theorem LL.fa{l:Addr}{F:Fs}{H H1:Hp}{Z Z1:Om}{K':List AV->SA->Om->Prop}{K:St->Hp->Prop}(k:LL l F H Z K' K)(f:Fa l F H Z H1 Z1):LL l F H1 Z1 K' K:=
 fun xs vs ρ Z' σ H' e1 e2 e3 e4 e5 e6=>k xs vs ρ Z' σ H' e1 (f.trans e2) e3 e4 e5 e6
structure tP(l:TL)(l':AL):Prop where
 run:∀(F:Fs)(H:Hp)(Z:Om)(σ:St)(ρ:SA)(acc:Addr)(vs:List V)(xs:List AV)(K:St->Hp->Prop)(K':List AV->SA->Om->Prop),Rep F H Z->RS (cut F H Z) ρ σ->F acc=true->H acc=some (.lst vs)->RVs (cut F H Z) xs vs ->
  l' xs ρ Z K'->LL acc F H Z K' K->l acc σ H K
noncomputable def eg:AT:=fun _ Z Q=>Q true Z
noncomputable def jQ(te:AE):AL:=fun xs ρ Z K=>te ρ Z fun y Z1=>xs.length<sizeLine/\K (xs++[y]) ρ Z1
noncomputable def bK(g:AG)(tc:AT)(l:AL):List AV->AL
 | [],xs,ρ,Z,K=>K xs ρ Z
 |a::as,xs,ρ,Z,K=>g a ρ Z fun ρ1 Z1=>tc ρ1 Z1 fun b Z2=>if b=true then l xs ρ1 Z2 (fun xs' ρ' Z'=>bK g tc l as xs' ρ' Z' K) else bK g tc l as xs ρ1 Z2 K
noncomputable def FC(wi:AI)(g:AG)(tc:AT)(l:AL):AL:=fun xs ρ Z K=>wi ρ Z fun as Z1=>bK g tc l as xs ρ Z1 K
noncomputable def kb(src:List (Option Nat))(ρ:SA):SA:=src.map fun o=>match o with|none=>none|some j=>(ρ[j]?).join
noncomputable def und:List AV->Option (List D)
 | []=>some []
 |.d x::r=>(und r).map (x::·)
 |_=>none
theorem be:∀ds:List D,und (ds.map AV.d)=some ds
 | []=>rfl
 |d::ds=>by simp[und,be ds]
theorem dP:∀ {xs:List AV} {ds:List D},und xs=some ds->xs=ds.map AV.d
 | [],ds,h=>by cases h;rfl
 |.d x::r,ds,h=>by
  simp only[und,zas] at h;obtain⟨es,e1,rfl⟩:=h;rw[dP e1];rfl
 |.r _::_,_,h=>by simp[und] at h
 |.p _ _::_,_,h=>by simp[und] at h
noncomputable def E8(src:List (Option Nat))(wi:AI)(g:AG)(tc:AT)(l:AL):AE:=fun ρ Z Q=>wi ρ Z fun as Z1=>bK g tc l as [] (kb src ρ) Z1 fun xs _ Z'=>∃ds,und xs=some ds/\Q (.d (.lst ds)) Z'
section
variable{te:TE}{te':AE}{tc:TT}{tc':AT}{g:TG}{g':AG}{wi:TI}{wi':AI}{l:TL}{l':AL}{src:List (Option Nat)}
theorem gF:fS iE eg:=⟨fun F H Z σ ρ Q Q' rp rs w k=>k true Z true H rp .refl rfl w⟩
theorem cN(h:aD te te'):tP (EV te) (jQ te'):=⟨fun F H Z σ ρ acc vs xs K K' rp rs fa ha rx w k=>by
 refine h.go rp rs w fun y Z1 v H1 rp1 fr1 rs1 rv q=>?_;obtain⟨q1,q2⟩:=q;have ha1:H1 acc=some (.lst vs):=(fr1.hd acc fa).trans ha;obtain⟨rp2,c2⟩:=rp1.hwrite (vs:=vs++[v]) fa;refine⟨vs,ha1,by rw[rx.length];exact q1,k (xs++[y]) (vs++[v]) ρ Z1 σ _ rp2 ?_ ?_ aN ?_ q2⟩
 ·refine fr1.fa.trans ⟨fun b o e1 e2 e3=>⟨?_,e1⟩,fun b f n=>ah n⟩
  have hb:b≠acc:=fun z=>by subst z;rw[fa] at e2;cases e2
  rw[ah hb];exact e3
 ·rw[c2];exact rs1
 ·rw[c2];exact(rx.same fr1.same).append (.one rv)⟩
theorem CK(hg:jK g g')(hc:fS tc tc')(hl:tP l l'){G:Hp}{as:List AV}{J:It}(it:vm G as J){F:Fs}{H:Hp}{Z:Om}{σ:St}{ρ:SA}{acc:Addr}{vs:List V}{xs:List AV}{K:St->Hp->Prop}{K':List AV->SA->Om->Prop}(rp:Rep F H Z)(rs:RS (cut F H Z) ρ σ)(fa:F acc=true)(ha:H acc=some (.lst vs))(rx:RVs (cut F H Z) xs vs)(sG:bH G (cut F H Z))(w:bK g' tc' l' as xs ρ Z K')(k:LL acc F H Z K' K):nn J g tc l acc σ H K:=by
 refine⟨fun i m σ2 H2=>m+i=as.length/\∃ρ2 Z2 vs2 xs2,Rep F H2 Z2/\RS (cut F H2 Z2) ρ2 σ2/\Fa acc F H Z H2 Z2/\H2 acc=some (.lst vs2)/\RVs (cut F H2 Z2) xs2 vs2/\bK g' tc' l' (as.drop i) xs2 ρ2 Z2 K',
  ⟨as.length,rfl,ρ,Z,vs,xs,rp,rs,Fr.refl.fa,ha,rx,w⟩,?_⟩
 rintro i m σ2 H2 ⟨hm,ρ2,Z2,vs2,xs2,rp2,rs2,fr2,ha2,rx2,q2⟩;obtain⟨stop,go⟩:=it F H2 Z2 rp2 (sG.trans fr2.same);by_cases hl':i<as.length
 ·obtain⟨a,hai,hd⟩:=dE hl'
  rw[hd] at q2;obtain⟨g1,y1⟩:=go i a hai;refine .inr ⟨g1,fun x H' hy=>?_⟩;obtain⟨rp3,fr3,rv3⟩:=y1 x H' hy;refine hg.run F H' Z2 σ2 ρ2 x a _ _ rp3 (rs2.same fr3.same) rv3 q2 fun ρ4 Z4 σ4 H4 rp4 fr4 rs4 q4=>?_;refine hc.go rp4 rs4 q4 fun b Z5 b' H5 rp5 fr5 rs5 rb q5=>?_;cases (show b=b' from rb)
  have fr25:Fr F H2 Z2 H5 Z5:=(fr3.trans fr4).trans fr5;have ha5:H5 acc=some (.lst vs2):=(fr25.hd acc fa).trans ha2;have rx5:=rx2.same fr25.same
  cases b with
  |true=>
   rw[zaf rfl] at q5 ⊢;refine hl.run F H5 Z5 σ4 ρ4 acc vs2 xs2 _ _ rp5 rs5 fa ha5 rx5 q5 fun xs6 vs6 ρ6 Z6 σ6 H6 e1 e2 e3 e4 e5 e6=>?_;exact⟨m-1,by omega,by omega,ρ6,Z6,vs6,xs6,e1,e3,(fr2.trans fr25.fa).trans e2,e4,e5,e6⟩
  |false=>
   rw[zad zat] at q5 ⊢;exact⟨m-1,by omega,by omega,ρ4,Z5,vs2,xs2,rp5,rs5,fr2.trans fr25.fa,ha5,rx5,q5⟩
 ·have hi:i=as.length:=by omega
  subst hi;rw[zcS] at q2;exact .inl ⟨stop,k xs2 vs2 ρ2 Z2 σ2 H2 rp2 fr2 rs2 ha2 rx2 q2⟩
theorem zE(hi:oo wi wi')(hg:jK g g')(hc:fS tc tc')(hl:tP l l'):tP (JE wi g tc l) (FC wi' g' tc' l'):=⟨fun F H Z σ ρ acc vs xs K K' rp rs fa ha rx w k=>
 hi.go rp rs w fun as Z1 J H1 rp1 fr1 rs1 it q=>CK hg hc hl it rp1 rs1 fa ((fr1.hd acc fa).trans ha) (rx.same fr1.same) (bH.refl _) q (k.fa fr1.fa)⟩
theorem RS.blk{G:Hp}{ρ:SA}{σ:St}(h:RS G ρ σ):RS G (kb src ρ) (pP src σ):=by
 refine⟨by simp[kb,pP],fun i a e=>?_⟩
 unfold kb at e;unfold pP;rw[zam] at e ⊢
 cases q:src[i]? with
 |none=>rw[q] at e;simp at e
 |some o=>
  rw[q] at e
  cases o with
  |none=>simp at e
  |some j=>
   simp only[zcc,zaH] at e ⊢
   have e':ρ[j]?=some (some a):=by
    cases z:ρ[j]? with
    |none=>rw[z] at e;simp at e
    |some y=>rw[z] at e;simp at e;rw[e]
   obtain⟨v,e1,e2⟩:=h.2 j a e';exact⟨v,by rw[e1];rfl,e2⟩
theorem D3(hi:oo wi wi')(hg:jK g g')(hc:fS tc tc')(hl:tP l l'){F:Fs}{H:Hp}{Z:Om}{σ:St}{ρ:SA}{Q:VK}{K':List AV->SA->Om->Prop}(rp:Rep F H Z)(rs:RS (cut F H Z) ρ σ)(w:wi' ρ Z fun as Z1=>bK g' tc' l' as [] (kb src ρ) Z1 K')(k:∀p xs vs ρ' Z' H',F p=false->(∀b o,ow (Z b)=false->F b=false->H b=some o->b≠p)->Rep (F.add p) H' Z'->Fr F H Z H' Z'->H' p=some (.lst vs)->RVs (cut (F.add p) H' Z') xs vs->K' xs ρ' Z'->Q (.ref p) H'):pc src wi g tc l σ H Q:=by
 refine hi.go rp rs w fun as Z1 J H1 rp1 fr1 rs1 it q=>fun acc hacc=>?_;obtain⟨rp2,c2⟩:=rp1.hide (vs:=[]) hacc;obtain⟨f1,f2⟩:=rp1.free hacc;have hb1:∀b,b≠acc->F b=false->(F.add acc) b=false:=fun b h f=>by simp[Fs.add,h,f]
 have hne:∀b o,ow (Z b)=false->F b=false->H b=some o->b≠acc:=fun b o h f e=>av (fr1.st b o h f e).1 hacc;refine CK (xs:=[]) hg hc hl it rp2 (by rw[c2];exact rs1.blk) (by simp[Fs.add]) aN rfl (by rw[c2];exact bH.refl _) q fun xs vs ρ' Z' σ' H' e1 e2 e3 e4 e5 e6=>?_
 refine k acc xs vs ρ' Z' H' f2 hne e1 ⟨fun b o h f e=>?_,fun b f=>?_⟩ e4 e5 e6
 ·obtain⟨x,y⟩:=fr1.st b o h f e
  have hb:=hne b o h f e;exact e2.st b o y (hb1 b hb f) (by rw[ah hb];exact x)
 ·have hb:b≠acc:=fun z=>by subst z;rw[f] at f2;cases f2
  rw[e2.hd b (by simp[Fs.add,f]) hb,ah hb,fr1.hd b f]
theorem dW(hi:oo wi wi')(hg:jK g g')(hc:fS tc tc')(hl:tP l l'):aD (pc src wi g tc l) (E8 src wi' g' tc' l'):=⟨fun F H Z σ ρ Q Q' rp rs w k=>by
 refine D3 hi hg hc hl rp rs w fun p xs vs ρ' Z' H' f hne rp1 fr1 e1 e2 q=>?_;obtain⟨ds,hu,q⟩:=q;cases dP hu;obtain⟨rp2,sm,hp⟩:=rp1.unhide f e1;refine k (.d (.lst ds)) Z' _ H' rp2 fr1 ?_ q;simp only[RV,Dat]
 exact⟨p,vs,rfl,hp,RVs.dats.mp (e2.same sm)⟩⟩
end
noncomputable def bo(Z:Om):AV->Option D
 |.d x=>some x
 |.r (.ref l)=>match Z l with
  |some (.own xs)=>(und xs).map D.lst
  |some (.frz ds)=>some (.lst ds)
  |_=>none
 |_=>none
noncomputable def dO(Z:Om):AV->Option (List AV)
 |.d (.lst ds)=>some (ds.map AV.d)
 |.r (.ref l)=>match Z l with
  |some (.own xs)=>some xs
  |some (.frz ds)=>some (ds.map AV.d)
  |_=>none
 |_=>none
noncomputable def gA:AV->Option (List AV)
 |.d (.tup ds)=>some (ds.map AV.d)
 |_=>none
noncomputable def oR(Z:Om)(x:AV)(K:D->Om->Prop):Prop:=match x with
 |.d x=>K x Z
 |.r (.ref l)=>match Z l with
  |some (.own xs)=>∃ds,und xs=some ds/\K (.lst ds) (Z.put l (.frz ds))
  |some (.frz ds)=>K (.lst ds) Z
  |_=>False
 |_=>False
section
variable{F:Fs}{H:Hp}{Z:Om}{x:AV}{v:V}
theorem jX(rp:Rep F H Z)(rv:RV (cut F H Z) x v){xs:List AV}(h:dO Z x=some xs):∃a vs,v=.ref a/\H a=some (.lst vs)/\RVs (cut F H Z) xs vs:=by
 cases x with
 |d x=>cases x with
  |lst ds=>
   simp only[dO,zaH] at h;subst h;simp only[RV,Dat] at rv;obtain⟨a,vs,rfl,e1,e2⟩:=rv;exact⟨a,vs,rfl,ar _ _ e1,RVs.dats.mpr e2⟩
  |_=>simp[dO] at h
 |p u P=>simp[dO] at h
 |r u=>
  cases (show v=u from rv)
  cases v with
  |ref l=>
   simp only[dO] at h
   cases e:Z l with
   |none=>rw[e] at h;simp at h
   |some c=>
    rw[e] at h
    cases c with
    |own ys=>
     simp only[zaH] at h;subst h;obtain⟨vs,e1,e2⟩:=rp.own l _ e;exact⟨l,vs,rfl,e1,e2⟩
    |frz ds=>
     simp only[zaH] at h;subst h;have q:=rp.frz l ds e;simp only[Dat] at q;obtain⟨a,vs,e1,e2,e3⟩:=q;cases e1;exact⟨l,vs,rfl,ar _ _ e2,RVs.dats.mpr e3⟩
    |dic ks=>simp at h
    |sto ks=>simp at h
  |_=>simp[dO] at h
theorem A1(rv:RV (cut F H Z) x v){xs:List AV}(h:gA x=some xs):∃a vs,v=.ref a/\cut F H Z a=some (.tup vs)/\RVs (cut F H Z) xs vs:=by
 cases x with
 |d x=>cases x with
  |tup ds=>
   simp only[gA,zaH] at h;subst h;simp only[RV,Dat] at rv;obtain⟨a,vs,rfl,e1,e2⟩:=rv;exact⟨a,vs,rfl,e1,RVs.dats.mpr e2⟩
  |_=>simp[gA] at h
 |p u P=>simp[gA] at h
 |r u=>simp[gA] at h
theorem je(rp:Rep F H Z)(rv:RV (cut F H Z) x v){d:D}(h:bo Z x=some d):Dat H d v:=by
 cases x with
 |d x=>
  simp only[bo,zaH] at h;subst h;exact Dat.same ar rv
 |p u P=>simp[bo] at h
 |r u=>
  cases (show v=u from rv)
  cases v with
  |ref l=>
   simp only[bo] at h
   cases e:Z l with
   |none=>rw[e] at h;simp at h
   |some c=>
    rw[e] at h
    cases c with
    |own ys=>
     simp only[zas] at h;obtain⟨ds,h1,rfl⟩:=h;cases dP h1;obtain⟨vs,e1,e2⟩:=rp.own l _ e;simp only[Dat];exact⟨l,vs,rfl,e1,(RVs.dats.mp e2).same ar⟩
    |frz ds=>
     simp only[zaH] at h;subst h;exact(rp.frz l ds e).same ar
    |dic ks=>simp at h
    |sto ks=>simp at h
  |_=>simp[bo] at h
theorem ff(rp:Rep F H Z)(rv:RV (cut F H Z) x v){ds:List D}(h:bo Z x=some (.lst ds)):∃a vs,v=.ref a/\H a=some (.lst vs)/\ao (cut F H Z) ds vs:=by
 have:dO Z x=some (ds.map AV.d):=by
  cases x with
  |d x=>simp only[bo,zaH] at h;subst h;rfl
  |p u P=>simp[bo] at h
  |r u=>cases u with
   |ref l=>
    simp only[bo] at h;simp only[dO]
    cases e:Z l with
    |none=>rw[e] at h;simp at h
    |some c=>
     rw[e] at h
     cases c with
     |own ys=>
      simp only[zas] at h;obtain⟨es,h1,h2⟩:=h;cases h2;rw[dP h1]
     |frz es=>simp only[zaH] at h;cases h;rfl
     |dic ks=>simp at h
     |sto ks=>simp at h
   |_=>simp[bo] at h
 obtain⟨a,vs,e1,e2,e3⟩:=jX rp rv this;exact⟨a,vs,e1,e2,RVs.dats.mp e3⟩
theorem ve(rp:Rep F H Z)(rv:RV (cut F H Z) x v){K:D->Om->Prop}(h:oR Z x K):∃d Z',Rep F H Z'/\Fr F H Z H Z'/\Dat (cut F H Z') d v/\K d Z':=by
 cases x with
 |d x=>exact⟨x,Z,rp,.refl,rv,h⟩
 |p u P=>exact h.elim
 |r u=>
  cases (show v=u from rv)
  cases v with
  |ref l=>
   simp only[oR] at h
   cases e:Z l with
   |none=>rw[e] at h;exact h.elim
   |some c=>
    rw[e] at h
    cases c with
    |own ys=>
     obtain⟨ds,h1,h2⟩:=h;cases dP h1;obtain⟨q1,q2,q3⟩:=rp.freeze e;exact⟨_,_,q1,q2,q3,h2⟩
    |frz ds=>exact⟨_,_,rp,.refl,rp.frz l ds e,h⟩
    |dic ks=>exact h.elim
    |sto ks=>exact h.elim
  |_=>exact h.elim
end
noncomputable abbrev A2:=AV->AV->Om->(AV->Om->Prop)->Prop
structure f6(r:R2)(r':A2):Prop where
 run:∀(F:Fs)(H:Hp)(Z:Om)(v u:V)(x y:AV)(Q:VK)(Q':AV->Om->Prop),Rep F H Z->RV (cut F H Z) x v->RV (cut F H Z) y u->r' x y Z Q'->LP RV F H Z Q' Q->r v u H Q
structure Iz(r:V->Hp->VK->Prop)(r':AV->Om->(AV->Om->Prop)->Prop):Prop where
 run:∀(F:Fs)(H:Hp)(Z:Om)(v:V)(x:AV)(Q:VK)(Q':AV->Om->Prop),Rep F H Z->RV (cut F H Z) x v->r' x Z Q'->LP RV F H Z Q' Q->r v H Q
structure jo(r:List V->Hp->VK->Prop)(r':List AV->Om->(AV->Om->Prop)->Prop):Prop where
 run:∀(F:Fs)(H:Hp)(Z:Om)(vs:List V)(xs:List AV)(Q:VK)(Q':AV->Om->Prop),Rep F H Z->RVs (cut F H Z) xs vs->r' xs Z Q'->LP RV F H Z Q' Q->r vs H Q
noncomputable def eO(i:Nat):AE:=fun ρ Z Q=>∃a,ρ[i]?=some (some a)/\Q a Z
noncomputable def aC(d:D):AE:=fun _ Z Q=>Q (.d d) Z
noncomputable def aOp(r:A2)(ta tb:AE):AE:=fun ρ Z Q=>ta ρ Z fun x Z1=>tb ρ Z1 fun y Z2=>r x y Z2 Q
noncomputable def aUn(r:AV->Om->(AV->Om->Prop)->Prop)(ta:AE):AE:=fun ρ Z Q=>ta ρ Z fun x Z1=>r x Z1 Q
noncomputable def sJ:AA:=fun _ Z Q=>Q [] Z
noncomputable def iN(ta:AE)(tr:AA):AA:=fun ρ Z Q=>ta ρ Z fun x Z1=>tr ρ Z1 fun xs Z2=>Q (x::xs) Z2
noncomputable def Jn(t:AA):AE:=fun ρ Z Q=>t ρ Z fun xs Z1=>xs.length<=sizeLine/\∃ds,und xs=some ds/\Q (.d (.tup ds)) Z1
noncomputable def Jz(t:AA):AE:=fun ρ Z Q=>t ρ Z fun xs Z1=>xs.length<=sizeLine/\∃ds,und xs=some ds/\Q (.d (.lst ds)) Z1
noncomputable def E2(t:AA):AE:=fun ρ Z Q=>t ρ Z fun xs Z1=>xs.length<=sizeLine/\∀p,Z1 p=none->Q (.r (.ref p)) (Z1.put p (.own xs))
noncomputable def Fq(sp:ASp)(t:AA):AE:=fun ρ Z Q=>t ρ Z fun xs Z1=>sp xs Z1 Q
noncomputable def aCB(r:List AV->Om->(AV->Om->Prop)->Prop)(t:AA):AE:=fun ρ Z Q=>t ρ Z fun xs Z1=>r xs Z1 Q
noncomputable def ym(t:AE):AT:=fun ρ Z Q=>t ρ Z fun x Z1=>∃k,x=.d (.bl k)/\Q k Z1
noncomputable def IT(t u:AT):AT:=fun ρ Z Q=>t ρ Z fun c Z1=>if c=true then u ρ Z1 Q else Q false Z1
noncomputable def aOr(t u:AT):AT:=fun ρ Z Q=>t ρ Z fun c Z1=>if c=true then Q true Z1 else u ρ Z1 Q
noncomputable def II(t:AT):AT:=fun ρ Z Q=>t ρ Z fun c Z1=>Q (!c) Z1
noncomputable def aIf(t:AT)(ta tb:AE):AE:=fun ρ Z Q=>t ρ Z fun c Z1=>if c=true then ta ρ Z1 Q else tb ρ Z1 Q
section
variable{ta tb tc:TE}{ta' tb' tc':AE}{t u:TT}{t' u':AT}{r r2:R2}{r' r2':A2}{s:TA}{s':AA}
theorem aa{i:Nat}:aD (GT i) (eO i):=⟨fun F H Z σ ρ Q Q' rp rs h k=>by
 obtain⟨a,e,q⟩:=h;obtain⟨v,e1,e2⟩:=rs.2 i a e
 exact⟨v,e1,k a Z v H rp .refl e2 q⟩⟩
theorem ap{i:Int}:aD (tC (.int i)) (aC (.int i)):=⟨fun F H Z σ ρ Q Q' rp rs h k=>k _ Z _ H rp .refl (by simp[RV,Dat]) h⟩
theorem bz{x:Str}:aD (tC (.str x)) (aC (.str x)):=⟨fun F H Z σ ρ Q Q' rp rs h k=>k _ Z _ H rp .refl (by simp[RV,Dat]) h⟩
theorem iX{b:Bool}:aD (tC (.bl b)) (aC (.bl b)):=⟨fun F H Z σ ρ Q Q' rp rs h k=>k _ Z _ H rp .refl (by simp[RV,Dat]) h⟩
noncomputable def Ik(v:V):AE:=fun _ Z Q=>Q (.r v) Z
theorem pI{v:V}:aD (tC v) (Ik v):=⟨fun F H Z σ ρ Q Q' rp rs h k=>k (.r v) Z _ H rp .refl rfl h⟩
theorem aq(h2:f6 r r')(ha:aD ta ta')(hb:aD tb tb'):aD (tOp r ta tb) (aOp r' ta' tb'):=⟨fun F H Z σ ρ Q Q' rp rs h k=>
 ha.go rp rs h fun x Z1 v H1 rp1 fr1 rs1 rv1 q1=>hb.go rp1 rs1 q1 fun y Z2 u H2 rp2 fr2 rs2 rv2 q2=>h2.run F H2 Z2 v u x y Q Q' rp2 (rv1.same fr2.same) rv2 q2 (k.fr (fr1.trans fr2))⟩
theorem JI{r:V->Hp->VK->Prop}{r':AV->Om->(AV->Om->Prop)->Prop}(h2:Iz r r')(ha:aD ta ta'):aD (tUn r ta) (aUn r' ta'):=⟨fun F H Z σ ρ Q Q' rp rs h k=>
 ha.go rp rs h fun x Z1 v H1 rp1 fr1 rs1 rv1 q1=>h2.run F H1 Z1 v x Q Q' rp1 rv1 q1 (k.fr fr1)⟩
theorem aj:jL Hw sJ:=⟨fun F H Z σ ρ Q Q' rp rs h k=>k [] Z _ H rp .refl rfl h⟩
theorem ae(ha:aD ta ta')(hs:jL s s'):jL (jI ta s) (iN ta' s'):=⟨fun F H Z σ ρ Q Q' rp rs h k=>
 ha.go rp rs h fun x Z1 v H1 rp1 fr1 rs1 rv1 q1=>hs.go rp1 rs1 q1 fun y Z2 u H2 rp2 fr2 rs2 rv2 q2=>k (x::y) Z2 (v::u) H2 rp2 (fr1.trans fr2) ⟨v,u,rfl,rv1.same fr2.same,rv2⟩ q2⟩
theorem dY(hs:jL s s'):aD (Jv s) (Jn s'):=⟨fun F H Z σ ρ Q Q' rp rs h k=>
 hs.go rp rs h fun xs Z1 vs H1 rp1 fr1 rs1 rv1 ⟨z,ds,hu,q1⟩=>⟨by rw[rv1.length];exact z,fun p hp=>by
  cases dP hu;obtain⟨rp2,fr2,hc⟩:=rp1.lay (o:=.tup vs) hp;refine k _ Z1 _ _ rp2 (fr1.trans fr2) ?_ q1;simp only[RV,Dat]
  exact⟨p,vs,rfl,hc,(RVs.dats.mp rv1).same fr2.same⟩⟩⟩
theorem kU(hs:jL s s'):aD (GW s) (Jz s'):=⟨fun F H Z σ ρ Q Q' rp rs h k=>
 hs.go rp rs h fun xs Z1 vs H1 rp1 fr1 rs1 rv1 ⟨z,ds,hu,q1⟩=>⟨by rw[rv1.length];exact z,fun p hp=>by
  cases dP hu;obtain⟨rp2,fr2,hc⟩:=rp1.lay (o:=.lst vs) hp;refine k _ Z1 _ _ rp2 (fr1.trans fr2) ?_ q1;simp only[RV,Dat]
  exact⟨p,vs,rfl,hc,(RVs.dats.mp rv1).same fr2.same⟩⟩⟩
theorem kw(hs:jL s s'):aD (GW s) (E2 s'):=⟨fun F H Z σ ρ Q Q' rp rs h k=>
 hs.go rp rs h fun xs Z1 vs H1 rp1 fr1 rs1 rv1 ⟨z,q1⟩=>⟨by rw[rv1.length];exact z,fun p hp=>by
  obtain⟨rp2,fr2⟩:=rp1.mk' (vs:=vs) hp rv1
  exact k (.r (.ref p)) _ _ _ rp2 (fr1.trans fr2) rfl (q1 p (rp1.free hp).1)⟩⟩
theorem aX{sp:ASp}{E:XK}(hs:jL s s'):aD (EK (c9 sp) [] E s) (Fq sp s'):=⟨fun F H Z σ ρ Q Q' rp rs h k=>
 hs.go rp rs h fun xs Z1 vs H1 rp1 fr1 rs1 rv1 q=>⟨F,xs,Z1,Q',rp1,by rw[zaM];exact rv1,q,k.fr fr1⟩⟩
theorem cI{r:List V->Hp->VK->Prop}{r':List AV->Om->(AV->Om->Prop)->Prop}(hr:jo r r')(hs:jL s s'):aD (tCB r s) (aCB r' s'):=⟨fun F H Z σ ρ Q Q' rp rs h k=>
 hs.go rp rs h fun xs Z1 vs H1 rp1 fr1 rs1 rv1 q=>hr.run F H1 Z1 vs xs Q Q' rp1 rv1 q (k.fr fr1)⟩
theorem aL(ha:aD ta ta'):fS (xq ta) (ym ta'):=⟨fun F H Z σ ρ Q Q' rp rs h k=>
 ha.go rp rs h fun x Z1 v H1 rp1 fr1 rs1 rv1 ⟨c,e,q⟩=>by subst e;exact⟨c,by simpa[RV,Dat] using rv1,k c Z1 c H1 rp1 fr1 rfl q⟩⟩
theorem pA(h1:fS t t')(h2:fS u u'):fS (Ic t u) (IT t' u'):=⟨fun F H Z σ ρ Q Q' rp rs h k=>
 h1.go rp rs h fun c Z1 c' H1 rp1 fr1 rs1 rv1 q=>by
  cases (show c=c' from rv1)
  cases c with
  |true=>rw[zaf rfl] at q ⊢;exact h2.run F H1 Z1 σ ρ Q Q' rp1 rs1 q (k.fr fr1)
  |false=>rw[zad zat] at q ⊢;exact k false Z1 false H1 rp1 fr1 rfl q⟩
theorem qP(h1:fS t t')(h2:fS u u'):fS (tOr t u) (aOr t' u'):=⟨fun F H Z σ ρ Q Q' rp rs h k=>
 h1.go rp rs h fun c Z1 c' H1 rp1 fr1 rs1 rv1 q=>by
  cases (show c=c' from rv1)
  cases c with
  |true=>rw[zaf rfl] at q ⊢;exact k true Z1 true H1 rp1 fr1 rfl q
  |false=>rw[zad zat] at q ⊢;exact h2.run F H1 Z1 σ ρ Q Q' rp1 rs1 q (k.fr fr1)⟩
theorem fJ(h1:fS t t'):fS (JC t) (II t'):=⟨fun F H Z σ ρ Q Q' rp rs h k=>
 h1.go rp rs h fun c Z1 c' H1 rp1 fr1 rs1 rv1 q=>by
  cases (show c=c' from rv1)
  exact k _ Z1 _ H1 rp1 fr1 rfl q⟩
theorem Ce{G:Hp}{c:Bool}{v:V}(h:RV G (.d (.bl c)) v):v=.bl c:=by simpa[RV,Dat] using h
theorem Ee(h1:fS t t')(ha:aD ta ta')(hb:aD tb tb'):aD (tIf t ta tb) (aIf t' ta' tb'):=⟨fun F H Z σ ρ Q Q' rp rs h k=>
 h1.go rp rs h fun c Z1 c' H1 rp1 fr1 rs1 rv1 q=>by
  cases (show c=c' from rv1)
  cases c with
  |true=>rw[zaf rfl] at q ⊢;exact ha.run F H1 Z1 σ ρ Q Q' rp1 rs1 q (k.fr fr1)
  |false=>rw[zad zat] at q ⊢;exact hb.run F H1 Z1 σ ρ Q Q' rp1 rs1 q (k.fr fr1)⟩
noncomputable def gh(Z:Om)(x:AV):Option Bool:=match x with
 |.d .non=>some false
 |.d (.bl b)=>some b
 |.d (.int i)=>some (i != 0)
 |.d (.tup ds)=>some (!ds.isEmpty)
 |x=>(dO Z x).map fun xs=>!xs.isEmpty
noncomputable def Gm(ta:AE):AT:=fun ρ Z Q=>ta ρ Z fun x Z1=>∃k,gh Z1 x=some k/\Q k Z1
theorem lA{α β:Type}{xs:List α}{ys:List β}(h:xs.length=ys.length):xs.isEmpty=ys.isEmpty:=by
 cases xs<;>cases ys<;>simp_all
theorem vZ{K:W.Frag}{F:Fs}{H1:Hp}{Z1:Om}{x:AV}{v:V}{c:Bool}(rp1:Rep F H1 Z1)(rv1:RV (cut F H1 Z1) x v)(e:gh Z1 x=some c):sH K v H1 c:=by
  have ls:∀ {xs:List AV},dO Z1 x=some xs->c=(!xs.isEmpty)->sH K v H1 c:=fun {xs} e1 e2=>by
   obtain⟨a,vs,rfl,e3,e4⟩:=jX rp1 rv1 e1;exact .inl ⟨vs,.inl (.inl e3),by rw[e2,lA e4.length.symm]⟩
  cases x with
  |d x=>cases x with
   |non=>simp only[gh,zaH] at e;simp only[RV,Dat] at rv1;subst rv1;exact e.symm
   |bl b=>simp only[gh,zaH] at e;simp only[RV,Dat] at rv1;subst rv1;exact e.symm
   |int b=>simp only[gh,zaH] at e;simp only[RV,Dat] at rv1;subst rv1;exact e.symm
   |str b=>simp[gh,dO] at e
   |dk b=>simp[gh,dO] at e
   |dt b=>simp[gh,dO] at e
   |tup ds=>
    simp only[gh,zaH] at e;simp only[RV,Dat] at rv1;obtain⟨a,vs,rfl,e1,e2⟩:=rv1;exact .inr (.inl ⟨vs,.inl (.inl (ar _ _ e1)),by rw[←e,lA e2.length]⟩)
   |lst ds=>
    simp only[gh,zas] at e;obtain⟨xs,e1,e2⟩:=e;exact ls e1 e2.symm
  |r u=>
   simp only[gh,zas] at e;obtain⟨xs,e1,e2⟩:=e;exact ls e1 e2.symm
  |p u P=>simp[gh,dO] at e
theorem fO{K:W.Frag}(ha:aD ta ta'):fS (fun σ H Q=>ta σ H fun x H'=>∃k,sH K x H' k/\Q k H') (Gm ta'):=⟨fun F H Z σ ρ Q Q' rp rs h k=>
 ha.go rp rs h fun x Z1 v H1 rp1 fr1 rs1 rv1 ⟨c,e,q⟩=>⟨c,vZ rp1 rv1 e,k c Z1 c H1 rp1 fr1 rfl q⟩⟩
end
noncomputable def aI0(f:Int->Int->D):A2:=fun x y Z Q=>∃i j,x=.d (.int i)/\y=.d (.int j)/\Q (.d (f i j)) Z
noncomputable def aI(C:Int->Int->Prop)(f:Int->Int->D):A2:=fun x y Z Q=>∃i j,x=.d (.int i)/\y=.d (.int j)/\C i j/\Q (.d (f i j)) Z
noncomputable def aU(f:Int->D):AV->Om->(AV->Om->Prop)->Prop:=fun x Z Q=>∃i,x=.d (.int i)/\Q (.d (f i)) Z
section
variable{F:Fs}{H:Hp}{Z:Om}{Q:VK}{Q':AV->Om->Prop}
theorem LP.int(k:LP RV F H Z Q' Q)(rp:Rep F H Z){i:Int}(q:Q' (.d (.int i)) Z):Q (.int i) H:=k (.d (.int i)) Z _ H rp .refl (by simp[RV,Dat]) q
theorem LP.bl(k:LP RV F H Z Q' Q)(rp:Rep F H Z){i:Bool}(q:Q' (.d (.bl i)) Z):Q (.bl i) H:=k (.d (.bl i)) Z _ H rp .refl (by simp[RV,Dat]) q
theorem bv{G:Hp}{i:Int}{v:V}(h:RV G (.d (.int i)) v):v=.int i:=by simpa[RV,Dat] using h
theorem qd{G:Hp}{i:Str}{v:V}(h:RV G (.d (.str i)) v):v=.str i:=by simpa[RV,Dat] using h
theorem LP.tup(k:LP RV F H Z Q' Q)(rp:Rep F H Z){ds:List D}{vs:List V}(hd:ao (cut F H Z) ds vs)(q:Q' (.d (.tup ds)) Z):∀p,H p=none->Q (.ref p) (upd H p (.tup vs)):=fun p hp=>by
 obtain⟨rp2,fr2,hc⟩:=rp.lay (o:=.tup vs) hp;refine k (.d (.tup ds)) Z _ _ rp2 fr2 ?_ q;simp only[RV,Dat];exact⟨p,vs,rfl,hc,hd.same fr2.same⟩
theorem LP.lst(k:LP RV F H Z Q' Q)(rp:Rep F H Z){ds:List D}{vs:List V}(hd:ao (cut F H Z) ds vs)(q:Q' (.d (.lst ds)) Z):∀p,H p=none->Q (.ref p) (upd H p (.lst vs)):=fun p hp=>by
 obtain⟨rp2,fr2,hc⟩:=rp.lay (o:=.lst vs) hp;refine k (.d (.lst ds)) Z _ _ rp2 fr2 ?_ q;simp only[RV,Dat];exact⟨p,vs,rfl,hc,hd.same fr2.same⟩
theorem LP.own(k:LP RV F H Z Q' Q)(rp:Rep F H Z){xs:List AV}{vs:List V}(hd:RVs (cut F H Z) xs vs)(q:∀p,Z p=none->Q' (.r (.ref p)) (Z.put p (.own xs))):∀p,H p=none->Q (.ref p) (upd H p (.lst vs)):=fun p hp=>by
 obtain⟨rp2,fr2⟩:=rp.mk' (vs:=vs) hp hd;exact k (.r (.ref p)) _ _ _ rp2 fr2 rfl (q p (rp.free hp).1)
end
theorem dX{f:Int->Int->Int}:f6 (rI0 fun i j=>.int (f i j)) (aI0 fun i j=>.int (f i j)):=⟨fun F H Z v u x y Q Q' rp h1 h2 ⟨i,j,e1,e2,q⟩ k=>by
 subst e1 e2;exact⟨i,j,bv h1,bv h2,k.int rp q⟩⟩
theorem jB{f:Int->Int->Bool}:f6 (rI0 fun i j=>.bl (f i j)) (aI0 fun i j=>.bl (f i j)):=⟨fun F H Z v u x y Q Q' rp h1 h2 ⟨i,j,e1,e2,q⟩ k=>by
 subst e1 e2;exact⟨i,j,bv h1,bv h2,k.bl rp q⟩⟩
theorem er{C:Int->Int->Prop}{f:Int->Int->Int}:f6 (rI C fun i j=>.int (f i j)) (aI C fun i j=>.int (f i j)):=⟨fun F H Z v u x y Q Q' rp h1 h2 ⟨i,j,e1,e2,c,q⟩ k=>by
 subst e1 e2;exact⟨i,j,bv h1,bv h2,c,k.int rp q⟩⟩
theorem u_i{f:Int->Int}:Iz (rU fun i=>.int (f i)) (aU fun i=>.int (f i)):=⟨fun F H Z v x Q Q' rp h1 ⟨i,e1,q⟩ k=>by
 subst e1;exact⟨i,bv h1,k.int rp q⟩⟩
noncomputable def C9(neg:Bool):A2:=fun x y Z Q=>∃a b,bo Z x=some a/\bo Z y=some b/\dep a<=100/\Q (.d (.bl (if neg then !eqD a b else eqD a b))) Z
theorem bR{neg:Bool}:f6 (FT neg) (C9 neg):=⟨fun F H Z v u x y Q Q' rp h1 h2 ⟨a,b,e1,e2,s,q⟩ k=>⟨a,b,je rp h1 e1,je rp h2 e2,s,k.bl rp q⟩⟩
noncomputable def aIn(neg:Bool):A2:=fun x y Z Q=>∃a b ds,bo Z x=some a/\bo Z y=some b/\(b=.lst ds\/b=.tup ds)/\bW ds<=90/\Q (.d (.bl (if neg then !inD a ds else inD a ds))) Z
theorem G8{neg:Bool}:f6 (ID neg) (aIn neg):=⟨fun F H Z v u x y Q Q' rp h1 h2 ⟨a,b,ds,e1,e2,e3,s,q⟩ k=>⟨a,ds,je rp h1 e1,by
 have:=je rp h2 e2;rcases e3 with rfl|rfl
 ·exact .inl this
 ·exact .inr this,s,k.bl rp q⟩⟩
noncomputable def Jm:A2:=fun x y Z Q=>∃ds es,x=.d (.tup ds)/\y=.d (.tup es)/\ds.length+es.length<=sizeLine/\Q (.d (.tup (ds++es))) Z
noncomputable def xu:R2:=fun x y H Q=>∃a b xs ys,x=.ref a/\y=.ref b/\H a=some (.tup xs)/\H b=some (.tup ys)/\xs.length+ys.length<=sizeLine /\
 (xs=[]->Q (.ref b) H)/\(ys=[]->Q (.ref a) H)/\∀p,H p=none->Q (.ref p) (upd H p (.tup (xs++ys)))
theorem ca{X:Cx}:OpR X (binaryOp .Add) xu:=by
 intro pins s σ H x y v u Q I rx ry h;obtain⟨a,b,xs,ys,rfl,rfl,ha,hb,hz,g1,g2,g3⟩:=h;by_cases hn:xs=[]
 ·subst hn
  cases rx;cases ry;obtain⟨its,r1,ht⟩:=eM I ha;obtain⟨its2,r2,hb2⟩:=eM I hb;cases r1;obtain⟨⟨cls,dd,data,sl⟩,ho,hc,n,hd⟩:=id ht;obtain⟨⟨cls2,dd2,data2,sl2⟩,ho2,hc2,n2,hd2⟩:=id hb2;simp only at hc hd hc2 hd2;subst hc hd hc2 hd2
  exact concat_meets ⟨_,ho,rfl⟩ ⟨_,ho2,rfl⟩ noFill_tuple_add seq_tuple_add PySem.F.slot_tuple_add zdH (zdy _ _)
   (tuple_addW0 a b _ _ n n2 dd dd2 sl sl2 (by simp)) ⟨ho,ho2,⟨.ref b,H,I,rfl,g1 rfl⟩⟩
 ·exact DC pins s σ H (.ref a) (.ref b) v u Q I rx ry ⟨a,b,xs,ys,rfl,rfl,SqT.of ha,SqT.of hb,hn,hz,g2,fun _ p hp=>g3 p hp⟩
theorem GV:f6 xu Jm:=⟨fun F H Z v u x y Q Q' rp h1 h2 ⟨ds,es,e1,e2,z,q⟩ k=>by
 subst e1 e2;have h1':=h1;have h2':=h2;simp only[RV,Dat] at h1 h2;obtain⟨a,xs,rfl,ha,hxs⟩:=h1;obtain⟨b,ys,rfl,hb,hys⟩:=h2;refine⟨a,b,xs,ys,rfl,rfl,ar _ _ ha,ar _ _ hb,by rw[hxs.length,hys.length];exact z,fun e=>?_,fun e=>?_,k.tup rp (hxs.append hys) q⟩
 ·have:ds=[]:=zbw.mp (by rw[←hxs.length,e];rfl)
  subst this;exact k _ Z _ H rp .refl h2' q
 ·have:es=[]:=zbw.mp (by rw[←hys.length,e];rfl)
  subst this;rw[zaM] at q
  exact k _ Z _ H rp .refl h1' q⟩
theorem Rep.later{F:Fs}{H H':Hp}{Z:Om}(rp:Rep F H Z)(s:bH H H'):Rep F H' Z/\Fr F H Z H' Z:=by
 have fr:Fr F H Z H' Z:=⟨fun b o x f e=>⟨s _ _ e,x⟩,fun b f=>by
  obtain⟨_,o,q⟩:=rp.hid b f
  rw[q,s _ _ q]⟩
 refine⟨⟨fun l xs e=>?_,fun l ds e=>(rp.frz l ds e).same fr.same,fun b f=>?_,fun l ks e=>(by obtain⟨vs,e1,e2⟩:=rp.dic l ks e;exact⟨vs,s _ _ e1,e2.same fr.same⟩),fun l ks e=>(by obtain⟨vs,e1,e2⟩:=rp.sto l ks e;exact⟨vs,s _ _ e1,e2.same fr.same⟩)⟩,fr⟩
 ·obtain⟨vs,e1,e2⟩:=rp.own l xs e
  exact⟨vs,s _ _ e1,e2.same fr.same⟩
 ·obtain⟨x,o,q⟩:=rp.hid b f
  exact⟨x,o,s _ _ q⟩
noncomputable def J3:A2:=fun x y Z Q=>∃xs i a,dO Z x=some xs/\y=.d (.int i)/\atI xs i=some a/\Q a Z
noncomputable def Kb:A2:=fun x y Z Q=>∃xs i a,gA x=some xs/\y=.d (.int i)/\atI xs i=some a/\Q a Z
theorem RVs.atI{G:Hp}{xs:List AV}{vs:List V}{i:Int}{a:AV}(h:RVs G xs vs)(e:atI xs i=some a):∃v,L2.atI vs i=some v/\RV G a v:=by
 unfold L2.atI at e ⊢;rw[h.length]
 cases z:ixN xs.length i with
 |none=>rw[z] at e;cases e
 |some j=>
  rw[z] at e;exact h.get e
theorem Im{K:W.Frag}:f6 (Hv K) J3:=⟨fun F H Z v u x y Q Q' rp h1 h2 ⟨xs,i,a,e1,e2,e3,q⟩ k=>by
 subst e2;obtain⟨l,vs,rfl,q1,q2⟩:=jX rp h1 e1;obtain⟨w,z1,z2⟩:=q2.atI e3
 exact⟨l,vs,i,w,rfl,bv h2,.inl (.inl q1),z1,k a Z w H rp .refl z2 q⟩⟩
theorem IL{K:W.Frag}:f6 (Gk K) Kb:=⟨fun F H Z v u x y Q Q' rp h1 h2 ⟨xs,i,a,e1,e2,e3,q⟩ k=>by
 subst e2;obtain⟨l,vs,rfl,q1,q2⟩:=A1 h1 e1;obtain⟨w,z1,z2⟩:=q2.atI e3
 exact⟨l,vs,i,w,rfl,bv h2,.inl (.inl (ar _ _ q1)),z1,k a Z w H rp .refl z2 q⟩⟩
noncomputable def aIx:A2:=fun x y Z Q=>∃xs i a,(dO Z x=some xs\/gA x=some xs)/\y=.d (.int i)/\atI xs i=some a/\Q a Z
theorem dB{K:W.Frag}:f6 (rIx K) aIx:=⟨fun F H Z v u x y Q Q' rp h1 h2 ⟨xs,i,a,e1,e2,e3,q⟩ k=>by
 rcases e1 with e1|e1
 ·exact .inl (Im.run F H Z v u x y Q Q' rp h1 h2 ⟨xs,i,a,e1,e2,e3,q⟩ k)
 ·exact .inr (.inl (IL.run F H Z v u x y Q Q' rp h1 h2 ⟨xs,i,a,e1,e2,e3,q⟩ k))⟩
noncomputable abbrev AC:=List AV->Om->(AV->Om->Prop)->Prop
theorem i8{G:Hp}{a:AV}{vs:List V}(h:RVs G [a] vs):∃v,vs=[v]/\RV G a v:=by
 obtain⟨v,r,rfl,h1,h2⟩:=h;cases h2;exact⟨v,rfl,h1⟩
theorem D4{G:Hp}{a b:AV}{vs:List V}(h:RVs G [a,b] vs):∃v u,vs=[v,u]/\RV G a v/\RV G b u:=by
 obtain⟨v,r,rfl,h1,h2⟩:=h;obtain⟨u,rfl,h3⟩:=i8 h2;exact⟨v,u,rfl,h1,h3⟩
noncomputable def uX(Z:Om)(x:AV):Option Nat:=match gA x with
 |some xs=>some xs.length
 |none=>(dO Z x).map List.length
noncomputable def HV:AC:=fun xs Z Q=>∃x n,xs=[x]/\uX Z x=some n/\Q (.d (.int n)) Z
theorem Az{K:W.Frag}:jo (fun xs H Q=>∃x n,xs=[x]/\D9 K x H n/\Q (.int n) H) HV:=⟨fun F H Z vs xs Q Q' rp rv ⟨x,n,e1,e2,q⟩ k=>by
 subst e1;obtain⟨v,rfl,r⟩:=i8 rv;refine⟨v,n,rfl,?_,k.int rp q⟩;unfold uX at e2
 cases z:gA x with
 |some xs=>
  rw[z] at e2;cases e2;obtain⟨a,us,rfl,q1,q2⟩:=A1 r z;exact .inr ⟨us,.inl (.inl (ar _ _ q1)),q2.length.symm⟩
 |none=>
  rw[z] at e2;simp only[zas] at e2;obtain⟨ys,e3,rfl⟩:=e2;obtain⟨a,us,rfl,q1,q2⟩:=jX rp r e3
  exact .inl ⟨us,.inl (.inl q1),q2.length.symm⟩⟩
theorem wQ{G:Hp}:∀ {bs:List Bool} {vs:List V},ao G (bs.map D.bl) vs->vs=bs.map V.bl
 | [],_,h=>by simpa[ao] using h
 |b::bs,vs,h=>by
  simp only[zah,ao,Dat] at h;obtain⟨x,r,rfl,rfl,h⟩:=h;rw[wQ h];rfl
noncomputable def Ig(f:List Bool->Bool):AC:=fun xs Z Q=>∃x bs,xs=[x]/\bo Z x=some (.lst (bs.map D.bl))/\Q (.d (.bl (f bs))) Z
theorem ER{K:W.Frag}{f:List Bool->Bool}:jo (fun xs H Q=>∃(a:Addr)(bs:List Bool),xs=[.ref a]/\SqL K H a (bs.map V.bl)/\Q (.bl (f bs)) H) (Ig f):=⟨fun F H Z vs xs Q Q' rp rv ⟨x,bs,e1,e2,q⟩ k=>by
 subst e1;obtain⟨v,rfl,r⟩:=i8 rv;obtain⟨a,us,rfl,q1,q2⟩:=ff rp r e2;cases wQ q2
 exact⟨a,bs,rfl,.inl (.inl q1),k.bl rp q⟩⟩
noncomputable def aF2(f:Int->Int->Int):AC:=fun xs Z Q=>∃i j,xs=[.d (.int i),.d (.int j)]/\Q (.d (.int (f i j))) Z
theorem DJ{f:Int->Int->Int}:jo (fun xs H Q=>∃i j,xs=[.int i,.int j]/\Q (.int (f i j)) H) (aF2 f):=⟨fun F H Z vs xs Q Q' rp rv ⟨i,j,e1,q⟩ k=>by
 subst e1;obtain⟨v,u,rfl,r1,r2⟩:=D4 rv
 exact⟨i,j,by rw[bv r1,bv r2],k.int rp q⟩⟩
noncomputable def aF1(f:Int->Int):AC:=fun xs Z Q=>∃i,xs=[.d (.int i)]/\Q (.d (.int (f i))) Z
theorem GL{f:Int->Int}:jo (fun xs H Q=>∃i,xs=[.int i]/\Q (.int (f i)) H) (aF1 f):=⟨fun F H Z vs xs Q Q' rp rv ⟨i,e1,q⟩ k=>by
 subst e1;obtain⟨v,rfl,r1⟩:=i8 rv
 exact⟨i,by rw[bv r1],k.int rp q⟩⟩
noncomputable def zO:D->Option Int
 |.int i=>some i
 |.bl k=>some (if k then 1 else 0)
 |_=>none
noncomputable def Ie:AC:=fun xs Z Q=>∃d i,xs=[.d d]/\zO d=some i/\Q (.d (.int i)) Z
theorem Fk:jo (fun xs H Q=>(∃i,xs=[.int i]/\Q (.int i) H)\/∃k,xs=[.bl k]/\Q (.int (if k then 1 else 0)) H) Ie:=⟨fun F H Z vs xs Q Q' rp rv ⟨d,i,e1,e2,q⟩ k=>by
 subst e1;obtain⟨v,rfl,r1⟩:=i8 rv
 cases d with
 |int j=>simp only[zO,zaH] at e2;subst e2;exact .inl ⟨_,by rw[bv r1],k.int rp q⟩
 |bl j=>simp only[zO,zaH] at e2;subst e2;exact .inr ⟨j,by rw[Ce r1],k.int rp q⟩
 |_=>cases e2⟩
noncomputable def By:AC:=fun xs Z Q=>∃x ds,xs=[x]/\(bo Z x=some (.lst ds)\/x=.d (.tup ds))/\Q (.d (.tup ds)) Z
theorem mj{K:W.Frag}:jo (fun xs H Q=>∃p ys,xs=[.ref p]/\((SqL K H p ys/\∀l,H l=none->Q (.ref l) (upd H l (.tup ys)))\/(SqT K H p ys/\Q (.ref p) H))) By:=⟨fun F H Z vs xs Q Q' rp rv ⟨x,ds,e1,e2,q⟩ k=>by
 subst e1;obtain⟨v,rfl,r1⟩:=i8 rv;rcases e2 with e2|rfl
 ·obtain⟨a,us,rfl,q1,q2⟩:=ff rp r1 e2
  exact⟨a,us,rfl,.inl ⟨.inl (.inl q1),k.tup rp q2 q⟩⟩
 ·have r2:=r1
  simp only[RV,Dat] at r2;obtain⟨a,us,rfl,q1,q2⟩:=r2
  exact⟨a,us,rfl,.inr ⟨.inl (.inl (ar _ _ q1)),k _ Z _ H rp .refl r1 q⟩⟩⟩
noncomputable def dD(lo:Int)(n:Nat):List AV:=(List.range n).map fun i=>AV.d (.int (lo+(i:Nat)))
noncomputable def CN(ta:AA):AI:=fun ρ Z R=>ta ρ Z fun xs Z1=>∃j:Int,xs=[.d (.int j)]/\-(2^62)<=j/\j<2^62/\R (dD 0 j.toNat) Z1
noncomputable def Ci(ta:AA):AI:=fun ρ Z R=>ta ρ Z fun xs Z1=>∃i j:Int,xs=[.d (.int i),.d (.int j)]/\(-(2^62)<=i/\i<2^62/\-(2^62)<=j/\j<2^62)/\R (dD i (j-i).toNat) Z1
noncomputable def mZ(ds es:List D):List AV:=(ds.zip es).map fun p=>AV.d (.tup [p.1,p.2])
section
variable{te:TE}{te':AE}{ta:TA}{ta':AA}{K:W.Frag}
theorem DL{G:Hp}{ds:List D}{a:Addr}(h:Dat G (.lst ds) (.ref a)):vm G (ds.map AV.d) (Itl K a):=fun F H Z rp s=>by
 have h2:=h.same s;simp only[Dat] at h2;obtain⟨_,vs,e,ha,hd⟩:=h2;cases e;have hq:SqL K H a vs:=.inl (.inl (ar _ _ ha));have hl:=hd.length;refine⟨⟨vs,hq,by simp;omega⟩,fun i x hx=>?_⟩
 obtain⟨v,e1,e2⟩:=(RVs.dats.mpr hd).get hx;refine⟨⟨vs,v,hq,e1⟩,fun y H' hy=>?_⟩;obtain⟨rfl,hy⟩:=hy;have:=hy vs hq;rw[e1] at this;cases this;exact⟨rp,.refl,e2⟩
theorem Hi{G:Hp}{ds:List D}{a:Addr}(h:Dat G (.tup ds) (.ref a)):vm G (ds.map AV.d) (Itt K a):=fun F H Z rp s=>by
 have h2:=h.same s;simp only[Dat] at h2;obtain⟨_,vs,e,ha,hd⟩:=h2;cases e;have hq:SqT K H a vs:=.inl (.inl (ar _ _ ha));have hl:=hd.length;refine⟨⟨vs,hq,by simp;omega⟩,fun i x hx=>?_⟩
 obtain⟨v,e1,e2⟩:=(RVs.dats.mpr hd).get hx;refine⟨⟨vs,v,hq,e1⟩,fun y H' hy=>?_⟩;obtain⟨rfl,hy⟩:=hy;have:=hy vs hq;rw[e1] at this;cases this;exact⟨rp,.refl,e2⟩
theorem pF{G:Hp}{ds:List D}{v:V}(h:Dat G (.lst ds) v):∃a vs,v=.ref a/\G a=some (.lst vs):=by
 simp only[Dat] at h;obtain⟨a,vs,e,h,_⟩:=h;exact⟨a,vs,e,h⟩
theorem eI{G:Hp}{ds:List D}{v:V}(h:Dat G (.tup ds) v):∃a vs,v=.ref a/\G a=some (.tup vs):=by
 simp only[Dat] at h;obtain⟨a,vs,e,h,_⟩:=h;exact⟨a,vs,e,h⟩
theorem BT{G:Hp}{lo:Int}{n:Nat}:vm G (dD lo n) (Itr lo n):=fun F H Z rp s=>by
 refine⟨by simp[dD,Itr],fun i x hx=>?_⟩
 unfold dD at hx;rw[zam] at hx;by_cases hi:i<n
 ·rw[List.getElem?_range hi] at hx
  simp only[zcc,zaH] at hx;subst hx;refine⟨hi,fun y H' hy=>?_⟩;obtain⟨rfl,rfl⟩:=hy;exact⟨rp,.refl,by simp[RV,Dat]⟩
 ·rw[List.getElem?_eq_none (by simp;omega)] at hx
  cases hx
theorem gu(h:jL ta ta'):oo (EU ta) (CN ta'):=⟨fun F H Z σ ρ R R' rp rs w k=>h.go rp rs w fun xs Z1 vs H1 rp1 fr1 rs1 rv ⟨j,e,h1,h2,q⟩=>by
 subst e;obtain⟨v,rfl,r⟩:=i8 rv
 exact⟨j,by rw[bv r],h1,h2,k _ Z1 _ H1 rp1 fr1 BT q⟩⟩
theorem Cb(h:jL ta ta'):oo (FO ta) (Ci ta'):=⟨fun F H Z σ ρ R R' rp rs w k=>h.go rp rs w fun xs Z1 vs H1 rp1 fr1 rs1 rv ⟨i,j,e,h1,q⟩=>by
 subst e;obtain⟨v,u,rfl,r,r2⟩:=D4 rv
 exact⟨i,j,by rw[bv r,bv r2],h1,k _ Z1 _ H1 rp1 fr1 BT q⟩⟩
theorem G9{F:Fs}{H:Hp}{Z:Om}(rp:Rep F H Z){T:Addr}(hT:H T=none){a b:V}{d e:D}(ha:Dat (cut F H Z) d a)(hb:Dat (cut F H Z) e b):
  Rep F (upd H T (.tup [a,b])) Z/\Fr F H Z (upd H T (.tup [a,b])) Z/\RV (cut F (upd H T (.tup [a,b])) Z) (.d (.tup [d,e])) (.ref T):=by
 obtain⟨rp2,fr2,hc⟩:=rp.lay (o:=.tup [a,b]) hT;refine⟨rp2,fr2,?_⟩;simp only[RV,Dat,ao];exact⟨T,_,rfl,hc,_,_,rfl,ha.same fr2.same,_,_,rfl,hb.same fr2.same,rfl⟩
theorem sj{ds es:List D}{i:Nat}{x:AV}(h:(mZ ds es)[i]?=some x):∃d e,ds[i]?=some d/\es[i]?=some e/\x=.d (.tup [d,e]):=by
 unfold mZ at h;rw[zam,zas] at h;obtain⟨⟨d,e⟩,h1,rfl⟩:=h;obtain⟨h1,h2⟩:=zdw.mp h1;exact⟨d,e,h1,h2,rfl⟩
noncomputable def nj:D->Option (List D)
 |.tup ds=>some ds
 |.lst ds=>some ds
 |_=>none
theorem FR{G:Hp}{ds es:List D}{a b:Addr}{Sa Sb:Hp->Addr->List V->Prop}(ha:∀F H Z,Rep F H Z->bH G (cut F H Z)->∃vs,Sa H a vs/\ao (cut F H Z) ds vs)(hb:∀F H Z,Rep F H Z->bH G (cut F H Z)->∃vs,Sb H b vs/\ao (cut F H Z) es vs):vm G (mZ ds es) (Zp Sa Sb a b):=fun F H Z rp s=>by
 obtain⟨vs,a1,a2⟩:=ha F H Z rp s;obtain⟨us,b1,b2⟩:=hb F H Z rp s;refine⟨⟨vs,us,a1,b1,by simp[mZ,a2.length,b2.length]⟩,fun i x hx=>?_⟩
 obtain⟨d,e,h1,h2,rfl⟩:=sj hx;obtain⟨v,e1,e2⟩:=a2.get h1;obtain⟨u,e3,e4⟩:=b2.get h2;refine⟨⟨vs,us,v,u,a1,b1,e1,e3⟩,fun y H' hy=>?_⟩;obtain⟨T,z1,z2,hT,rfl,rfl,hz⟩:=hy;obtain⟨q1,q2⟩:=hz vs us a1 b1;rw[e1] at q1;rw[e3] at q2;cases q1;cases q2;exact G9 rp hT e2 e4
end
noncomputable def w6(n:Nat)(t:AGs):AG:=fun v ρ Z Q=>∃ds,v=.d (.tup ds)/\ds.length=n/\t (ds.map AV.d) ρ Z Q
section
variable{K:W.Frag}{n:Nat}{gs:TGs}{gs':AGs}{to ti:TE}{to' ti':AE}
theorem ms(h:xY gs gs'):jK (F9 K n gs) (w6 n gs'):=⟨fun F H Z σ ρ v a Q Q' rp rs rv ⟨ds,e,hn,q⟩ k=>by
 subst e;simp only[RV,Dat] at rv;obtain⟨b,vs,rfl,h1,h2⟩:=rv
 exact⟨b,vs,rfl,.inl (.inl (ar _ _ h1)),by rw[h2.length];exact hn,h.run F H Z σ ρ vs _ Q Q' rp rs (RVs.dats.mpr h2) q k⟩⟩
end
noncomputable def mI{α:Type}(xs:List α)(lo hi:Option Int):List α:=(xs.drop (HT.sIx xs.length 0 lo)).take (HT.sIx xs.length xs.length hi-HT.sIx xs.length 0 lo)
noncomputable abbrev AO:=SA->Om->(Option Int->Om->Prop)->Prop
noncomputable def vM:AO:=fun _ Z Q=>Q none Z
noncomputable def vU(t:AE):AO:=fun ρ Z Q=>t ρ Z fun x Z1=>∃i,x=.d (.int i)/\Q (some i) Z1
theorem ao.cut{G:Hp}{ds:List D}{vs:List V}{lo hi:Option Int}(h:ao G ds vs):ao G (mI ds lo hi) (qY vs lo hi):=by
 unfold mI qY;rw[h.length];exact(h.drop _).take _
section
variable{K:W.Frag}{te ts:TE}{te' ts':AE}{tl th:TO}{tl' th':AO}
theorem Cu:Ref REq x6 vM:=⟨fun F H Z σ ρ Q Q' rp rs w k=>k none Z none H rp .refl rfl w⟩
theorem AM(h:aD te te'):Ref REq (FM te) (vU te'):=⟨fun F H Z σ ρ Q Q' rp rs w k=>h.go rp rs w fun x Z1 v H1 rp1 fr1 rs1 rv ⟨i,e,q⟩=>by
 subst e;exact⟨i,bv rv,k _ Z1 _ H1 rp1 fr1 rfl q⟩⟩
noncomputable def Ka(te:AE):AE:=fun ρ Z Q=>te ρ Z fun x Z1=>∃ds,bo Z1 x=some (.lst ds)/\Q (.d (.lst ds.reverse)) Z1
theorem ao.rev{G:Hp}:∀ {ds:List D} {vs:List V},ao G ds vs->ao G ds.reverse vs.reverse
 | [],_,h=>by simp only[ao] at h;subst h;simp[ao]
 |d::ds,vs,h=>by
  simp only[ao] at h;obtain⟨x,r,rfl,h1,h2⟩:=h;simp only[zcr];exact h2.rev.append (.one h1)
theorem Ja(he:aD te te'):aD (IY K te (tUn (rU fun i=>.int (-i)) (tC (.int 1)))) (Ka te'):=⟨fun F H Z σ ρ Q Q' rp rs w k=>
 he.go rp rs w fun x Z1 v H1 rp1 fr1 rs1 rv1 ⟨ds,e,q⟩=>⟨1,rfl,rfl,by
  obtain⟨a,vs,rfl,z1,z2⟩:=ff rp1 rv1 e
  exact⟨a,vs,rfl,.inl (.inl z1),(k.fr fr1).lst rp1 z2.rev q⟩⟩⟩
end
noncomputable def ip(to:AE)(t:AA):AE:=fun ρ Z Q=>to ρ Z fun x Z1=>∃l,x=.r (.ref l)/\(∃zs,Z1 l=some (.own zs))/\t ρ Z1 fun ys Z2=>∃xs y,ys=[y]/\Z2 l=some (.own xs)/\xs.length<sizeLine/\Q (.d .non) (Z2.put l (.own (xs++[y])))
noncomputable def yn(to:AE)(t:AA):AE:=fun ρ Z Q=>to ρ Z fun x Z1=>∃l,x=.r (.ref l)/\(∃zs,Z1 l=some (.own zs))/\t ρ Z1 fun ys Z2=>∃xs y zs,ys=[y]/\Z2 l=some (.own xs)/\dO Z2 y=some zs/\xs.length+zs.length<=sizeLine/\Q (.d .non) (Z2.put l (.own (xs++zs)))
noncomputable def C7(to:AE):AE:=fun ρ Z Q=>to ρ Z fun x Z1=>∃l xs y,x=.r (.ref l)/\Z1 l=some (.own xs)/\xs[xs.length-1]?=some y/\Q y (Z1.put l (.own xs.dropLast))
section
variable{K:W.Frag}{to:TE}{to':AE}{t:TA}{t':AA}
theorem fV(ho:aD to to')(ht:jL t t'):aD (tBM K "list" xS to t) (ip to' t'):=⟨fun F H Z σ ρ Q Q' rp rs w k=>
 ho.go rp rs w fun x Z1 v H1 rp1 fr1 rs1 rv1 ⟨l,e,⟨zs,hz⟩,q1⟩=>by
  subst e;cases (show v=.ref l from rv1)
  obtain⟨us,z1,_⟩:=rp1.own l zs hz;refine⟨.inl ⟨rfl,us,.inl (.inl z1)⟩,ht.go rp1 rs1 q1 fun ys Z2 vs H2 rp2 fr2 rs2 rv2 ⟨xs,y,e1,e2,e3,q⟩=>?_⟩;subst e1;obtain⟨u,rfl,r⟩:=i8 rv2;obtain⟨ws,z3,z4⟩:=rp2.own l xs e2;obtain⟨rp3,fr3⟩:=rp2.write e2 (z4.append (.one r))
  exact⟨l,ws,u,rfl,rfl,z3,by rw[z4.length];exact e3,k _ _ _ _ rp3 ((fr1.trans fr2).trans fr3) (by simp[RV,Dat]) q⟩⟩
theorem rM(ho:aD to to')(ht:jL t t'):aD (tBM K "list" wD to t) (yn to' t'):=⟨fun F H Z σ ρ Q Q' rp rs w k=>
 ho.go rp rs w fun x Z1 v H1 rp1 fr1 rs1 rv1 ⟨l,e,⟨zs,hz⟩,q1⟩=>by
  subst e;cases (show v=.ref l from rv1)
  obtain⟨us,z1,_⟩:=rp1.own l zs hz;refine⟨.inl ⟨rfl,us,.inl (.inl z1)⟩,ht.go rp1 rs1 q1 fun ys Z2 vs H2 rp2 fr2 rs2 rv2 ⟨xs,y,ss,e1,e2,e3,e4,q⟩=>?_⟩;subst e1;obtain⟨u,rfl,r⟩:=i8 rv2;obtain⟨ws,z3,z4⟩:=rp2.own l xs e2;obtain⟨b,bs,rfl,z5,z6⟩:=jX rp2 r e3;obtain⟨rp3,fr3⟩:=rp2.write e2 (z4.append z6)
  exact⟨l,b,ws,bs,rfl,rfl,z3,z5,by rw[z4.length,z6.length];exact e4,k _ _ _ _ rp3 ((fr1.trans fr2).trans fr3) (by simp[RV,Dat]) q⟩⟩
theorem oY(ho:aD to to'):aD (Gq K "list" Iw to) (C7 to'):=⟨fun F H Z σ ρ Q Q' rp rs w k=>
 ho.go rp rs w fun x Z1 v H1 rp1 fr1 rs1 rv1 ⟨l,xs,y,e,hz,hy,q⟩=>by
  subst e;cases (show v=.ref l from rv1)
  obtain⟨us,z1,z2⟩:=rp1.own l xs hz;obtain⟨u,z3,z4⟩:=z2.get hy;obtain⟨rp3,fr3⟩:=rp1.write hz z2.dropLast
  exact⟨.inl ⟨rfl,us,.inl (.inl z1)⟩,l,us,u,rfl,rfl,z1,by rw[z2.length];exact z3,k y _ u _ rp3 (fr1.trans fr3) (z4.same fr3.same) q⟩⟩
end
noncomputable def tyD:D->String
 |.non=>"NoneType"|.bl _=>"bool"|.int _=>"int"|.str _=>"str"|.tup _=>"tuple"|.lst _=>"list"|.dk _=>"dict"|.dt _=>"dict"
noncomputable def isD(T:String)(d:D):Bool:=tyD d == T || (tyD d == "bool" && T == "int")
noncomputable def Js:AC:=fun xs Z Q=>∃x d T,xs=[x,.r (.ty T)]/\bo Z x=some d/\T∈lB/\Q (.d (.bl (isD T d))) Z
theorem IJ{H:Hp}{d:D}{v:V}(h:Dat H d v):gm H v=some (tyD d):=by
 cases d<;>simp only[Dat] at h
 all_goals first
  |(subst h;rfl)
  |(obtain⟨a,xs,rfl,h,_⟩:=h;simp[gm,h,tyD])
theorem o9:jo (fun xs H Q=>∃x T,xs=[x,.ty T]/\T∈lB/\(gm H x).isSome=true/\Q (.bl (isA H x T)) H) Js:=⟨fun F H Z vs xs Q Q' rp rv ⟨x,d,T,e1,e2,e3,q⟩ k=>by
 subst e1;obtain⟨v,u,rfl,r1,r2⟩:=D4 rv;cases (show u=.ty T from r2)
 have ht:=IJ (je rp r1 e2);refine⟨v,T,rfl,e3,by rw[ht];rfl,?_⟩
 have:isA H v T=isD T d:=by simp[isA,ht,isD]
 rw[this]
 exact k.bl rp q⟩
noncomputable def JM:A2:=fun x y Z Q=>∃ds es,bo Z x=some (.lst ds)/\bo Z y=some (.lst es)/\ds.length+es.length<=sizeLine/\Q (.d (.lst (ds++es))) Z
theorem F3:f6 Eu JM:=⟨fun F H Z v u x y Q Q' rp h1 h2 ⟨ds,es,e1,e2,z,q⟩ k=>by
 obtain⟨a,vs,rfl,z1,z2⟩:=ff rp h1 e1;obtain⟨b,us,rfl,z3,z4⟩:=ff rp h2 e2
 exact⟨a,b,vs,us,rfl,rfl,z1,z3,by rw[z2.length,z4.length];exact z,k.lst rp (z2.append z4) q⟩⟩
noncomputable def Bi:A2:=fun x y Z Q=>∃ds k,bo Z x=some (.lst ds)/\y=.d (.int k)/\-(2^63)<=k/\k<2^63/\ds.length*k.toNat<=sizeLine/\Q (.d (.lst (List.replicate k.toNat ds).flatten)) Z
theorem ao.rep{G:Hp}{ds:List D}{vs:List V}(h:ao G ds vs):∀n:Nat,ao G (List.replicate n ds).flatten (List.replicate n vs).flatten
 |0=>by simp[ao]
 |n+1=>by
  simp only[zcs,zcF];exact h.append (h.rep n)
theorem He:f6 Es Bi:=⟨fun F H Z v u x y Q Q' rp h1 h2 ⟨ds,k',e1,e2,b1,b2,z,q⟩ k=>by
 subst e2;obtain⟨a,vs,rfl,z1,z2⟩:=ff rp h1 e1
 exact⟨a,k',vs,rfl,bv h2,z1,b1,b2,by rw[z2.length];exact z,k.lst rp (z2.rep _) q⟩⟩
noncomputable def BU(r r':A2)(ta tb tc:AE):AE:=fun ρ Z Q=>ta ρ Z fun x Z1=>tb ρ Z1 fun y Z2=>r x y Z2 fun z Z3=>∃k,z=.d (.bl k)/\(if k=true then tc ρ Z3 fun w Z4=>r' y w Z4 Q else Q (.d (.bl false)) Z3)
theorem xo{r r2:R2}{r' r2':A2}{ta tb tc:TE}{ta' tb' tc':AE}(h1:f6 r r')(h2:f6 r2 r2')(ha:aD ta ta')(hb:aD tb tb')(hc:aD tc tc'):aD (Ag r r2 ta tb tc) (BU r' r2' ta' tb' tc'):=⟨fun F H Z σ ρ Q Q' rp rs w k=>
 ha.go rp rs w fun x Z1 v H1 rp1 fr1 rs1 rv1 q1=>hb.go rp1 rs1 q1 fun y Z2 u H2 rp2 fr2 rs2 rv2 q2=>h1.run F H2 Z2 v u x y _ _ rp2 (rv1.same fr2.same) rv2 q2 fun z Z3 zv H3 rp3 fr3 rv3 ⟨c,e,q⟩=>by
  subst e;refine⟨c,Ce rv3,?_⟩;have fr:=(fr1.trans fr2).trans fr3
  cases c with
  |true=>
   rw[zaf rfl] at q ⊢;exact hc.go rp3 (rs2.same fr3.same) q fun w' Z4 wv H4 rp4 fr4 rs4 rv4 q4=>h2.run F H4 Z4 u wv y w' Q Q' rp4 (rv2.same (fr3.trans fr4).same) rv4 q4 (k.fr (fr.trans fr4))
  |false=>
   rw[zad zat] at q ⊢
   exact k _ Z3 _ H3 rp3 fr (by simp[RV,Dat]) q⟩
section
variable{X:Cx}{tg:Expr}
noncomputable def rOr(r1 r2:R2):R2:=fun x y H Q=>r1 x y H Q\/r2 x y H Q
theorem aT{f:Value->Value->Sem Value}{r1 r2:R2}(h1:OpR X f r1)(h2:OpR X f r2):OpR X f (rOr r1 r2):=fun pins s σ H x y v u Q I rx ry h=>by
 rcases h with h|h
 ·exact h1 pins s σ H x y v u Q I rx ry h
 ·exact h2 pins s σ H x y v u Q I rx ry h
noncomputable def u4(K:W.Frag):V->Option Int->Option Int->Hp->VK->Prop:=fun x lo hi H Q=>IG K x lo hi H Q\/Fi K x lo hi H Q
theorem zy(K:W.Frag)(hK:X.K=K):SlR X (u4 K):=by
 subst hK;intro pins s σ H x v vl vu lo hi sl Q I rx hs pl pu h;rcases h with h|h
 ·exact D2 pins s σ H x v vl vu lo hi sl Q I rx hs pl pu h
 ·exact Ed pins s σ H x v vl vu lo hi sl Q I rx hs pl pu h
noncomputable def Hr(K:W.Frag)(tl:TE):TI:=fun σ H R=>tl σ H fun x H1=>(∃a,x=.ref a/\(∃xs,SqL K H1 a xs)/\R (Itl K a) H1)\/∃a,x=.ref a/\(∃xs,SqT K H1 a xs)/\R (Itt K a) H1
theorem cy(K:W.Frag)(hK:X.K=K){l:Expr}{tl:TE}(hl:PE X l tl):PI X tg l (Hr K tl):=by
 subst hK;intro pins s σ H R I h;refine thn (hl pins s σ H _ I h) fun v s1 ⟨x,H1,I1,r1,q1⟩=>?_;rcases q1 with q1|q1
 ·obtain⟨a,e,⟨xs,hq⟩,q⟩:=q1
  subst e;cases r1;obtain⟨its,rv,p,hz⟩:=I1.list hq;refine wpAny_pyIter_list p.isList ?_;refine⟨s1.heap.objs.size,[s1.heap.objs.size],_,_,H1,rfl,I1.kept (t':=s1.toks) fun b o e=>zac _ e,yM a _,⟨_,zan _ rfl,rfl,rfl⟩,fun b hb=>?_,q⟩;have e:b=s1.heap.objs.size:=by simpa using hb
  subst e;exact I1.KY (zaj _) (I1.hok.fresh (zaj _))
 ·obtain⟨a,e,⟨xs,hq⟩,q⟩:=q1
  subst e;cases r1;obtain⟨its,rv,p,hz⟩:=I1.tuple hq;refine wpAny_pyIter_tuple (show s1.heap.IsTuple a its.toArray from p) ?_
  refine⟨s1.heap.objs.size,[s1.heap.objs.size],_,_,H1,rfl,I1.kept (t':=s1.toks) fun b o e=>zac _ e,vO a _,⟨_,zan _ rfl,rfl,rfl⟩,fun b hb=>?_,q⟩;have e:b=s1.heap.objs.size:=by simpa using hb
  subst e;exact I1.KY (zaj _) (I1.hok.fresh (zaj _))
noncomputable abbrev ZK:=W.Frag->Hp->Addr->List V->Prop
noncomputable def zAt(K:W.Frag)(Sa Sb:ZK)(vs:List V)(H1:Hp)(R:It->Hp->Prop):Prop:=∃a b,vs=[.ref a,.ref b]/\(∃xs,Sa K H1 a xs)/\(∃ys,Sb K H1 b ys)/\R (Zp (Sa K) (Sb K) a b) H1
noncomputable def Fw(K:W.Frag)(ta:TA):TI:=fun σ H R=>ta σ H fun vs H1=>zAt K SqT SqT vs H1 R\/zAt K SqT SqL vs H1 R\/zAt K SqL SqT vs H1 R\/zAt K SqL SqL vs H1 R
theorem jy{c1 c2:String}{Sa Sb:ZK}{Ia Ib:Heap->Addr->Addr->Nat->Prop}{Isa Isb:Heap->Addr->Array Value->Prop}(k1:Kd c1 Sa Ia Isa)(k2:Kd c2 Sb Ib Isb){pp:Pos}{elts:List Expr}{kk:Nat}{pins:List (Addr×Obj)}{σ:St}{H1:Hp}{s1:Shared}{R:It->Hp->Prop}{us:List Value}{vs:List V}(I1:Inv X pins σ H1 s1)(r1:ay vs us)(q1:zAt X.K Sa Sb vs H1 R):wpAny (model X.prog X.w) X.A (call (Value.type "zip") us) (fun v s1=>wpAny (model X.prog X.w) X.A (pyIter v) (PIE X pins σ (.Tuple elts kk pp) R) X.xe s1) X.xe s1:=by
 obtain⟨l,m,e,⟨xs,hq⟩,⟨ys,hy⟩,q⟩:=q1;subst e
 cases r1 with
 |cons ra rr=>
  cases rr with
  |cons rb rr=>
   cases rr;cases ra;cases rb;obtain⟨its,_,pa⟩:=k1.got I1 hq;obtain⟨jts,_,pb⟩:=k2.got I1 hy;refine zk k1 k2 pa pb fun h1 z1 z2 z3 z4 z5 hk=>?_
   refine wpAny_pyIter_zip z1 ⟨_,[s1.heap.objs.size+4,s1.heap.objs.size+2,s1.heap.objs.size+3,s1.heap.objs.size,s1.heap.objs.size+1],_,_,H1,rfl,I1.kept (t':=s1.toks) hk,
    CV k1 k2 l m (s1.heap.objs.size+4) (s1.heap.objs.size+2) (s1.heap.objs.size+3) s1.heap.objs.size (s1.heap.objs.size+1) (by simp) (by simp) (by simp) (by simp) (by simp) (by simp) (by simp) (by simp) (by simp) (by simp),⟨z1,z2,⟨_,_,z3⟩,z4,z5⟩,fun c hc=>?_,q⟩
   have hge:s1.heap.objs.size<=c:=by
    rcases(by simpa using hc:c=s1.heap.objs.size+4\/c=s1.heap.objs.size+2\/c=s1.heap.objs.size+3\/c=s1.heap.objs.size\/c=s1.heap.objs.size+1) with rfl|rfl|rfl|rfl|rfl<;>omega
   exact I1.KY hge (I1.hok.fresh hge)
theorem wF(K:W.Frag)(hK:X.K=K){a b:Expr}{p pos pp:Pos}{elts:List Expr}{kk:Nat}{ta:TA}(hg:Gl X "zip")(hm:X.mg "zip"=none)(ha:PA X [a,b] ta)(hs:starEach [a,b] X.env=[(false,eval a X.env),(false,eval b X.env)]:=by rfl)(hs2:starEach [b] X.env=[(false,eval b X.env)]:=by rfl):PI X (.Tuple elts kk pp) (.Call (.Name "zip" p) [a,b] [] pos) (Fw K ta):=by
 subst hK;intro pins s σ H R I h;refine Call_ (kA I hg hm PyProof.Rows.boot_zip (zcx (thn (ha pos pins s σ H _ I h) fun us s1 ⟨vs,H1,I1,r1,q1⟩=>?_) (by rw[hs,hs2]) (by rw[hs2];rfl)))
 rcases q1 with q|q|q|q
 ·exact jy kdT kdT I1 r1 q
 ·exact jy kdT kdL I1 r1 q
 ·exact jy kdL kdT I1 r1 q
 ·exact jy kdL kdL I1 r1 q
noncomputable def FE(K:W.Frag)(ta tb:TE):TE:=fun σ H Q=>ta σ H fun x H1=>∃c,sH K x H1 c/\if c=true then tb σ H1 Q else Q x H1
noncomputable def Fo(K:W.Frag)(ta:TE):TE:=fun σ H Q=>ta σ H fun x H1=>∃c,sH K x H1 c/\Q (.bl (!c)) H1
variable{a b:Expr}{aJ:List Expr}{pos:Pos}{ta tb:TE}
theorem xT(K:W.Frag)(hK:X.K=K)(ha:PE X a ta)(hb:PE X (.BoolOp .And (b::aJ) pos) tb):PE X (.BoolOp .And (a::b::aJ) pos) (FE K ta tb):=.mk <| by
 subst hK;intro pins s σ H Q I h;refine BoolOp_and (thn (ha pins s σ H _ I h) fun v s1 ⟨x,H1,I1,r1,q1⟩=>?_);refine thn (vQ pins s1 σ H1 x v (fun c H2=>H2=H1/\if c=true then tb σ H1 Q else Q x H1) I1 r1 ?_) fun c s2 ⟨H2,I2,e,q2⟩=>?_
 ·obtain⟨c,hc,q⟩:=q1
  exact⟨c,hc,rfl,q⟩
 ·subst e
  cases c with
  |true=>rw[zaf rfl] at q2;exact hb pins s2 σ H2 Q I2 q2
  |false=>rw[zad zat] at q2;exact⟨x,H2,I2,r1,q2⟩
theorem Ei(K:W.Frag)(hK:X.K=K)(ha:PE X a ta):PE X (.UnaryOp .Not a pos) (Fo K ta):=.mk <| by
 subst hK;intro pins s σ H Q I h;refine UnaryOp_ (thn (ha pins s σ H _ I h) fun v s1 ⟨x,H1,I1,r1,q1⟩=>?_);refine not_of (thn (vQ pins s1 σ H1 x v (fun c H2=>Q (.bl (!c)) H2) I1 r1 q1) fun c s2 ⟨H2,I2,q2⟩=>⟨.bl (!c),H2,I2,rfl,q2⟩)
end
noncomputable def ET(ta tb:AE):AE:=fun ρ Z Q=>ta ρ Z fun x Z1=>∃c,gh Z1 x=some c/\if c=true then tb ρ Z1 Q else Q x Z1
noncomputable def Fy(ta:AE):AE:=fun ρ Z Q=>ta ρ Z fun x Z1=>∃c,gh Z1 x=some c/\Q (.d (.bl (!c))) Z1
noncomputable def aSl(te:AE)(tl th:AO):AE:=fun ρ Z Q=>te ρ Z fun x Z1=>tl ρ Z1 fun lo Z2=>th ρ Z2 fun hi Z3=>match x with
 |.d (.tup ds)=>Q (.d (.tup (mI ds lo hi))) Z3
 |x=>∃ds,bo Z3 x=some (.lst ds)/\Q (.d (.lst (mI ds lo hi))) Z3
noncomputable def E9(te:AE):AI:=fun ρ Z R=>te ρ Z fun x Z1=>oR Z1 x fun d Z2=>∃ds,nj d=some ds/\R (ds.map AV.d) Z2
noncomputable def Fm(ta:AA):AI:=fun ρ Z R=>ta ρ Z fun xs Z1=>∃x y,xs=[x,y]/\oR Z1 x fun d Z2=>oR Z2 y fun e Z3=>∃ds es,nj d=some ds/\nj e=some es/\R (mZ ds es) Z3
noncomputable def DZ:A2:=fun x y Z Q=>match x with
 |.d (.int i)=>∃j,y=.d (.int j)/\Q (.d (.int (i+j))) Z
 |.d (.tup ds)=>∃es,y=.d (.tup es)/\ds.length+es.length<=sizeLine/\Q (.d (.tup (ds++es))) Z
 |x=>∃ds es,bo Z x=some (.lst ds)/\bo Z y=some (.lst es)/\ds.length+es.length<=sizeLine/\Q (.d (.lst (ds++es))) Z
noncomputable def Jy:A2:=fun x y Z Q=>match x with
 |.d (.int i)=>∃j,y=.d (.int j)/\oI i j/\Q (.d (.int (i*j))) Z
 |x=>Bi x y Z Q
section
variable{K:W.Frag}{te ta tb:TE}{te' ta' tb':AE}{tl th:TO}{tl' th':AO}{sa:TA}{sa':AA}
theorem BO(ha:aD ta ta')(hb:aD tb tb'):aD (FE K ta tb) (ET ta' tb'):=⟨fun F H Z σ ρ Q Q' rp rs h k=>
 ha.go rp rs h fun x Z1 v H1 rp1 fr1 rs1 rv1 ⟨c,e,q⟩=>⟨c,vZ rp1 rv1 e,by
  cases c with
  |false=>rw[zad zat] at q ⊢;exact k x Z1 v H1 rp1 fr1 rv1 q
  |true=>rw[zaf rfl] at q ⊢;exact hb.run F H1 Z1 σ ρ Q Q' rp1 rs1 q (k.fr fr1)⟩⟩
theorem GF(ha:aD ta ta'):aD (Fo K ta) (Fy ta'):=⟨fun F H Z σ ρ Q Q' rp rs h k=>
 ha.go rp rs h fun x Z1 v H1 rp1 fr1 rs1 rv1 ⟨c,e,q⟩=>⟨c,vZ rp1 rv1 e,(k.fr fr1).bl rp1 q⟩⟩
theorem HL(he:aD te te')(hl:Ref REq tl tl')(hh:Ref REq th th'):aD (tSl (u4 K) te tl th) (aSl te' tl' th'):=⟨fun F H Z σ ρ Q Q' rp rs w k=>
 he.go rp rs w fun x Z1 v H1 rp1 fr1 rs1 rv1 q1=>hl.go rp1 rs1 q1 fun lo Z2 lo' H2 rp2 fr2 rs2 e2 q2=>hh.go rp2 rs2 q2 fun hi Z3 hi' H3 rp3 fr3 rs3 e3 q=>by
  cases (show lo=lo' from e2)
  cases (show hi=hi' from e3)
  have r:=rv1.same (fr2.trans fr3).same;have k3:=k.fr ((fr1.trans fr2).trans fr3)
  have ls:(∃ds,bo Z3 x=some (.lst ds)/\Q' (.d (.lst (mI ds lo hi))) Z3)->u4 K v lo hi H3 Q:=fun⟨ds,e,q⟩=>by
   obtain⟨a,vs,rfl,z1,z2⟩:=ff rp3 r e;exact .inl ⟨a,vs,rfl,.inl (.inl z1),k3.lst rp3 z2.cut q⟩
  cases x with
  |d x=>cases x with
   |tup ds=>
    refine .inr ?_;have r':=r;simp only[RV,Dat] at r;obtain⟨a,vs,rfl,z1,z2⟩:=r;refine⟨a,vs,rfl,.inl (.inl (ar _ _ z1)),?_⟩;by_cases hw:HT.sIx vs.length 0 lo=0/\HT.sIx vs.length vs.length hi=vs.length
    ·rw[zaf hw]
     have:mI ds lo hi=ds:=by
      unfold mI;rw[←z2.length,hw.1,hw.2,List.drop_zero,Nat.sub_zero,z2.length,zbC]
     replace q:Q' (.d (.tup (mI ds lo hi))) Z3:=q
     rw[this] at q;exact k3 _ Z3 _ H3 rp3 .refl r' q
    ·rw[zad hw]
     exact k3.tup rp3 z2.cut q
   |_=>exact ls q
  |_=>exact ls q⟩
theorem fF(h:aD te te'):oo (Hr K te) (E9 te'):=⟨fun F H Z σ ρ R R' rp rs w k=>h.go rp rs w fun x Z1 v H1 rp1 fr1 rs1 rv q=>by
 obtain⟨d,Z2,rp2,fr2,hd,ds,hs,q2⟩:=ve rp1 rv q
 cases d with
 |lst es=>
  cases hs;obtain⟨a,vs,rfl,ha⟩:=pF hd;exact .inl ⟨a,rfl,⟨vs,.inl (.inl (ar _ _ ha))⟩,k _ Z2 _ H1 rp2 (fr1.trans fr2) (DL hd) q2⟩
 |tup es=>
  cases hs;obtain⟨a,vs,rfl,ha⟩:=eI hd;exact .inr ⟨a,rfl,⟨vs,.inl (.inl (ar _ _ ha))⟩,k _ Z2 _ H1 rp2 (fr1.trans fr2) (Hi hd) q2⟩
 |_=>cases hs⟩
theorem Et{G:Hp}{ds:List D}{v:V}(h:Dat G (.lst ds) v):∃a,v=.ref a/\∀F H Z,Rep F H Z->bH G (cut F H Z)->∃vs,SqL K H a vs/\ao (cut F H Z) ds vs:=by
 obtain⟨a,_,rfl,_⟩:=pF h;refine⟨a,rfl,fun F H Z rp s=>?_⟩;have h2:=h.same s;simp only[Dat] at h2;obtain⟨_,vs,e,ha,hd⟩:=h2;cases e;exact⟨vs,.inl (.inl (ar _ _ ha)),hd⟩
theorem Ey{G:Hp}{ds:List D}{v:V}(h:Dat G (.tup ds) v):∃a,v=.ref a/\∀F H Z,Rep F H Z->bH G (cut F H Z)->∃vs,SqT K H a vs/\ao (cut F H Z) ds vs:=by
 obtain⟨a,_,rfl,_⟩:=eI h;refine⟨a,rfl,fun F H Z rp s=>?_⟩;have h2:=h.same s;simp only[Dat] at h2;obtain⟨_,vs,e,ha,hd⟩:=h2;cases e;exact⟨vs,.inl (.inl (ar _ _ ha)),hd⟩
theorem Db{F:Fs}{H1:Hp}{Z3:Om}{Sa Sb:ZK}{ds es:List D}{v u:V}{R:It->Hp->Prop}{R':List AV->Om->Prop}(rp3:Rep F H1 Z3)(k:LP vm F H1 Z3 R' R)(h1:∃a,v=.ref a/\∀F' H Z,Rep F' H Z->bH (cut F H1 Z3) (cut F' H Z)->∃vs,Sa K H a vs/\ao (cut F' H Z) ds vs)(h2:∃a,u=.ref a/\∀F' H Z,Rep F' H Z->bH (cut F H1 Z3) (cut F' H Z)->∃vs,Sb K H a vs/\ao (cut F' H Z) es vs)(q:R' (mZ ds es) Z3):zAt K Sa Sb [v,u] H1 R:=by
 obtain⟨a,rfl,ha⟩:=h1;obtain⟨b,rfl,hb⟩:=h2;obtain⟨vs,e1,_⟩:=ha F H1 Z3 rp3 (bH.refl _);obtain⟨us,e2,_⟩:=hb F H1 Z3 rp3 (bH.refl _);exact⟨a,b,rfl,⟨vs,e1⟩,⟨us,e2⟩,k _ Z3 _ H1 rp3 .refl (FR ha hb) q⟩
theorem Fx(h:jL sa sa'):oo (Fw K sa) (Fm sa'):=⟨fun F H Z σ ρ R R' rp rs w k=>h.go rp rs w fun xs Z1 vs H1 rp1 fr1 rs1 rv ⟨x,y,e,q⟩=>by
 subst e;obtain⟨v,u,rfl,r1,r2⟩:=D4 rv;obtain⟨d,Z2,rp2,fr2,hd,q⟩:=ve rp1 r1 q;obtain⟨e,Z3,rp3,fr3,he,ds,es,hs,ht,qz⟩:=ve rp2 (r2.same fr2.same) q;have hd3:=hd.same fr3.same;have k3:=k.fr ((fr1.trans fr2).trans fr3)
 cases d with
 |tup d1=>
  cases hs
  cases e with
  |tup e1=>cases ht;exact .inl (Db rp3 k3 (Ey hd3) (Ey he) qz)
  |lst e1=>cases ht;exact .inr (.inl (Db rp3 k3 (Ey hd3) (Et he) qz))
  |_=>cases ht
 |lst d1=>
  cases hs
  cases e with
  |tup e1=>cases ht;exact .inr (.inr (.inl (Db rp3 k3 (Et hd3) (Ey he) qz)))
  |lst e1=>cases ht;exact .inr (.inr (.inr (Db rp3 k3 (Et hd3) (Et he) qz)))
  |_=>cases ht
 |_=>cases hs⟩
theorem fe:f6 (rOr (rI0 fun i j=>.int (i+j)) (rOr xu Eu)) DZ:=⟨fun F H Z v u x y Q Q' rp h1 h2 q k=>by
 have ls:(∃ds es,bo Z x=some (.lst ds)/\bo Z y=some (.lst es)/\ds.length+es.length<=sizeLine/\Q' (.d (.lst (ds++es))) Z)->rOr (rI0 fun i j=>.int (i+j)) (rOr xu Eu) v u H Q:=fun q=>
  .inr (.inr (F3.run F H Z v u x y Q Q' rp h1 h2 q k))
 cases x with
 |d x=>cases x with
  |int i=>
   obtain⟨j,rfl,q⟩:=q;exact .inl ⟨i,j,bv h1,bv h2,k.int rp q⟩
  |tup ds=>
   obtain⟨es,rfl,z,q⟩:=q;exact .inr (.inl (GV.run F H Z v u _ _ Q Q' rp h1 h2 ⟨ds,es,rfl,rfl,z,q⟩ k))
  |_=>exact ls q
 |_=>exact ls q⟩
theorem tu:f6 (rOr (rI oI fun i j=>.int (i*j)) Es) Jy:=⟨fun F H Z v u x y Q Q' rp h1 h2 q k=>by
 have ls:Bi x y Z Q'->rOr (rI oI fun i j=>.int (i*j)) Es v u H Q:=fun q=>.inr (He.run F H Z v u x y Q Q' rp h1 h2 q k)
 cases x with
 |d x=>cases x with
  |int i=>
   obtain⟨j,rfl,c,q⟩:=q;exact .inl ⟨i,j,bv h1,bv h2,c,k.int rp q⟩
  |_=>exact ls q
 |_=>exact ls q⟩
end
theorem za{X:Cx}(K:W.Frag)(hK:X.K=K)(hc:X.calm=true):cW X (.builtin "sum") (fun xs H Q=>(∃(a:Addr)(ns:List Int),xs=[.ref a]/\SqL K H a (ns.map V.int)/\Q (.int ns.sum) H)\/∃(a:Addr)(ns:List Int),xs=[.ref a]/\SqT K H a (ns.map V.int)/\Q (.int ns.sum) H):=by
 subst hK;intro pins s σ H xs us Q I r h;rcases h with h|h
 ·exact As hc pins s σ H xs us Q I r h
 ·exact zt hc pins s σ H xs us Q I r h
noncomputable def FA:AC:=fun xs Z Q=>∃(x:AV)(d:D)(ns:List Int),xs=[x]/\bo Z x=some d/\nj d=some (ns.map D.int)/\Q (.d (.int ns.sum)) Z
theorem HD{K:W.Frag}:jo (fun xs H Q=>(∃(a:Addr)(ns:List Int),xs=[.ref a]/\SqL K H a (ns.map V.int)/\Q (.int ns.sum) H)\/∃(a:Addr)(ns:List Int),xs=[.ref a]/\SqT K H a (ns.map V.int)/\Q (.int ns.sum) H) FA:=⟨fun F H Z vs xs Q Q' rp rv ⟨x,d,ns,e1,e2,e3,q⟩ k=>by
 subst e1;obtain⟨v,rfl,r⟩:=i8 rv;have hd:=je rp r e2
 cases d with
 |lst ds=>
  cases e3;simp only[Dat] at hd;obtain⟨a,us,rfl,q1,q2⟩:=hd;cases gk q2;exact .inl ⟨a,ns,rfl,.inl (.inl q1),k.int rp q⟩
 |tup ds=>
  cases e3;simp only[Dat] at hd;obtain⟨a,us,rfl,q1,q2⟩:=hd;cases gk q2;exact .inr ⟨a,ns,rfl,.inl (.inl q1),k.int rp q⟩
 |_=>cases e3⟩
noncomputable def vD:V->Option D
 |.non=>some .non
 |.bl b=>some (.bl b)
 |.int i=>some (.int i)
 |.str x=>some (.str x)
 |_=>none
noncomputable def Ft(kvs:List (Str×V))(ty:AE):AE:=fun ρ Z Q=>ty ρ Z fun y Z1=>∃x v d,y=.d (.str x)/\wq kvs x=some v/\vD v=some d/\Q (.d d) Z1
theorem Gp{kvs:List (Str×V)}{a:Addr}{ty:TE}{ty':AE}(h:aD ty ty'):aD (FG kvs (tC (.ref a)) ty) (Ft kvs ty'):=⟨fun F H Z σ ρ Q Q' rp rs w k=>h.go rp rs w fun y Z1 u H1 rp1 fr1 rs1 rv ⟨x,v,d,e1,e2,e3,q⟩=>by
 subst e1;refine⟨x,v,qd rv,e2,?_⟩;refine k (.d d) Z1 v H1 rp1 fr1 ?_ q;cases v<;>simp only[vD,zaH,reduceCtorEq] at e3
 all_goals (subst e3;simp[RV,Dat])⟩
noncomputable def gN(N:List Str)(xs:List AV):SA:=xs.map some++List.replicate (N.length-xs.length) none
theorem RS.start{G:Hp}{N:List Str}{xs:List AV}{vs:List V}(h:RVs G xs vs):RS G (gN N xs) (start N vs):=by
 refine⟨by simp[gN,L2.start,h.length],fun i a e=>?_⟩
 unfold gN at e;unfold L2.start;by_cases hi:i<xs.length
 ·rw[zbo (by simpa using hi),zam] at e
  rw[zbo (by simpa[h.length] using hi),zam]
  cases z:xs[i]? with
  |none=>rw[z] at e;simp at e
  |some b=>
   rw[z] at e;simp at e;subst e;obtain⟨v,e1,e2⟩:=h.get z;exact⟨v,by rw[e1];rfl,e2⟩
 ·rw[zcj (by simpa using hi)] at e
  have:=zaz e;rw[List.mem_replicate] at this;cases this.2
theorem Fun.okA{P:Program}{w:World}{K:W.Frag}{mg:Str->Option Value}{base:Heap}{x qual:Str}{st:Stmt}{f:Addr}{fd:FuncData}{N ps:List Str}{k:Nat}{sp:ASp}(F:Fun K x qual st f fd)(S:aK N ps (defScope st))(len:∀xs Z Q,sp xs Z Q->xs.length=ps.length)
  (hbody:∀(cdv:Value)(A:Around)(outer:List Env)(s:Shared)(H:Hp)(E:XK),cw k (A.deeper (envOfC qual (defScope st) s.heap.objs.size f cdv)) ->
   ∃t t',PSs (oJ CX0 P w K mg base N qual (defScope st) f cdv A outer s H E).nox (defBody st) t/\eB t t'/\∀xs Z Q',sp xs Z Q'->t' { nx:=fun _ Z'=>Q' (.d .non) Z',rt:=Q' } (gN N xs) Z):a7 P w K mg base CX0 (k+1) f fd ps (c9 sp):=by
 refine F.ok S (fun vs H Q E h=>?_) (fun cdv A outer s H vs Q E hr h=>?_)
 ·obtain⟨F,xs,Z,Q',rp,rv,h,_⟩:=h
  rw[rv.length,len xs Z Q' h]
 ·obtain⟨t,t',h1,h2,h3⟩:=hbody cdv A outer s H E hr
  obtain⟨F,xs,Z,Q',rp,rv,h,kq⟩:=h;refine⟨t,h1,h2.run F H Z _ _ _ _ rp (RS.start rv) (h3 xs Z Q' h) ⟨?_,kq,fun _ _ _ _ _ _ _ z=>z.elim,fun _ _ _ _ _ _ _ z=>z.elim⟩⟩;exact fun ρ' Z' σ' H' e1 e2 e3 q=>kq (.d .non) Z' .non H' e1 e2 (by simp[RV,Dat]) q
theorem mN(D:bj)(ρ:SA)(Z:Om):Fb D ρ Z=(D.nx ρ Z):=rfl
theorem gj(t u:AS)(D:bj)(ρ:SA)(Z:Om):DW t u D ρ Z=(t { D with nx:=u D } ρ Z):=rfl
theorem tz(te:AE)(D:bj)(ρ:SA)(Z:Om):p6 te D ρ Z=(te ρ Z fun _ Z1=>D.nx ρ Z1):=rfl
theorem xO(te:AE)(D:bj)(ρ:SA)(Z:Om):IO te D ρ Z=(te ρ Z D.rt):=rfl
theorem xE(c:AT)(t u:AS)(D:bj)(ρ:SA)(Z:Om):C8 c t u D ρ Z=(c ρ Z fun b Z1=>if b=true then t D ρ Z1 else u D ρ Z1):=rfl
theorem wN(te:AE)(g:AG)(D:bj)(ρ:SA)(Z:Om):Ha te g D ρ Z=(te ρ Z fun x Z1=>g x ρ Z1 D.nx):=rfl
theorem iB(i:Nat)(v:AV)(ρ:SA)(Z:Om)(Q:SA->Om->Prop):eV i v ρ Z Q=(Q (ρ.set i (some v)) Z):=rfl
theorem sh(vs:List AV)(ρ:SA)(Z:Om)(Q:SA->Om->Prop):yx vs ρ Z Q=(vs=[]/\Q ρ Z):=rfl
theorem p9(t:AG)(u:AGs)(vs:List AV)(ρ:SA)(Z:Om)(Q:SA->Om->Prop):kn t u vs ρ Z Q=(∃v r,vs=v::r/\t v ρ Z fun ρ' Z'=>u r ρ' Z' Q):=rfl
theorem wI(wi:AI)(g:AG)(tb:AS)(D:bj)(ρ:SA)(Z:Om):Jq wi g tb D ρ Z=(wi ρ Z fun as Z1=>iR g tb D as ρ Z1):=rfl
theorem iW(z0:SA)(Z:Om)(Q:Bool->Om->Prop):eg z0 Z Q=(Q true Z):=rfl
theorem nF(te:AE)(xs:List AV)(ρ:SA)(Z:Om)(K:List AV->SA->Om->Prop):jQ te xs ρ Z K=(te ρ Z fun y Z1=>xs.length<sizeLine/\K (xs++[y]) ρ Z1):=rfl
theorem tW(wi:AI)(g:AG)(tc:AT)(l:AL)(xs:List AV)(ρ:SA)(Z:Om)(K:List AV->SA->Om->Prop):FC wi g tc l xs ρ Z K=(wi ρ Z fun as Z1=>bK g tc l as xs ρ Z1 K):=rfl
theorem yj(i:Nat)(ρ:SA)(Z:Om)(Q:AV->Om->Prop):eO i ρ Z Q=(∃a,ρ[i]?=some (some a)/\Q a Z):=rfl
theorem FB(d:D)(z0:SA)(Z:Om)(Q:AV->Om->Prop):aC d z0 Z Q=(Q (.d d) Z):=rfl
theorem BM(r:A2)(ta tb:AE)(ρ:SA)(Z:Om)(Q:AV->Om->Prop):aOp r ta tb ρ Z Q=(ta ρ Z fun x Z1=>tb ρ Z1 fun y Z2=>r x y Z2 Q):=rfl
theorem wH(z0:SA)(Z:Om)(Q:List AV->Om->Prop):sJ z0 Z Q=(Q [] Z):=rfl
theorem sk(ta:AE)(tr:AA)(ρ:SA)(Z:Om)(Q:List AV->Om->Prop):iN ta tr ρ Z Q=(ta ρ Z fun x Z1=>tr ρ Z1 fun xs Z2=>Q (x::xs) Z2):=rfl
theorem xG(t:AA)(ρ:SA)(Z:Om)(Q:AV->Om->Prop):Jn t ρ Z Q=(t ρ Z fun xs Z1=>xs.length<=sizeLine/\∃ds,und xs=some ds/\Q (.d (.tup ds)) Z1):=rfl
theorem wR(t:AA)(ρ:SA)(Z:Om)(Q:AV->Om->Prop):Jz t ρ Z Q=(t ρ Z fun xs Z1=>xs.length<=sizeLine/\∃ds,und xs=some ds/\Q (.d (.lst ds)) Z1):=rfl
theorem sF(t:AA)(ρ:SA)(Z:Om)(Q:AV->Om->Prop):E2 t ρ Z Q=(t ρ Z fun xs Z1=>xs.length<=sizeLine/\∀p,Z1 p=none->Q (.r (.ref p)) (Z1.put p (.own xs))):=rfl
theorem tX(sp:ASp)(t:AA)(ρ:SA)(Z:Om)(Q:AV->Om->Prop):Fq sp t ρ Z Q=(t ρ Z fun xs Z1=>sp xs Z1 Q):=rfl
theorem uJ(t:AE)(ρ:SA)(Z:Om)(Q:Bool->Om->Prop):ym t ρ Z Q=(t ρ Z fun x Z1=>∃k,x=.d (.bl k)/\Q k Z1):=rfl
theorem xa(t u:AT)(ρ:SA)(Z:Om)(Q:Bool->Om->Prop):IT t u ρ Z Q=(t ρ Z fun c Z1=>if c=true then u ρ Z1 Q else Q false Z1):=rfl
theorem CM(t u:AT)(ρ:SA)(Z:Om)(Q:Bool->Om->Prop):aOr t u ρ Z Q=(t ρ Z fun c Z1=>if c=true then Q true Z1 else u ρ Z1 Q):=rfl
theorem w5(t:AT)(ρ:SA)(Z:Om)(Q:Bool->Om->Prop):II t ρ Z Q=(t ρ Z fun c Z1=>Q (!c) Z1):=rfl
theorem Ar(t:AT)(ta tb:AE)(ρ:SA)(Z:Om)(Q:AV->Om->Prop):aIf t ta tb ρ Z Q=(t ρ Z fun c Z1=>if c=true then ta ρ Z1 Q else tb ρ Z1 Q):=rfl
theorem wU(v:V)(z0:SA)(Z:Om)(Q:AV->Om->Prop):Ik v z0 Z Q=(Q (.r v) Z):=rfl
theorem wE(ta:AE)(ρ:SA)(Z:Om)(Q:Bool->Om->Prop):Gm ta ρ Z Q=(ta ρ Z fun x Z1=>∃k,gh Z1 x=some k/\Q k Z1):=rfl
theorem Ap(f:Int->Int->D)(x:AV)(y:AV)(Z:Om)(Q:AV->Om->Prop):aI0 f x y Z Q=(∃i j,x=.d (.int i)/\y=.d (.int j)/\Q (.d (f i j)) Z):=rfl
theorem Fz(C:Int->Int->Prop)(f:Int->Int->D)(x:AV)(y:AV)(Z:Om)(Q:AV->Om->Prop):aI C f x y Z Q=(∃i j,x=.d (.int i)/\y=.d (.int j)/\C i j/\Q (.d (f i j)) Z):=rfl
theorem xF(neg:Bool)(x:AV)(y:AV)(Z:Om)(Q:AV->Om->Prop):C9 neg x y Z Q=(∃a b,bo Z x=some a/\bo Z y=some b/\dep a<=100/\Q (.d (.bl (if neg then !eqD a b else eqD a b))) Z):=rfl
theorem BD(neg:Bool)(x:AV)(y:AV)(Z:Om)(Q:AV->Om->Prop):aIn neg x y Z Q=(∃a b ds,bo Z x=some a/\bo Z y=some b/\(b=.lst ds\/b=.tup ds)/\bW ds<=90/\Q (.d (.bl (if neg then !inD a ds else inD a ds))) Z):=rfl
theorem zV(x:AV)(y:AV)(Z:Om)(Q:AV->Om->Prop):aIx x y Z Q=(∃xs i a,(dO Z x=some xs\/gA x=some xs)/\y=.d (.int i)/\atI xs i=some a/\Q a Z):=rfl
theorem yu(xs:List AV)(Z:Om)(Q:AV->Om->Prop):HV xs Z Q=(∃x n,xs=[x]/\uX Z x=some n/\Q (.d (.int n)) Z):=rfl
theorem yp(f:List Bool->Bool)(xs:List AV)(Z:Om)(Q:AV->Om->Prop):Ig f xs Z Q=(∃x bs,xs=[x]/\bo Z x=some (.lst (bs.map D.bl))/\Q (.d (.bl (f bs))) Z):=rfl
theorem Aq(f:Int->Int->Int)(xs:List AV)(Z:Om)(Q:AV->Om->Prop):aF2 f xs Z Q=(∃i j,xs=[.d (.int i),.d (.int j)]/\Q (.d (.int (f i j))) Z):=rfl
theorem Br(f:Int->Int)(xs:List AV)(Z:Om)(Q:AV->Om->Prop):aF1 f xs Z Q=(∃i,xs=[.d (.int i)]/\Q (.d (.int (f i))) Z):=rfl
theorem xK(xs:List AV)(Z:Om)(Q:AV->Om->Prop):Ie xs Z Q=(∃d i,xs=[.d d]/\zO d=some i/\Q (.d (.int i)) Z):=rfl
theorem o6(xs:List AV)(Z:Om)(Q:AV->Om->Prop):By xs Z Q=(∃x ds,xs=[x]/\(bo Z x=some (.lst ds)\/x=.d (.tup ds))/\Q (.d (.tup ds)) Z):=rfl
theorem pz(ta:AA)(ρ:SA)(Z:Om)(R:List AV->Om->Prop):CN ta ρ Z R=(ta ρ Z fun xs Z1=>∃j:Int,xs=[.d (.int j)]/\-(2^62)<=j/\j<2^62/\R (dD 0 j.toNat) Z1):=rfl
theorem px(ta:AA)(ρ:SA)(Z:Om)(R:List AV->Om->Prop):Ci ta ρ Z R=(ta ρ Z fun xs Z1=>∃i j:Int,xs=[.d (.int i),.d (.int j)]/\(-(2^62)<=i/\i<2^62/\-(2^62)<=j/\j<2^62)/\R (dD i (j-i).toNat) Z1):=rfl
theorem sM(n:Nat)(t:AGs)(v:AV)(ρ:SA)(Z:Om)(Q:SA->Om->Prop):w6 n t v ρ Z Q=(∃ds,v=.d (.tup ds)/\ds.length=n/\t (ds.map AV.d) ρ Z Q):=rfl
theorem o7(z0:SA)(Z:Om)(Q:Option Int->Om->Prop):vM z0 Z Q=(Q none Z):=rfl
theorem pD(t:AE)(ρ:SA)(Z:Om)(Q:Option Int->Om->Prop):vU t ρ Z Q=(t ρ Z fun x Z1=>∃i,x=.d (.int i)/\Q (some i) Z1):=rfl
theorem mq(to:AE)(t:AA)(ρ:SA)(Z:Om)(Q:AV->Om->Prop):ip to t ρ Z Q=(to ρ Z fun x Z1=>∃l,x=.r (.ref l)/\(∃zs,Z1 l=some (.own zs))/\t ρ Z1 fun ys Z2=>∃xs y,ys=[y]/\Z2 l=some (.own xs)/\xs.length<sizeLine/\Q (.d .non) (Z2.put l (.own (xs++[y])))):=rfl
theorem mB(to:AE)(t:AA)(ρ:SA)(Z:Om)(Q:AV->Om->Prop):yn to t ρ Z Q=(to ρ Z fun x Z1=>∃l,x=.r (.ref l)/\(∃zs,Z1 l=some (.own zs))/\t ρ Z1 fun ys Z2=>∃xs y zs,ys=[y]/\Z2 l=some (.own xs)/\dO Z2 y=some zs/\xs.length+zs.length<=sizeLine/\Q (.d .non) (Z2.put l (.own (xs++zs)))):=rfl
theorem xR(xs:List AV)(Z:Om)(Q:AV->Om->Prop):Js xs Z Q=(∃x d T,xs=[x,.r (.ty T)]/\bo Z x=some d/\T∈lB/\Q (.d (.bl (isD T d))) Z):=rfl
theorem pQ(r r':A2)(ta tb tc:AE)(ρ:SA)(Z:Om)(Q:AV->Om->Prop):BU r r' ta tb tc ρ Z Q=(ta ρ Z fun x Z1=>tb ρ Z1 fun y Z2=>r x y Z2 fun z Z3=>∃k,z=.d (.bl k)/\(if k=true then tc ρ Z3 fun w Z4=>r' y w Z4 Q else Q (.d (.bl false)) Z3)):=rfl
theorem sQ(ta tb:AE)(ρ:SA)(Z:Om)(Q:AV->Om->Prop):ET ta tb ρ Z Q=(ta ρ Z fun x Z1=>∃c,gh Z1 x=some c/\if c=true then tb ρ Z1 Q else Q x Z1):=rfl
theorem sr(ta:AE)(ρ:SA)(Z:Om)(Q:AV->Om->Prop):Fy ta ρ Z Q=(ta ρ Z fun x Z1=>∃c,gh Z1 x=some c/\Q (.d (.bl (!c))) Z1):=rfl
theorem uL(te:AE)(ρ:SA)(Z:Om)(R:List AV->Om->Prop):E9 te ρ Z R=(te ρ Z fun x Z1=>oR Z1 x fun d Z2=>∃ds,nj d=some ds/\R (ds.map AV.d) Z2):=rfl
theorem tE(ta:AA)(ρ:SA)(Z:Om)(R:List AV->Om->Prop):Fm ta ρ Z R=(ta ρ Z fun xs Z1=>∃x y,xs=[x,y]/\oR Z1 x fun d Z2=>oR Z2 y fun e Z3=>∃ds es,nj d=some ds/\nj e=some es/\R (mZ ds es) Z3):=rfl
theorem ue(xs:List AV)(Z:Om)(Q:AV->Om->Prop):FA xs Z Q=(∃(x:AV)(d:D)(ns:List Int),xs=[x]/\bo Z x=some d/\nj d=some (ns.map D.int)/\Q (.d (.int ns.sum)) Z):=rfl
theorem uC(src:List (Option Nat))(wi:AI)(g:AG)(tc:AT)(l:AL)(ρ:SA)(Z:Om)(Q:AV->Om->Prop):E8 src wi g tc l ρ Z Q=(wi ρ Z fun as Z1=>bK g tc l as [] (kb src ρ) Z1 fun xs _ Z'=>∃ds,und xs=some ds/\Q (.d (.lst ds)) Z'):=rfl
theorem zS(r:List AV->Om->(AV->Om->Prop)->Prop)(t:AA)(ρ:SA)(Z:Om)(Q:AV->Om->Prop):aCB r t ρ Z Q=(t ρ Z fun xs Z1=>r xs Z1 Q):=rfl
theorem tV(kvs:List (Str×V))(ty:AE)(ρ:SA)(Z:Om)(Q:AV->Om->Prop):Ft kvs ty ρ Z Q=(ty ρ Z fun y Z1=>∃x v d,y=.d (.str x)/\wq kvs x=some v/\vD v=some d/\Q (.d d) Z1):=rfl
theorem sg(i:Int)(y:AV)(Z:Om)(Q:AV->Om->Prop):DZ (.d (.int i)) y Z Q=(∃j,y=.d (.int j)/\Q (.d (.int (i+j))) Z):=rfl
theorem zX(ds:List D)(y:AV)(Z:Om)(Q:AV->Om->Prop):DZ (.d (.tup ds)) y Z Q=(∃es,y=.d (.tup es)/\ds.length+es.length<=sizeLine/\Q (.d (.tup (ds++es))) Z):=rfl
theorem tY(i:Int)(y:AV)(Z:Om)(Q:AV->Om->Prop):Jy (.d (.int i)) y Z Q=(∃j,y=.d (.int j)/\oI i j/\Q (.d (.int (i*j))) Z):=rfl
noncomputable def slA(x:AV)(lo hi:Option Int)(Z:Om)(Q:AV->Om->Prop):Prop:=match x with
 |.d (.tup ds)=>Q (.d (.tup (mI ds lo hi))) Z
 |x=>∃ds,bo Z x=some (.lst ds)/\Q (.d (.lst (mI ds lo hi))) Z
theorem xl(ds:List D)(lo hi:Option Int)(Z:Om)(Q:AV->Om->Prop):slA (.d (.tup ds)) lo hi Z Q=Q (.d (.tup (mI ds lo hi))) Z:=rfl
theorem zu(te:AE)(tl th:AO)(ρ:SA)(Z:Om)(Q:AV->Om->Prop):aSl te tl th ρ Z Q=(te ρ Z fun x Z1=>tl ρ Z1 fun lo Z2=>th ρ Z2 fun hi Z3=>slA x lo hi Z3 Q):=rfl
theorem Bm(Z:Om)(x:D)(K:D->Om->Prop):oR Z (.d x) K=K x Z:=rfl
theorem Hs(Z:Om)(l:Addr)(K:D->Om->Prop):oR Z (.r (.ref l)) K=(match Z l with
  |some (.own xs)=>∃ds,und xs=some ds/\K (.lst ds) (Z.put l (.frz ds))
  |some (.frz ds)=>K (.lst ds) Z
  |_=>False):=rfl
theorem CY(Z:Om)(x:D):bo Z (.d x)=some x:=rfl
theorem wy(Z:Om)(l:Addr):bo Z (.r (.ref l))=(match Z l with
  |some (.own xs)=>(und xs).map D.lst
  |some (.frz ds)=>some (.lst ds)
  |_=>none):=rfl
theorem Am(Z:Om)(ds:List D):dO Z (.d (.lst ds))=some (ds.map AV.d):=rfl
theorem AX(Z:Om)(ds:List D):dO Z (.d (.tup ds))=none:=rfl
theorem mS(Z:Om)(l:Addr):dO Z (.r (.ref l))=(match Z l with
  |some (.own xs)=>some xs
  |some (.frz ds)=>some (ds.map AV.d)
  |_=>none):=rfl
theorem wm(ds:List D):gA (.d (.tup ds))=some (ds.map AV.d):=rfl
theorem zG(ds:List D):gA (.d (.lst ds))=none:=rfl
theorem Cw(v:V):gA (.r v)=none:=rfl
theorem Bv(Z:Om)(b:Bool):gh Z (.d (.bl b))=some b:=rfl
theorem Gs(Z:Om)(l:Addr):gh Z (.r (.ref l))=(dO Z (.r (.ref l))).map fun xs=>!xs.isEmpty:=rfl
theorem tG(x:D)(r:List AV):und (.d x::r)=(und r).map (x::·):=rfl
theorem yb:und []=some []:=rfl
theorem Ab(Z:Om)(ds:List D):uX Z (.d (.tup ds))=some ds.length:=by simp[uX,gA]
theorem Bz(ds:List D):nj (.tup ds)=some ds:=rfl
theorem BQ(ds:List D):nj (.lst ds)=some ds:=rfl
theorem pM(g:AG)(tc:AT)(l:AL)(xs:List AV)(ρ:SA)(Z:Om)(K:List AV->SA->Om->Prop):bK g tc l [] xs ρ Z K=K xs ρ Z:=rfl
theorem wp(g:AG)(tc:AT)(l:AL)(a:AV)(as xs:List AV)(ρ:SA)(Z:Om)(K:List AV->SA->Om->Prop):bK g tc l (a::as) xs ρ Z K=(g a ρ Z fun ρ1 Z1=>tc ρ1 Z1 fun b Z2=>if b=true then l xs ρ1 Z2 (fun xs' ρ' Z'=>bK g tc l as xs' ρ' Z' K) else bK g tc l as xs ρ1 Z2 K):=rfl
theorem BB{g:AG}{tb:AS}{D:bj}{as:List AV}{ρ:SA}{Z:Om}(I:Nat->SA->Om->Prop)(h0:I 0 ρ Z)(hs:∀(i:Nat)(a:AV)(ρ:SA)(Z:Om)(N:SA->Om->Prop),as[i]?=some a->I i ρ Z->(∀ρ' Z',I (i+1) ρ' Z'->N ρ' Z')->g a ρ Z fun ρ1 Z1=>tb { nx:=N,ct:=N,bk:=D.nx,rt:=D.rt } ρ1 Z1)(hd:∀ρ Z,I as.length ρ Z->D.nx ρ Z):iR g tb D as ρ Z:=by
 have key:∀(n i:Nat)(ρ:SA)(Z:Om),i+n=as.length->I i ρ Z->iR g tb D (as.drop i) ρ Z:=by
  intro n
  induction n with
  |zero=>intro i ρ Z hi h;rw[zcw (by omega)];exact hd ρ Z (by rw[←hi];exact h)
  |succ n ih=>
   intro i ρ Z hi h;obtain⟨a,ha,hdr⟩:=dE (as:=as) (i:=i) (by omega)
   rw[hdr];exact hs i a ρ Z _ ha h fun ρ' Z' h'=>ih (i+1) ρ' Z' (by omega) h'
 simpa using key as.length 0 ρ Z (by omega) h0
theorem rN{g:AG}{tb:AS}{D:bj}{ds:List L2.D}{ρ:SA}{Z:Om}(I:Nat->SA->Om->Prop)(h0:I 0 ρ Z)(hs:∀(i:Nat)(d:L2.D)(ρ:SA)(Z:Om)(N:SA->Om->Prop),ds[i]?=some d->I i ρ Z->(∀ρ' Z',I (i+1) ρ' Z'->N ρ' Z')->g (.d d) ρ Z fun ρ1 Z1=>tb { nx:=N,ct:=N,bk:=D.nx,rt:=D.rt } ρ1 Z1)(hd:∀ρ Z,I ds.length ρ Z->D.nx ρ Z):iR g tb D (ds.map AV.d) ρ Z:=
 BB I h0 (fun i a ρ Z N ha h k=>by
  rw[zam,zas] at ha;obtain⟨d,h1,rfl⟩:=ha
  exact hs i d ρ Z N h1 h k) (fun ρ Z h=>hd ρ Z (by simpa using h))
theorem io{g:AG}{tb:AS}{D:bj}{lo:Int}{n:Nat}{ρ:SA}{Z:Om}(I:Nat->SA->Om->Prop)(h0:I 0 ρ Z)(hs:∀(i:Nat)(ρ:SA)(Z:Om)(N:SA->Om->Prop),i<n->I i ρ Z->(∀ρ' Z',I (i+1) ρ' Z'->N ρ' Z')->g (.d (.int (lo+(i:Nat)))) ρ Z fun ρ1 Z1=>tb { nx:=N,ct:=N,bk:=D.nx,rt:=D.rt } ρ1 Z1)(hd:∀ρ Z,I n ρ Z->D.nx ρ Z):iR g tb D (dD lo n) ρ Z:=
 BB I h0 (fun i a ρ Z N ha h k=>by
  unfold dD at ha;rw[zam,zas] at ha;obtain⟨j,h1,rfl⟩:=ha;obtain⟨hj,rfl⟩:=zav.mp h1;simp only[List.getElem_range,zcG] at hj ⊢
  exact hs i ρ Z N hj h k) (fun ρ Z h=>hd ρ Z (by simpa[dD] using h))
theorem l9{g:AG}{tc:AT}{l:AL}{as xs:List AV}{ρ:SA}{Z:Om}{K:List AV->SA->Om->Prop}(I:Nat->List AV->SA->Om->Prop)(h0:I 0 xs ρ Z)(hs:∀(i:Nat)(a:AV)(xs:List AV)(ρ:SA)(Z:Om)(N:List AV->SA->Om->Prop),as[i]?=some a->I i xs ρ Z->(∀xs' ρ' Z',I (i+1) xs' ρ' Z'->N xs' ρ' Z')->g a ρ Z fun ρ1 Z1=>tc ρ1 Z1 fun b Z2=>if b=true then l xs ρ1 Z2 N else N xs ρ1 Z2)(hd:∀xs ρ Z,I as.length xs ρ Z->K xs ρ Z):bK g tc l as xs ρ Z K:=by
 have key:∀(n i:Nat)(xs:List AV)(ρ:SA)(Z:Om),i+n=as.length->I i xs ρ Z->bK g tc l (as.drop i) xs ρ Z K:=by
  intro n
  induction n with
  |zero=>intro i xs ρ Z hi h;rw[zcw (by omega)];exact hd xs ρ Z (by rw[←hi];exact h)
  |succ n ih=>
   intro i xs ρ Z hi h;obtain⟨a,ha,hdr⟩:=dE (as:=as) (i:=i) (by omega)
   rw[hdr];exact hs i a xs ρ Z (fun xs' ρ' Z'=>bK g tc l (as.drop (i+1)) xs' ρ' Z' K) ha h fun xs' ρ' Z' h'=>ih (i+1) xs' ρ' Z' (by omega) h'
 simpa using key as.length 0 xs ρ Z (by omega) h0
theorem CO{g:AG}{tc:AT}{l:AL}{ds:List D}{xs:List AV}{ρ:SA}{Z:Om}{K:List AV->SA->Om->Prop}(I:Nat->List AV->SA->Om->Prop)(h0:I 0 xs ρ Z)(hs:∀(i:Nat)(d:D)(xs:List AV)(ρ:SA)(Z:Om)(N:List AV->SA->Om->Prop),ds[i]?=some d->I i xs ρ Z->(∀xs' ρ' Z',I (i+1) xs' ρ' Z'->N xs' ρ' Z')->g (.d d) ρ Z fun ρ1 Z1=>tc ρ1 Z1 fun b Z2=>if b=true then l xs ρ1 Z2 N else N xs ρ1 Z2)(hd:∀xs ρ Z,I ds.length xs ρ Z->K xs ρ Z):bK g tc l (ds.map AV.d) xs ρ Z K:=
 l9 I h0 (fun i a xs ρ Z N ha h k=>by
  rw[zam,zas] at ha;obtain⟨d,h1,rfl⟩:=ha
  exact hs i d xs ρ Z N h1 h k) (fun xs ρ Z h=>hd xs ρ Z (by simpa using h))
structure Pn where
 f:Int
 x:Int
 i:Int
 h:0<=f
section
variable{α:Type}(a b c e:α)(l:List α)
theorem jm{xs:List α}{x:α}(j:Nat){i:Int}(hi:i=(j:Int))(h:xs[j]?=some x):atI xs i=some x:=by
 subst hi;have hj:=(zav.mp h).1;unfold atI ixN;rw[zaf (by omega),zaf (by omega)]
 simpa using h
theorem EQ:atI (a::l) 0=some a:=jm 0 rfl rfl
theorem E3:atI (a::b::l) 1=some b:=jm 1 rfl rfl
theorem EO:atI (a::b::c::l) 2=some c:=jm 2 rfl rfl
end
theorem sz1:(1<=sizeLine)=True:=eq_true (by decide)
theorem sz2:(2<=sizeLine)=True:=eq_true (by decide)
theorem sz3:(3<=sizeLine)=True:=eq_true (by decide)
theorem cL(a b:Int):eqD (.int a) (.int b)=(a == b):=by simp[eqD]
theorem mh(a b:Str):eqD (.str a) (.str b)=(a == b):=by simp[eqD]
theorem xz(a:Int):dep (.int a)=0:=by simp[dep]
theorem ml(a:Str):dep (.str a)=0:=by simp[dep]
theorem xA(a:Bool):zO (.bl a)=some (if a then 1 else 0):=rfl
theorem Ch{n m:Nat}(h:n<=1000):n<=sizeLine:=zaN h (by decide)
noncomputable def Om.only(Z' Z:Om):Om:=fun b=>if (Z b).isSome=true then Z' b else none
noncomputable def Ex(Z Z':Om):Prop:=∀b,(Z b).isSome=true->Z' b=Z b
theorem Ex.refl(Z:Om):Ex Z Z:=fun _ _=>rfl
theorem Ex.none{Z Z':Om}(h:Ex Z Z'){l:Addr}(e:Z' l=none):Z l=none:=by
 cases z:Z l with
 |none=>rfl
 |some c=>have:=h l (by rw[z];rfl);rw[e,z] at this;cases this
theorem Ex.new{Z Z':Om}(h:Ex Z Z'){l:Addr}{c:OC}(e:Z' l=Option.none):Ex Z (Z'.put l c):=fun b hb=>by
 have:b≠l:=fun z=>by subst z;rw[h.none e] at hb;cases hb
 rw[Om.Kw this];exact h b hb
theorem Ex.over{Z Z':Om}(h:Ex Z Z'){l:Addr}{c:OC}(e:Z l=Option.none):Ex Z (Z'.put l c):=fun b hb=>by
 have:b≠l:=fun z=>by subst z;rw[e] at hb;cases hb
 rw[Om.Kw this];exact h b hb
theorem aW(Z:Om):Z.only Z=Z:=by
 funext b;unfold Om.only
 cases e:Z b<;>simp
theorem jC{Z Z':Om}(h:Ex Z Z'):Z'.only Z=Z:=by
 funext b;unfold Om.only
 cases e:Z b with
 |none=>simp
 |some c=>simp only[Option.isSome_some,zaX];rw[h b (by rw[e];rfl),e]
theorem Rep.only{F:Fs}{H:Hp}{Z Z':Om}(rp:Rep F H Z'):Rep F H (Z'.only Z)/\bH (cut F H Z') (cut F H (Z'.only Z)):=by
 have ho:∀b,ow (Z' b)=false->ow ((Z'.only Z) b)=false:=fun b h=>by
  unfold Om.only;split
  ·exact h
  ·rfl
 have sm:bH (cut F H Z') (cut F H (Z'.only Z)):=fun b o e=>by
  obtain⟨h,f,e⟩:=bi.mp e;exact bi.mpr ⟨ho b h,f,e⟩
 have un:∀b c,(Z'.only Z) b=some c->Z' b=some c:=fun b c e=>by
  unfold Om.only at e;split at e
  ·exact e
  ·cases e
 refine⟨⟨fun l xs e=>?_,fun l ds e=>(rp.frz l ds (un _ _ e)).same sm,fun b f=>?_,fun l ks e=>(by obtain⟨vs,e1,e2⟩:=rp.dic l ks (un _ _ e);exact⟨vs,e1,e2.same sm⟩),fun l ks e=>(by obtain⟨vs,e1,e2⟩:=rp.sto l ks (un _ _ e);exact⟨vs,e1,e2.same sm⟩)⟩,sm⟩
 ·obtain⟨vs,e1,e2⟩:=rp.own l xs (un _ _ e)
  exact⟨vs,e1,e2.same sm⟩
 ·obtain⟨h1,h2⟩:=rp.hid b f
  refine⟨?_,h2⟩;unfold Om.only;rw[h1];simp
theorem Fr.only{F:Fs}{H H':Hp}{Z Z':Om}(fr:Fr F H Z H' Z'):Fr F H Z H' (Z'.only Z):=⟨fun b o h f e=>by
 obtain⟨x,y⟩:=fr.st b o h f e;refine⟨x,?_⟩;unfold Om.only;split
 ·exact y
 ·rfl,fr.hd⟩
theorem Fun.okD{P:Program}{w:World}{K:W.Frag}{mg:Str->Option Value}{base:Heap}{x qual:Str}{st:Stmt}{f:Addr}{fd:FuncData}{N ps:List Str}{k:Nat}{sp:ASp}(F:Fun K x qual st f fd)(S:aK N ps (defScope st))(len:∀xs Z Q,sp xs Z Q->xs.length=ps.length)
  (hbody:∀(cdv:Value)(A:Around)(outer:List Env)(s:Shared)(H:Hp)(E:XK),cw k (A.deeper (envOfC qual (defScope st) s.heap.objs.size f cdv)) ->
   ∃t t',PSs (oJ CX0 P w K mg base N qual (defScope st) f cdv A outer s H E).nox (defBody st) t/\eB t t'/\∀xs Z Q',sp xs Z Q'->t' { nx:=fun _ Z'=>Q' (.d .non) (Z'.only Z),rt:=fun a Z'=>∃d,a=.d d/\Q' (.d d) (Z'.only Z) } (gN N xs) Z):a7 P w K mg base CX0 (k+1) f fd ps (c9 sp):=by
 refine F.ok S (fun vs H Q E h=>?_) (fun cdv A outer s H vs Q E hr h=>?_)
 ·obtain⟨F,xs,Z,Q',rp,rv,h,_⟩:=h
  rw[rv.length,len xs Z Q' h]
 ·obtain⟨t,t',h1,h2,h3⟩:=hbody cdv A outer s H E hr
  obtain⟨F,xs,Z,Q',rp,rv,h,kq⟩:=h;refine⟨t,h1,h2.run F H Z _ _ _ _ rp (RS.start rv) (h3 xs Z Q' h) ⟨?_,?_,fun _ _ _ _ _ _ _ z=>z.elim,fun _ _ _ _ _ _ _ z=>z.elim⟩⟩
  ·exact fun ρ' Z' σ' H' e1 e2 e3 q=>kq (.d .non) (Z'.only Z) .non H' e1.only.1 e2.only (by simp[RV,Dat]) q
  ·rintro a Z' v H' e1 e2 e3 ⟨d,rfl,q⟩
   exact kq (.d d) (Z'.only Z) v H' e1.only.1 e2.only (e3.same e1.only.2) q
noncomputable def wl:Nat->List (List Int)
 |0=>[[]]
 |n+1=>(wl n).flatMap fun w=>[w++[0],w++[1]]
theorem jZ:∀n,(wl n).length=2^n
 |0=>rfl
 |n+1=>by
  have h:∀ws:List (List Int),(ws.flatMap fun w=>[w++[0],w++[1]]).length=2*ws.length:=fun ws=>by
   induction ws with
   |nil=>rfl
   |cons a r ih=>rw[zdL,zaw,ih];simp;omega
  rw[wl,h,jZ n,Nat.pow_succ];omega
theorem jY:∀ {n:Nat} {w:List Int},w∈wl n->w.length=n/\∀x∈w,x=0\/x=1
 |0,w,h=>by simp[wl] at h;rw[h];simp
 |n+1,w,h=>by
  simp only[wl,zdm] at h;obtain⟨v,hv,h⟩:=h;obtain⟨h1,h2⟩:=jY hv;simp only[zay,List.not_mem_nil,or_false] at h;rcases h with rfl|rfl<;>refine⟨by simp[h1],fun x hx=>?_⟩<;>rcases zaL.mp hx with hx|hx
  ·exact h2 x hx
  ·rw[zaT.mp hx];exact .inl rfl
  ·exact h2 x hx
  ·rw[zaT.mp hx];exact .inr rfl
theorem FI{n:Nat}(h:n<=5):(wl n).length<=32:=by
 rw[jZ];exact zaW (by decide) h
noncomputable def Wds(n:Nat)(ws:List (List Int)):Prop:=ws.Nodup/\∀w∈ws,w∈wl n
theorem eh{α β:Type}{f:α->β}{xs:List α}{i:Nat}{y:β}(h:(xs.map f)[i]?=some y):∃x,xs[i]?=some x/\y=f x:=by
 rw[zam] at h
 cases e:xs[i]? with
 |none=>rw[e] at h;cases h
 |some x=>rw[e] at h;cases h;exact⟨x,rfl,rfl⟩
theorem DX{α:Type}{f:α->AV}{xs:List α}{i:Int}(h0:0<=i)(h1:i<xs.length):∃x,x∈xs/\xs[i.toNat]?=some x/\atI (xs.map f) i=some (f x):=by
 obtain⟨j,rfl⟩:=zdI h0;have hj:j<xs.length:=by omega
 exact⟨xs[j],zaE hj,by simp[zae hj],jm j rfl (by rw[zam,zae hj];rfl)⟩
theorem xU(x:List Int)(b:Int)(Z:Om)(Q:AV->Om->Prop):DZ (.d (wdD x)) (.d (.tup [.int b])) Z Q=(x.length+1<=sizeLine/\Q (.d (wdD (x++[b]))) Z):=by
 unfold wdD;rw[zX];simp
theorem qw(x:List Int):gA (.d (wdD x))=some ((x.map D.int).map AV.d):=rfl
theorem yf(Z:Om)(x:List Int):dO Z (.d (wdD x))=none:=rfl
theorem xP(Z:Om)(x:List Int):uX Z (.d (wdD x))=some x.length:=by simp[uX,qw]
theorem wO(x:List Int):nj (wdD x)=some (x.map D.int):=rfl
inductive Sy where
 |is (i b:Int)
 |jn (an:Bool) (l r:Sy)
namespace Sy
noncomputable def d:Sy->D
 |.is i b=>.tup [.str "is",.int i,.int b]
 |.jn an l r=>.tup [.str (if an then "and" else "or"),l.d,r.d]
noncomputable def ok(n:Nat):Sy->Prop
 |.is i b=>0<=i/\i<n/\(b=0\/b=1)
 |.jn _ l r=>l.ok n/\r.ok n
noncomputable def dp:Sy->Nat
 |.is _ _=>0
 |.jn _ l r=>1+max l.dp r.dp
noncomputable def lvs:Sy->Nat
 |.is _ _=>1
 |.jn _ l r=>l.lvs+r.lvs
noncomputable def up:Sy->Prop
 |.is _ b=>b=1
 |.jn _ l r=>l.up/\r.up
noncomputable def val(w:List Int):Sy->Bool
 |.is i b=>decide (w.getD i.toNat 0=b)
 |.jn an l r=>if an then val w l && val w r else val w l || val w r
end Sy
inductive Ta where
 |en (i:Int)
 |nd (y:Bool) (ws:List (List Int)) (l r:Ta)
namespace Ta
noncomputable def d:Ta->D
 |.en i=>.tup [.str "end",.int i]
 |.nd y ws l r=>.tup [.str (if y then "yes" else "no"),.tup (ws.map wdD),l.d,r.d]
noncomputable def ok(n:Nat):Ta->Prop
 |.en i=>0<=i/\i<n
 |.nd _ ws l r=>Wds n ws/\l.ok n/\r.ok n
noncomputable def dp:Ta->Nat
 |.en _=>0
 |.nd _ _ l r=>1+max l.dp r.dp
noncomputable def lvs:Ta->Nat
 |.en _=>1
 |.nd _ _ l r=>l.lvs+r.lvs
noncomputable def size:Ta->Nat
 |.en _=>1
 |.nd _ _ l r=>l.size+r.size+1
noncomputable def bit(y n:List Int)(hy:Bool)(ws:List (List Int)):Bool:=decide ((if hy then y else n)∈ws)
noncomputable def fin(y n:List Int):Ta->Int
 |.en i=>i
 |.nd h ws a b=>if bit y n h ws then fin y n b else fin y n a
end Ta
theorem xH:(("or":Str)=("and":Str))=False:=eq_false (by decide +kernel)
theorem Em(F:Nat->SA->Om->Prop):∃Pv:Nat->SA->Om->Prop,∀i ρ Z,Pv i ρ Z↔F i ρ Z:=⟨F,fun _ _ _=>Iff.rfl⟩
noncomputable def om2(Z:Om)(p l:Addr)(c A:OC):Om:=(Z.put p c).put l A
section
variable{Z:Om}{p l l1 l2:Addr}{c c' A A' B B':OC}
theorem wB(h:p≠l):om2 Z p l c A p=some c:=by unfold om2;rw[Om.Kw h,Om.Kv]
theorem EM:om2 Z p l c A l=some A:=by unfold om2;rw[Om.Kv]
theorem vJ(h:p≠l):(om2 Z p l c A).put p c'=om2 Z p l c' A:=by unfold om2;rw[Om.KZ h,Om.Kz]
theorem G4:(om2 Z p l c A).put l A'=om2 Z p l c A':=by unfold om2;rw[Om.Kz]
theorem B4{q:Addr}{o:OC}(h:Z.put p o q=none):q≠p/\Z q=none:=by
 have:q≠p:=fun z=>by subst z;rw[Om.Kv] at h;cases h
 exact⟨this,by rwa [Om.Kw this] at h⟩
end
structure Ne4(p l1 l2 l3:Addr):Prop where
 p1:p≠l1
 p2:p≠l2
 p3:p≠l3
 a:l1≠l2
 b:l1≠l3
 c:l2≠l3
section
variable{Z:Om}{p l1 l2 l3:Addr}{c c' A A' B B' C C':OC}(h:Ne4 p l1 l2 l3)
include h
end
section
variable{P:Program}{w:World}{K:W.Frag}{mg:Str->Option Value}{base:Heap}
structure Cs(n:Nat)(ys zs:List (List Int)):Prop where
 y:Wds n ys
 z:Wds n zs
 y1:ys≠[]
 z1:zs≠[]
theorem jx{t u:AS}{D:bj}{ρ:SA}{Z:Om}(I:SA->Om->Prop)(h1:∀N:SA->Om->Prop,(∀ρ' Z',I ρ' Z'->N ρ' Z')->t { D with nx:=N } ρ Z)(h2:∀ρ' Z',I ρ' Z'->u D ρ' Z'):DW t u D ρ Z:=h1 (u D) h2
theorem uF{Z:Om}{l:Addr}{ds:List D}(h:Z l=some (.own (ds.map AV.d))):bo Z (.r (.ref l))=some (.lst ds):=by
 rw[wy,h];simp only[be,zcc]
noncomputable def Hg:ASp:=fun _ _ _=>False
theorem E7{f:Addr}{fd:FuncData}{ps:List Str}{k:Nat}:a7 P w K mg base CX0 k f fd ps (c9 Hg):=
 ⟨fun _ _ _ _ h=>by obtain⟨_,_,_,_,_,_,h,_⟩:=h;exact h.elim,fun _ _ _ _ _ _ _ _ _ _ _ _ _ h=>by obtain⟨_,_,_,_,_,_,h,_⟩:=h;exact h.elim⟩
noncomputable def b01(b:Bool):Int:=if b then 1 else 0
theorem yT{α:Type}{xs:List α}{b:α}:atI (xs++[b]) (-1)=some b:=by
 unfold atI ixN;rw[zad (by decide),zaf (by simp;omega)]
 show (xs++[b])[((-1:Int)+((xs++[b]).length:Nat)).toNat]?=some b;have:((-1:Int)+((xs++[b]).length:Nat)).toNat=xs.length:=by simp;omega
 rw[this];simp
theorem tO(to:AE)(ρ:SA)(Z:Om)(Q:AV->Om->Prop):C7 to ρ Z Q=(to ρ Z fun x Z1=>∃l xs y,x=.r (.ref l)/\Z1 l=some (.own xs)/\xs.getLast?=some y/\Q y (Z1.put l (.own xs.dropLast))):=by
 unfold C7;simp only[List.getLast?_eq_getElem?]
theorem ja{α:Type}(A:List α)(x:α):(A++[x]).isEmpty=false:=by cases A<;>rfl
theorem kY{α:Type}(A:List α)(x:α):(A++[x]).getLast?=some x:=by simp
theorem gw{α:Type}(A:List α)(x:α):(A++[x]).dropLast=A:=by simp
end
noncomputable def sL(caps:List V)(cA:List AV)(sp:ASp):Sp:=fun vs H Q _=>∃(F:Fs)(xs:List AV)(Z:Om)(Q':AV->Om->Prop),Rep F H Z/\RVs (cut F H Z) xs vs/\RVs (cut F H Z) cA caps/\sp xs Z Q'/\LP RV F H Z Q' Q
noncomputable def wt(f:Addr)(caps:List V)(cA:List AV):AV:=.p (.ref f) (fun G=>RVs G cA caps)
noncomputable def uN(i:Nat)(f:Addr)(caps:List V)(cA:List AV)(sp:ASp)(t:AA):AE:=fun ρ Z Q=>ρ[i]?=some (some (wt f caps cA))/\t ρ Z fun xs Z1=>sp xs Z1 Q
theorem xN{X:Cx}{k n i:Nat}{t:TA}{t':AA}{f:Addr}{caps:List V}{cA:List AV}{sp:ASp}(C:Clo X.prog X.w X.K X.mg X.base X.H₀ k f n (sL caps cA sp))(ht:jL t t'):aD (Bj X k n i t) (uN i f caps cA sp t'):=⟨fun F H Z σ ρ Q Q' rp rs w kq=>by
 obtain⟨e,w⟩:=w;obtain⟨v,e1,e2⟩:=rs.2 i _ e;obtain⟨rfl,e3⟩:=e2
 refine⟨f,_,e1,C,ht.go rp rs w fun xs Z1 vs H1 rp1 fr1 rs1 rv1 q=>⟨F,xs,Z1,Q',rp1,rv1,e3 _ fr1.same,q,kq.fr fr1⟩⟩⟩
theorem wJ{P:Program}{w:World}{K:W.Frag}{mg:Str->Option Value}{base:Heap}{H₀:Hp}{k:Nat}{f:Addr}{q:Str}{params:Arguments}{body:Expr}{scope:Scope}{cl:List (Str×Addr)}{ps cs:List Str}{caps:List V}{cA:List AV}{sp:ASp}(L:nY H₀ f q params body scope cl)(S:uk ps cs scope)(C:wK base cl cs caps)(hb:∀(pm:Value)(c:Addr)(ctv:Value)(us:List Value),us.length=ps.length->bindArgs (W.kla_fn "<lambda>" q params body scope cl pm (.ref c) ctv) ⟨us,[]⟩=pure (ps.zip us))(len:∀xs Z Q,sp xs Z Q->xs.length=ps.length)
  (hbody:∀(cd:Value)(A:Around)(outer:List Env)(s:Shared)(H:Hp),cw k (A.deeper (W.envX q scope s.heap.objs.size f cd cl)) ->
   ∃t t',PE (wY P w K mg base (ps++cs) q scope f cd cl A outer s H) body t/\aD t t'/\∀xs Z Q,sp xs Z Q->t' ((xs++cA).map some) Z Q):Clo P w K mg base H₀ (k+1) f ps.length (sL caps cA sp):=by
 refine FQ L S C hb (fun vs H Q E h=>?_) (fun cd A outer s H vs Q E hr h=>?_)
 ·obtain⟨F,xs,Z,Q',rp,rv,_,h,_⟩:=h
  rw[rv.length,len xs Z Q' h]
 ·obtain⟨t,t',h1,h2,h3⟩:=hbody cd A outer s H hr
  obtain⟨F,xs,Z,Q',rp,rv,rc,h,kq⟩:=h;refine⟨t,h1,h2.run F H Z _ _ Q Q' rp ?_ (h3 xs Z Q' h) kq⟩;have:=rv.append rc;refine⟨by simp[this.length,rv.length,rc.length],fun i a e=>?_⟩
  rw[zam,zas] at e;obtain⟨b,hb,e⟩:=e;cases e;obtain⟨v,e1,e2⟩:=this.get hb;exact⟨v,by rw[zam,e1];rfl,e2⟩
theorem Kf(b:Heap):wK b [] [] []:=⟨rfl,fun _ _ h=>(nomatch h),fun _ _ _ h=>(nomatch h),fun _ _ _ h=>(nomatch h)⟩
theorem F7{b:Heap}{x:Str}{c:Addr}{v:V}{u:Value}(h:b.IsCell c (some u))(r:aB v u):wK b [(x,c)] [x] [v]:=by
 have lk:∀y d,([(x,c)]:List (Str×Addr)).lookup y=some d->y=x/\d=c:=fun y d e=>by
  rw[zck] at e
  cases q:y == x with
  |true=>rw[q] at e;cases e;exact⟨eq_of_beq q,rfl⟩
  |false=>rw[q] at e;cases e
 refine⟨rfl,fun y d e=>?_,fun y z d e1 e2=>(lk y d e1).1.trans (lk z d e2).1.symm,fun j y w h1 h2=>?_⟩
 ·rw[(lk y d e).1];exact zaT.mpr rfl
 ·cases j with
  |zero=>
   simp at h1 h2;subst h1 h2;exact⟨c,u,by simp[List.lookup],h,r⟩
  |succ j=>simp at h1
noncomputable def Ip(js:List Nat)(σ:St)(caps:List V):Prop:=caps.length=js.length/\∀(k j:Nat)(v:V),js[k]?=some j->caps[k]?=some v->σ[j]?=some (some v)
noncomputable def nU:List Nat->SA->Option (List AV)
 | [],_=>some []
 |j::js,ρ=>match ρ[j]?,nU js ρ with
  |some (some a),some r=>some (a::r)
  |_,_=>none
theorem vY{G:Hp}{ρ:SA}{σ:St}(rs:RS G ρ σ):∀ {js:List Nat} {cA:List AV},nU js ρ=some cA->∃caps,Ip js σ caps/\RVs G cA caps
 | [],cA,h=>by cases h;exact⟨[],⟨rfl,fun _ _ _ h=>by simp at h⟩,rfl⟩
 |j::js,cA,h=>by
  simp only[nU] at h
  cases e1:ρ[j]? with
  |none=>rw[e1] at h;simp at h
  |some o=>
   cases o with
   |none=>rw[e1] at h;simp at h
   |some a=>
    cases e2:nU js ρ with
    |none=>rw[e1,e2] at h;simp at h
    |some r=>
     rw[e1,e2] at h;simp at h;subst h;obtain⟨caps,⟨c1,c2⟩,c3⟩:=vY rs e2;obtain⟨v,v1,v2⟩:=rs.2 j a e1;refine⟨v::caps,⟨by simp[c1],fun k i u h1 h2=>?_⟩,v,caps,rfl,v2,c3⟩
     cases k with
     |zero=>simp at h1 h2;subst h1 h2;exact v1
     |succ k=>simp at h1 h2;exact c2 k i u h1 h2
noncomputable def rd(kc:Nat)(P:Program)(w:World)(K:W.Frag)(mg:Str->Option Value)(base:Heap):Sp:=fun vs H Q _=>∃(F:Fs)(Z:Om)(Q':AV->Om->Prop)(v:V)(lw:Str)(u:Tr)(f1 f2:Addr)(c1 c2:List V)(a1 a2:List AV)(s1 s2:ASp)(g:Tr->D),
 vs=[v,.str lw,.ref f1,.ref f2]/\Rep F H Z/\Dat (cut F H Z) u.d v/\u.ok lw/\u.size<=100000/\Clo P w K mg base H kc f1 1 (sL c1 a1 s1)/\Clo P w K mg base H kc f2 3 (sL c2 a2 s2)/\RVs (cut F H Z) a1 c1/\RVs (cut F H Z) a2 c2 /\
 (∀x,Tr.lf x∈u.post->∀Z1 Q1,Q1 (.d (g (.lf x))) Z1->s1 [.d (Tr.lf x).d] Z1 Q1)/\(∀x l r,Tr.nd x l r∈u.post->∀Z1 Q1,Q1 (.d (g (.nd x l r))) Z1->s2 [.d (Tr.nd x l r).d,.d (g l),.d (g r)] Z1 Q1)/\Q' (.d (g u)) Z/\LP RV F H Z Q' Q
noncomputable def EJ(j1 j2:List Nat)(s1 s2:List AV->ASp)(ta tb:AE):AE:=fun ρ Z Q=>ta ρ Z fun x Z0=>tb ρ Z0 fun y Z1=>∃(lw:Str)(u:Tr)(g:Tr->D)(a1 a2:List AV),y=.d (.str lw)/\x=.d u.d/\u.ok lw/\u.size<=100000/\nU j1 ρ=some a1/\nU j2 ρ=some a2 /\
 (∀x,Tr.lf x∈u.post->∀Z1 Q1,Q1 (.d (g (.lf x))) Z1->s1 a1 [.d (Tr.lf x).d] Z1 Q1)/\(∀x l r,Tr.nd x l r∈u.post->∀Z1 Q1,Q1 (.d (g (.nd x l r))) Z1->s2 a2 [.d (Tr.nd x l r).d,.d (g l),.d (g r)] Z1 Q1)/\Q (.d (g u)) Z1
theorem tM(j1 j2:List Nat)(s1 s2:List AV->ASp)(ta tb:AE)(ρ:SA)(Z:Om)(Q:AV->Om->Prop):EJ j1 j2 s1 s2 ta tb ρ Z Q=(ta ρ Z fun x Z0=>tb ρ Z0 fun y Z1=>∃(lw:Str)(u:Tr)(g:Tr->D)(a1 a2:List AV),y=.d (.str lw)/\x=.d u.d/\u.ok lw/\u.size<=100000/\nU j1 ρ=some a1/\nU j2 ρ=some a2 /\
 (∀x,Tr.lf x∈u.post->∀Z1 Q1,Q1 (.d (g (.lf x))) Z1->s1 a1 [.d (Tr.lf x).d] Z1 Q1)/\(∀x l r,Tr.nd x l r∈u.post->∀Z1 Q1,Q1 (.d (g (.nd x l r))) Z1->s2 a2 [.d (Tr.nd x l r).d,.d (g l),.d (g r)] Z1 Q1)/\Q (.d (g u)) Z1):=rfl
noncomputable def HK(X:Cx)(kc n:Nat)(js:List Nat)(q:Str)(a:Arguments)(b:Expr)(sc:Scope)(cl:List (Str×Addr))(s:List AV->ASp):Prop:=
 ∀(b':Heap)(H:Hp)(f:Addr)(σ:St)(caps:List V)(cA:List AV),nY H f q a b sc cl->zI X σ b'->Ip js σ caps->cA.length=js.length->Clo X.prog X.w X.K X.mg b' H kc f n (sL caps cA (s cA))
theorem mV{ρ:SA}:∀ {js:List Nat} {cA:List AV},nU js ρ=some cA->cA.length=js.length
 | [],cA,h=>by cases h;rfl
 |j::js,cA,h=>by
  simp only[nU] at h
  cases e1:ρ[j]? with
  |none=>rw[e1] at h;simp at h
  |some o=>
   cases o with
   |none=>rw[e1] at h;simp at h
   |some a=>
    cases e2:nU js ρ with
    |none=>rw[e1,e2] at h;simp at h
    |some r=>
     rw[e1,e2] at h;simp at h;subst h;simp[mV e2]
theorem Hl{X:Cx}{kc:Nat}{ta tb:TE}{ta' tb':AE}{q1 q2:Str}{j1 j2:List Nat}{p1 p2:Arguments}{b1 b2:Expr}{sc1 sc2:Scope}{l1 l2:List (Str×Addr)}{s1 s2:List AV->ASp}(h1:HK X kc 1 j1 q1 p1 b1 sc1 l1 s1)(h2:HK X kc 3 j2 q2 p2 b2 sc2 l2 s2)(ha:aD ta ta')(hb:aD tb tb'):
  aD (zZ X (fun b'=>rd kc X.prog X.w X.K X.mg b') (jI ta (jI tb (jI (GC q1 p1 b1 sc1 l1) (jI (GC q2 p2 b2 sc2 l2) Hw))))) (EJ j1 j2 s1 s2 ta' tb'):=⟨fun F H Z σ ρ Q Q' rp rs w kq=>by
 refine ha.go rp rs w fun x Z0 v H0 rp0 fr0 rs0 rv0 q=>hb.go rp0 rs0 q fun y Z1 yv H1 rp1 fr1 rs1 rv1 q=>?_;obtain⟨lw,u,g,a1,a2,rfl,rfl,hok,hsz,e1,e2,k1,k2,q⟩:=q;cases qd rv1;intro f1 H2 m1 _ M1 f2 H3 m2 _ M2 b' sub cb;obtain⟨rp3,fr3⟩:=rp1.later (m1.trans m2);obtain⟨c1,v1,r1⟩:=vY (rs1.same fr3.same) e1;obtain⟨c2,v2,r2⟩:=vY (rs1.same fr3.same) e2
 exact⟨F,Z1,Q',v,lw,u,f1,f2,c1,c2,a1,a2,s1 a1,s2 a2,g,rfl,rp3,Dat.same (fr1.trans fr3).same rv0,hok,hsz,h1 b' H3 f1 σ c1 a1 (M1.frz m2.frz) cb v1 (mV e1),h2 b' H3 f2 σ c2 a2 M2 cb v2 (mV e2),r1,r2,k1,k2,q,kq.fr ((fr0.trans fr1).trans fr3)⟩⟩
theorem zg.okD{P:Program}{w:World}{K:W.Frag}{mg:Str->Option Value}{base:Heap}{x qual:Str}{st:Stmt}{f c p:Addr}{fd:FuncData}{N ps:List Str}{k:Nat}{sp:ASp}(F:zg K x qual st f fd c p)(S:aK N ps (defScope st))(len:∀xs Z Q,sp xs Z Q->xs.length=ps.length)
  (hbody:∀(A:Around)(outer:List Env)(s:Shared)(H:Hp)(E:XK),cw k (A.deeper (envOfC qual (defScope st) s.heap.objs.size f (.ref c))) ->
   ∃t t',PSs (oJ CX0 P w K mg base N qual (defScope st) f (.ref c) A outer s H E).nox (defBody st) t/\eB t t'/\∀xs Z Q',sp xs Z Q'->t' { nx:=fun _ Z'=>Q' (.d .non) (Z'.only Z),rt:=fun a Z'=>∃d,a=.d d/\Q' (.d d) (Z'.only Z) } (gN N xs) Z):a7 P w K mg base CX0 (k+1) f fd ps (c9 sp):=by
 refine F.ok S (fun vs H Q E h=>?_) (fun A outer s H vs Q E hr h=>?_)
 ·obtain⟨F,xs,Z,Q',rp,rv,h,_⟩:=h
  rw[rv.length,len xs Z Q' h]
 ·obtain⟨t,t',h1,h2,h3⟩:=hbody A outer s H E hr
  obtain⟨F,xs,Z,Q',rp,rv,h,kq⟩:=h;refine⟨t,h1,h2.run F H Z _ _ _ _ rp (RS.start rv) (h3 xs Z Q' h) ⟨?_,?_,fun _ _ _ _ _ _ _ z=>z.elim,fun _ _ _ _ _ _ _ z=>z.elim⟩⟩
  ·exact fun ρ' Z' σ' H' e1 e2 e3 q=>kq (.d .non) (Z'.only Z) .non H' e1.only.1 e2.only (by simp[RV,Dat]) q
  ·rintro a Z' v H' e1 e2 e3 ⟨d,rfl,q⟩
   exact kq (.d d) (Z'.only Z) v H' e1.only.1 e2.only (e3.same e1.only.2) q
structure Kr(t2 t:TS)(t':AS):Prop where
 run:∀(F:Fs)(H:Hp)(Z:Om)(σ:St)(ρ:SA)(D:iL)(D':bj),Rep F H Z->RS (cut F H Z) ρ σ->t' D' ρ Z->LE F H Z D' { D with nx:=t2 D }->t D σ H
theorem sE{g:AG}{te:AE}{as:List AV}{rs:List D}{ρ:SA}{Z:Om}{K:List AV->SA->Om->Prop}(R:SA->Prop)(h0:R ρ)(hl:rs.length=as.length)(hz:as.length<=sizeLine)(he:∀(i:Nat)(a:AV)(r:D)(ρ:SA)(N:SA->Om->Prop),as[i]?=some a->rs[i]?=some r->R ρ->(∀ρ1,R ρ1->(∀Q:AV->Om->Prop,Q (.d r) Z->te ρ1 Z Q)->N ρ1 Z)->g a ρ Z N)(hk:∀ρ,R ρ->K (rs.map AV.d) ρ Z):bK g eg (jQ te) as [] ρ Z K:=by
 refine l9 (fun i xs ρ Z'=>Z'=Z/\R ρ/\xs=(rs.take i).map AV.d) ⟨rfl,h0,rfl⟩ ?_ ?_
 ·rintro i a xs ρ Z' N ha ⟨rfl,hR,rfl⟩ kN
  have hi:=(zav.mp ha).1;have hr:rs[i]?=some rs[i]:=zae (by omega)
  refine he i a _ ρ _ ha hr hR fun ρ1 hR1 h=>?_;rw[iW,zaf rfl,nF];refine h _ ⟨by rw[zaA,zbh];omega,kN _ _ _ ⟨rfl,hR1,?_⟩⟩
  rw[show rs.take (i+1)=rs.take i++[rs[i]] from by rw[zbU,hr];rfl,zaQ]
  rfl
 ·rintro xs ρ Z' ⟨rfl,hR,rfl⟩
  rw[←hl,zbC]
  exact hk ρ hR
theorem eA{te:AE}{as:List AV}{rs:List D}{v0:Option AV}{aJ:SA}{Z:Om}{K:List AV->SA->Om->Prop}(hl:rs.length=as.length)(hz:as.length<=sizeLine)(he:∀(i:Nat)(a:AV)(r:D),as[i]?=some a->rs[i]?=some r->∀Q:AV->Om->Prop,Q (.d r) Z->te (some a::aJ) Z Q)(hk:∀ρ,K (rs.map AV.d) ρ Z):bK (eV 0) eg (jQ te) as [] (v0::aJ) Z K:=
 sE (fun ρ=>∃v,ρ=v::aJ) ⟨_,rfl⟩ hl hz (fun i a r ρ N ha hr ⟨v,e⟩ k=>by
  subst e;rw[iB,List.set_cons_zero]
  exact k _ ⟨_,rfl⟩ (he i a r ha hr)) (fun ρ _=>hk ρ)
theorem Ak{te:AE}{ds es:List D}{rs:List D}{v0 v1:Option AV}{aJ:SA}{Z:Om}{K:List AV->SA->Om->Prop}(hl1:ds.length=rs.length)(hl2:es.length=rs.length)(hz:rs.length<=sizeLine)(he:∀(i:Nat)(d e r:D),ds[i]?=some d->es[i]?=some e->rs[i]?=some r->∀Q:AV->Om->Prop,Q (.d r) Z->te (some (.d d)::some (.d e)::aJ) Z Q)(hk:∀ρ,K (rs.map AV.d) ρ Z):bK (w6 2 (kn (eV 0) (kn (eV 1) yx))) eg (jQ te) (mZ ds es) [] (v0::v1::aJ) Z K:=by
 have el:(mZ ds es).length=rs.length:=by simp[mZ,hl1,hl2]
 refine sE (fun ρ=>∃v v',ρ=v::v'::aJ) ⟨_,_,rfl⟩ el.symm (by omega) (fun i a r ρ N ha hr ⟨v,v',e⟩ k=>?_) (fun ρ _=>hk ρ)
 subst e;obtain⟨d,e,h1,h2,rfl⟩:=sj ha;exact⟨_,rfl,rfl,_,_,rfl,_,_,rfl,rfl,k _ ⟨_,_,rfl⟩ (he i d e r h1 h2 hr)⟩
noncomputable def g9(K:W.Frag)(a:Addr)(ns:List Int):AV:=.p (.ref a) (fun H=>SqL K H a (ns.map V.int))
noncomputable def Jd(K:W.Frag):A2:=fun x y Z Q=>∃(a:Addr)(ns:List Int)(i v:Int),x=g9 K a ns/\y=.d (.int i)/\atI ns i=some v/\Q (.d (.int v)) Z
noncomputable def Fg(K:W.Frag):AC:=fun xs Z Q=>∃(a:Addr)(ns:List Int),xs=[g9 K a ns]/\Q (.d (.int ns.length)) Z
theorem xx(K:W.Frag)(x y:AV)(Z:Om)(Q:AV->Om->Prop):Jd K x y Z Q=(∃(a:Addr)(ns:List Int)(i v:Int),x=g9 K a ns/\y=.d (.int i)/\atI ns i=some v/\Q (.d (.int v)) Z):=rfl
theorem tL(K:W.Frag)(xs:List AV)(Z:Om)(Q:AV->Om->Prop):Fg K xs Z Q=(∃(a:Addr)(ns:List Int),xs=[g9 K a ns]/\Q (.d (.int ns.length)) Z):=rfl
theorem D5{α β:Type}{f:α->β}{xs:List α}{i:Int}{v:α}(h:atI xs i=some v):atI (xs.map f) i=some (f v):=by
 unfold atI at h ⊢;rw[zaA]
 cases e:ixN xs.length i with
 |none=>rw[e] at h;cases h
 |some j=>
  rw[e] at h;simp only[Option.bind_some] at h ⊢;rw[zam,h];rfl
theorem vt{F:Fs}{H:Hp}{Z:Om}{K:W.Frag}{a:Addr}{ns:List Int}{v:V}(r:RV (cut F H Z) (g9 K a ns) v):v=.ref a/\SqL K H a (ns.map V.int):=by
 obtain⟨rfl,r⟩:=r;exact⟨rfl,r _ ar⟩
theorem JG{K:W.Frag}:f6 (rIx K) (Jd K):=⟨fun F H Z v u x y Q Q' rp h1 h2 ⟨a,ns,i,z,e1,e2,e3,q⟩ k=>by
 subst e1 e2;obtain⟨rfl,hs⟩:=vt h1;cases bv h2
 exact .inl ⟨a,_,i,_,rfl,rfl,hs,D5 e3,k.int rp q⟩⟩
theorem Aw{K:W.Frag}:jo (fun xs H Q=>∃x n,xs=[x]/\D9 K x H n/\Q (.int n) H) (Fg K):=⟨fun F H Z vs xs Q Q' rp rv ⟨a,ns,e,q⟩ k=>by
 subst e;obtain⟨v,rfl,r⟩:=i8 rv;obtain⟨rfl,hs⟩:=vt r
 exact⟨_,ns.length,rfl,.inl ⟨_,hs,by simp⟩,k.int rp q⟩⟩
theorem vV{K:W.Frag}{H:Hp}{a:Addr}{ns:List Int}(h:SqL K H a (ns.map V.int)):RV (cut (fun _=>false) H (fun _=>none)) (g9 K a ns) (.ref a):=by
 refine⟨rfl,fun G' s=>?_⟩;have s2:bH H G':=fun b o e=>s b o (bi.mpr ⟨rfl,rfl,e⟩);rcases h with(h|⟨o,h⟩)|h
 ·exact .inl (.inl (s2 _ _ h))
 ·exact .inl (.inr ⟨o,s2 _ _ h⟩)
 ·exact .inr h
theorem Eg{H:Hp}:Rep (fun _=>false) H (fun _=>none):=⟨fun _ _ h=>by simp at h,fun _ _ h=>by simp at h,fun _ h=>by simp at h,fun _ _ h=>by simp at h,fun _ _ h=>by simp at h⟩
structure Pq where
 a:Addr
 ns:List Int
 i:Int
 f:Int
 h0:0<=i
 hf:0<=f
 hn:ns.length<=63
noncomputable def lM(kvs:List (Str×AV))(k:Str):Option AV:=(kvs.find? fun p=>decide (p.1=k)).map (·.2)
noncomputable def oS:List (Str×AV)->Str->AV->List (Str×AV)
 | [],k,a=>[(k,a)]
 |p::r,k,a=>if p.1=k then (k,a)::r else p::oS r k a
noncomputable def ndK(kvs:List (Str×AV)):Prop:=(kvs.map (·.1)).Nodup
section
variable{G:Hp}{F:Fs}{H:Hp}{Z:Om}
theorem RKs.length:∀ {kvs:List (Str×AV)} {ks:List (Key×V)},RKs G kvs ks->ks.length=kvs.length
 | [],_,h=>by cases h;rfl
 |_::_,_,⟨v,r,h1,_,h3⟩=>by subst h1;simp[h3.length]
theorem RKs.get{k:Str}{a:AV}:∀ {kvs:List (Str×AV)} {ks:List (Key×V)},RKs G kvs ks->lM kvs k=some a->∃v,lI ks (Sum.inr k:Key)=some v/\RV G a v
 | [],_,_,e=>by simp[lM] at e
 |p::r,_,⟨v,r',h1,h2,h3⟩,e=>by
  subst h1;by_cases hp:p.1=k
  ·rw[lM,zaR,zbq hp] at e
   cases e;exact⟨v,jJ (by rw[hp]),h2⟩
  ·rw[lM,zaR,zaK hp] at e
   obtain⟨u,e1,e2⟩:=h3.get (k:=k) (a:=a) e;exact⟨u,by rw[jH (fun z=>hp (zdM z))];exact e1,e2⟩
theorem RKs.any{k:Str}:∀ {kvs:List (Str×AV)} {ks:List (Key×V)},RKs G kvs ks->(ks.any fun kv=>decide (kv.1=(Sum.inr k:Key)))=kvs.any fun p=>decide (p.1=k)
 | [],_,h=>by cases h;rfl
 |p::r,_,⟨v,r',h1,h2,h3⟩=>by
  subst h1;rw[zbz,zbz,h3.any]
  congr 1
  by_cases hp:p.1=k
  ·rw[zbq hp,zbq (by rw[hp])]
  ·rw[zaK hp,zaK fun z=>hp (zdM z)]
theorem RKs.keep{k:Str}{v:V}:∀ {kvs:List (Str×AV)} {ks:List (Key×V)},RKs G kvs ks->(kvs.any fun p=>decide (p.1=k))=false->ks.map (fun kv=>if kv.1=(Sum.inr k:Key) then (kv.1,v) else kv)=ks
 | [],_,h,_=>by cases h;rfl
 |p::r,_,⟨u,r',h1,h2,h3⟩,e=>by
  subst h1;rw[zbz,Bool.or_eq_false_iff] at e;have hp:¬ p.1=k:=of_decide_eq_false e.1;rw[zah,h3.keep e.2,zad fun z=>hp (zdM z)]
theorem RKs.Lg{k:Str}{a:AV}{v:V}(hv:RV G a v):∀ {kvs:List (Str×AV)} {ks:List (Key×V)},RKs G kvs ks->ndK kvs->(kvs.any fun p=>decide (p.1=k))=true->RKs G (oS kvs k a) (ks.map fun kv=>if kv.1=(Sum.inr k:Key) then (kv.1,v) else kv)
 | [],_,_,_,e=>by simp at e
 |p::r,_,⟨u,r',h1,h2,h3⟩,nd,e=>by
  subst h1;unfold oS;by_cases hp:p.1=k
  ·rw[zaf hp,zah,zaf (by rw[hp])]
   have hn:(r.any fun p=>decide (p.1=k))=false:=by
    rw[List.any_eq_false];intro q hq hk;have hk:=zdd hk;have:=(zbZ.mp nd).1;exact this (zal.mpr ⟨q,hq,by rw[hk];exact hp.symm⟩)
   rw[h3.keep hn];exact⟨v,r',by rw[hp],hv,h3⟩
  ·rw[zad hp,zah,zad fun z=>hp (zdM z)]
   rw[zbz,zaK hp,zcX] at e;exact⟨u,_,rfl,h2,h3.Lg hv (zbZ.mp nd).2 e⟩
theorem RKs.put{k:Str}{a:AV}{v:V}{kvs:List (Str×AV)}{ks:List (Key×V)}(h:RKs G kvs ks)(hv:RV G a v)(nd:ndK kvs)(e:(kvs.any fun p=>decide (p.1=k))=true):RKs G (oS kvs k a) (fG ks (Sum.inr k:Key) v):=by
 unfold fG;rw[zaf (by rw[h.any];exact e)]
 exact h.Lg hv nd e
theorem vb{l:Addr}{xs ys:List (Str×AV)}{o:HO}(h:Z l=some (.dic xs)):cut F (upd H l o) (Z.put l (.dic ys))=cut F H Z:=by
 funext b;unfold cut Om.put
 by_cases hb:b=l
 ·subst hb;rw[zaf rfl,h];simp[ow]
 ·rw[zad hb,ah hb]
theorem Rep.K1(R:Rep F H Z){l:Addr}{xs ys:List (Str×AV)}{vs:List (Key×V)}(h:Z l=some (.dic xs))(hv:RKs (cut F H Z) ys vs):
  Rep F (upd H l (.dK vs)) (Z.put l (.dic ys))/\Fr F H Z (upd H l (.dK vs)) (Z.put l (.dic ys)):=by
 have c:=vb (F:=F) (H:=H) (ys:=ys) (o:=.dK vs) h;refine⟨⟨fun k zs e=>?_,fun k ds e=>?_,fun b f=>?_,fun k zs e=>?_,fun k zs e=>?_⟩,fun b o x f e=>?_,fun b f=>?_⟩
 ·have hk:k≠l:=fun z=>(by subst z;rw[Om.Kv] at e;cases e)
  rw[Om.Kw hk] at e;rw[c,ah hk];exact R.own k zs e
 ·have hk:k≠l:=fun z=>(by subst z;rw[Om.Kv] at e;cases e)
  rw[Om.Kw hk] at e;rw[c];exact R.frz k ds e
 ·obtain⟨x,o,q⟩:=R.hid b f
  have hb:b≠l:=fun z=>(by subst z;rw[h] at x;cases x)
  exact⟨by rw[Om.Kw hb];exact x,o,by rw[ah hb];exact q⟩
 ·rw[c]
  by_cases hk:k=l
  ·subst hk;rw[Om.Kv] at e;cases e;exact⟨vs,aN,hv⟩
  ·rw[Om.Kw hk] at e;rw[ah hk];exact R.dic k zs e
 ·have hk:k≠l:=fun z=>(by subst z;rw[Om.Kv] at e;cases e)
  rw[Om.Kw hk] at e;rw[c,ah hk];exact R.sto k zs e
 ·have hb:b≠l:=fun z=>(by subst z;rw[h] at x;cases x)
  rw[Om.Kw hb,ah hb];exact⟨e,x⟩
 ·obtain⟨x,o,q⟩:=R.hid b f
  have hb:b≠l:=fun z=>(by subst z;rw[h] at x;cases x)
  exact ah hb
theorem Rep.mkD(R:Rep F H Z){l:Addr}{xs:List (Str×AV)}{vs:List (Key×V)}(h:H l=none)(hv:RKs (cut F H Z) xs vs):
  Rep F (upd H l (.dK vs)) (Z.put l (.dic xs))/\Fr F H Z (upd H l (.dK vs)) (Z.put l (.dic xs)):=by
 obtain⟨f1,f2⟩:=R.free h
 have c:cut F (upd H l (.dK vs)) (Z.put l (.dic xs))=cut F H Z:=by
  funext b;unfold cut Om.put
  by_cases hb:b=l
  ·subst hb;rw[zaf rfl,f1,f2,h];simp[ow]
  ·rw[zad hb,ah hb]
 refine⟨⟨fun k zs e=>?_,fun k ds e=>?_,fun b f=>?_,fun k zs e=>?_,fun k zs e=>?_⟩,fun b o x f e=>?_,fun b f=>?_⟩
 ·have hk:k≠l:=fun z=>(by subst z;rw[Om.Kv] at e;cases e)
  rw[Om.Kw hk] at e;rw[c,ah hk];exact R.own k zs e
 ·have hk:k≠l:=fun z=>(by subst z;rw[Om.Kv] at e;cases e)
  rw[Om.Kw hk] at e;rw[c];exact R.frz k ds e
 ·obtain⟨x,o,q⟩:=R.hid b f
  have hb:b≠l:=av q h;exact⟨by rw[Om.Kw hb];exact x,o,by rw[ah hb];exact q⟩
 ·rw[c]
  by_cases hk:k=l
  ·subst hk;rw[Om.Kv] at e;cases e;exact⟨vs,aN,hv⟩
  ·rw[Om.Kw hk] at e;rw[ah hk];exact R.dic k zs e
 ·have hk:k≠l:=fun z=>(by subst z;rw[Om.Kv] at e;cases e)
  rw[Om.Kw hk] at e;rw[c,ah hk];exact R.sto k zs e
 ·have hb:b≠l:=av e h
  rw[Om.Kw hb,ah hb];exact⟨e,x⟩
 ·obtain⟨x,o,q⟩:=R.hid b f
  exact ah (av q h)
end
noncomputable def FN(td ty:AE):AE:=fun ρ Z Q=>td ρ Z fun x Z1=>ty ρ Z1 fun y Z2=>∃l kvs k a,x=.r (.ref l)/\Z2 l=some (.dic kvs)/\y=.d (.str k)/\lM kvs k=some a/\Q a Z2
theorem sS(td ty:AE)(ρ:SA)(Z:Om)(Q:AV->Om->Prop):FN td ty ρ Z Q=(td ρ Z fun x Z1=>ty ρ Z1 fun y Z2=>∃l kvs k a,x=.r (.ref l)/\Z2 l=some (.dic kvs)/\y=.d (.str k)/\lM kvs k=some a/\Q a Z2):=rfl
theorem n8{td ty:TE}{td' ty':AE}(hd:aD td td')(hy:aD ty ty'):aD (Fl td ty) (FN td' ty'):=⟨fun F H Z σ ρ Q Q' rp rs w k=>
 hd.go rp rs w fun x Z1 v H1 rp1 fr1 rs1 rv1 q1=>hy.go rp1 rs1 q1 fun y Z2 u H2 rp2 fr2 rs2 rv2 ⟨l,kvs,kk,a,e1,e2,e3,e4,q⟩=>by
  subst e1 e3;cases (show v=.ref l from rv1)
  cases qd rv2;obtain⟨ks,z1,z2⟩:=rp2.dic l kvs e2;obtain⟨vv,y1,y2⟩:=z2.get e4;have g:=zm.k (k:=(Sum.inr kk:Key)) z1;rw[y1] at g
  exact⟨l,vv,rfl,g,k a Z2 vv H2 rp2 (fr1.trans fr2) y2 q⟩⟩
noncomputable def E6(td ty tv:AE):AS:=fun D ρ Z=>tv ρ Z fun v Z1=>td ρ Z1 fun x Z2=>ty ρ Z2 fun y Z3=>∃l kvs k,x=.r (.ref l)/\Z3 l=some (.dic kvs)/\y=.d (.str k)/\ndK kvs/\(kvs.any fun p=>decide (p.1=k))=true/\kvs.length<sizeLine/\D.nx ρ (Z3.put l (.dic (oS kvs k v)))
theorem su(td ty tv:AE)(D:bj)(ρ:SA)(Z:Om):E6 td ty tv D ρ Z=(tv ρ Z fun v Z1=>td ρ Z1 fun x Z2=>ty ρ Z2 fun y Z3=>∃l kvs k,x=.r (.ref l)/\Z3 l=some (.dic kvs)/\y=.d (.str k)/\ndK kvs/\(kvs.any fun p=>decide (p.1=k))=true/\kvs.length<sizeLine/\D.nx ρ (Z3.put l (.dic (oS kvs k v)))):=rfl
theorem u7{td ty tv:TE}{td' ty' tv':AE}(hd:aD td td')(hy:aD ty ty')(hv:aD tv tv'):eB (E5 td ty tv) (E6 td' ty' tv'):=⟨fun F H Z σ ρ D D' rp rs w k=>
 hv.go rp rs w fun v Z1 vv H1 rp1 fr1 rs1 rv1 q1=>hd.go rp1 rs1 q1 fun x Z2 xv H2 rp2 fr2 rs2 rv2 q2=>hy.go rp2 rs2 q2 fun y Z3 yv H3 rp3 fr3 rs3 rv3 ⟨l,kvs,kk,e1,e2,e3,nd,an,sz,q⟩=>by
  subst e1 e3;cases (show xv=.ref l from rv2)
  cases qd rv3;obtain⟨ks,z1,z2⟩:=rp3.dic l kvs e2;have rv:RV (cut F H3 Z3) v vv:=rv1.same (fr2.trans fr3).same;obtain⟨rp4,fr4⟩:=rp3.K1 e2 (z2.put (k:=kk) rv nd an)
  exact⟨l,_,rfl,Af.k (k:=(Sum.inr kk:Key)) z1 (by rw[z2.length];exact sz),k.nx ρ _ σ _ rp4 (((fr1.trans fr2).trans fr3).trans fr4) (rs3.same fr4.same) q⟩⟩
noncomputable def nG:List AE->SA->Om->(List AV->Om->Prop)->Prop
 | [],_,Z,Q=>Q [] Z
 |t::r,ρ,Z,Q=>t ρ Z fun x Z1=>nG r ρ Z1 fun xs Z2=>Q (x::xs) Z2
theorem pB(ρ:SA)(Z:Om)(Q:List AV->Om->Prop):nG [] ρ Z Q=Q [] Z:=rfl
theorem mz(t:AE)(r:List AE)(ρ:SA)(Z:Om)(Q:List AV->Om->Prop):nG (t::r) ρ Z Q=(t ρ Z fun x Z1=>nG r ρ Z1 fun xs Z2=>Q (x::xs) Z2):=rfl
noncomputable def Fd(ks:List Str)(ts:List AE):AE:=fun ρ Z Q=>ks.Nodup/\ks.length<=15/\∀p,Z p=none->nG ts ρ (Z.put p (.dic [])) fun xs Z1=>Z1 p=some (.dic [])/\xs.length=ks.length/\Q (.r (.ref p)) (Z1.put p (.dic (ks.zip xs)))
theorem sN(ks:List Str)(ts:List AE)(ρ:SA)(Z:Om)(Q:AV->Om->Prop):Fd ks ts ρ Z Q=(ks.Nodup/\ks.length<=15/\∀p,Z p=none->nG ts ρ (Z.put p (.dic [])) fun xs Z1=>Z1 p=some (.dic [])/\xs.length=ks.length/\Q (.r (.ref p)) (Z1.put p (.dic (ks.zip xs)))):=rfl
inductive iM:List (TE×TE)->List Str->List AE->Prop
 |nil:iM [] [] []
 |cons {k:Str} {tv:TE} {tv':AE} {r:List (TE×TE)} {ks:List Str} {ts:List AE}:aD tv tv'->iM r ks ts->iM ((tC (.str k),tv)::r) (k::ks) (tv'::ts)
theorem iM.go{trs:List (TE×TE)}{ks:List Str}{ts:List AE}(h:iM trs ks ts):∀ {F:Fs} {H:Hp} {Z:Om} {σ:St} {ρ:SA} {Q:List (V×V)->Hp->Prop} {Q':List AV->Om->Prop},Rep F H Z->RS (cut F H Z) ρ σ->nG ts ρ Z Q' ->
  (∀(xs:List AV)(Z1:Om)(vs:List V)(H1:Hp),Rep F H1 Z1->Fr F H Z H1 Z1->RVs (cut F H1 Z1) xs vs->vs.length=ks.length->Q' xs Z1->Q ((ks.zip vs).map fun p=>(V.str p.1,p.2)) H1)->ql trs σ H Q:=by
 induction h with
 |nil=>intro F H Z σ ρ Q Q' rp rs w k;exact k [] Z [] H rp .refl rfl rfl w
 | @cons kk tv tv' r ks ts hv hr ih=>
  intro F H Z σ ρ Q Q' rp rs w k;refine hv.go rp rs w fun x Z1 v H1 rp1 fr1 rs1 rv1 q1=>ih rp1 rs1 q1 fun xs Z2 vs H2 rp2 fr2 rvs hl q2=>?_;exact k (x::xs) Z2 (v::vs) H2 rp2 (fr1.trans fr2) ⟨v,vs,rfl,rv1.same fr2.same,rvs⟩ (by simp[hl]) q2
theorem sd:∀ {more acc:List (Key×V)},((acc++more).map (·.1)).Nodup->gQ acc more=acc++more
 | [],acc,_=>by simp[gQ]
 |p::r,acc,h=>by
  have hn:(acc.any fun kv=>decide (kv.1=p.1))=false:=by
   rw[List.any_eq_false];intro q hq hk;have hk:=zdd hk;rw[zaQ,zah] at h;exact(zcH.mp h).2.2 _ (zal.mpr ⟨q,hq,rfl⟩) _ (zau ..) hk
  have hp:fG acc p.1 p.2=acc++[p]:=by unfold fG;rw[zad (by rw[hn];decide)]
  show gQ (fG acc p.1 p.2) r=_;rw[hp,sd (by simpa using h)]
  simp
theorem wV{G:Hp}:∀ {ks:List Str} {xs:List AV} {vs:List V},RVs G xs vs->xs.length=ks.length->RKs G (ks.zip xs) ((ks.zip vs).map fun p=>((Sum.inr p.1:Key),p.2))
 | [],[],_,h,_=>by cases h;rfl
 | [],_::_,_,_,e=>by simp at e
 |_::_,[],_,_,e=>by simp at e
 |k::ks,x::xs,_,⟨v,r,h1,h2,h3⟩,e=>by
  subst h1;exact⟨v,_,rfl,h2,wV h3 (by simpa using e)⟩
theorem HF{trs:List (TE×TE)}{ks:List Str}{ts:List AE}(h:iM trs ks ts):aD (EX trs) (Fd ks ts):=⟨fun F H Z σ ρ Q Q' rp rs w k=>by
 obtain⟨nd,h15,w⟩:=w;intro p hp;obtain⟨rp1,fr1⟩:=rp.mkD (xs:=[]) (vs:=[]) hp rfl;refine h.go rp1 (rs.same fr1.same) (w p (rp.free hp).1) fun xs Z1 vs H1 rp2 fr2 rvs hl q=>?_;obtain⟨e1,e2,q⟩:=q;obtain⟨k0,z1,z2⟩:=rp2.dic p [] e1;cases z2;have hz:=wV rvs e2;obtain⟨rp3,fr3⟩:=rp2.K1 e1 hz;refine⟨z1,(ks.zip vs).map fun p=>((Sum.inr p.1:Key),p.2),by simp[kV,Function.comp_def],by simp;omega,?_⟩
 rw [sd (by
  rw[zcp,zaO]
  have:(List.map ((fun x:Key×V=>x.1) ∘ fun p:Str×V=>((Sum.inr p.1:Key),p.2)) (ks.zip vs))=ks.map fun k=>(Sum.inr k:Key):=by
   rw[show ((fun x:Key×V=>x.1) ∘ fun p:Str×V=>((Sum.inr p.1:Key),p.2))=(fun k=>(Sum.inr k:Key)) ∘ Prod.fst from rfl,←zaO,List.map_fst_zip (by omega)]
  rw[this]
  exact List.pairwise_map.mpr (nd.imp fun {a b} hne e=>hne (zdM e))),zcp]
 exact k (.r (.ref p)) _ _ _ rp3 ((fr1.trans fr2).trans fr3) rfl q⟩
noncomputable def EF(K:W.Frag)(neg:Bool):A2:=fun x y Z Q=>∃(a:Addr)(ns:List Int),x=g9 K a ns/\bo Z y=some (.lst [])/\Q (.d (.bl (if neg then !ns.isEmpty else ns.isEmpty))) Z
theorem sD(K:W.Frag)(neg:Bool)(x y:AV)(Z:Om)(Q:AV->Om->Prop):EF K neg x y Z Q=(∃(a:Addr)(ns:List Int),x=g9 K a ns/\bo Z y=some (.lst [])/\Q (.d (.bl (if neg then !ns.isEmpty else ns.isEmpty))) Z):=rfl
theorem BA{F:Fs}{H:Hp}{Z:Om}{y:AV}{u:V}(rp:Rep F H Z)(r:RV (cut F H Z) y u)(e:bo Z y=some (.lst [])):∃b,u=.ref b/\H b=some (.lst []):=by
 have hd:=je rp r e;simp only[Dat] at hd;obtain⟨b,us,rfl,q1,q2⟩:=hd;have q2:us=[]:=q2;subst q2;exact⟨b,rfl,q1⟩
theorem Bg{K:W.Frag}:f6 (fun x y H Q=>∃a b xs,x=.ref a/\y=.ref b/\SqL K H a xs/\SqL K H b []/\Q (.bl (!xs.isEmpty)) H) (EF K true):=⟨fun F H Z v u x y Q Q' rp h1 h2 ⟨a,ns,e1,e2,q⟩ k=>by
 subst e1;obtain⟨rfl,hs⟩:=vt h1;obtain⟨b,rfl,hb⟩:=BA rp h2 e2;refine⟨a,b,_,rfl,rfl,hs,.inl (.inl hb),?_⟩;rw[List.isEmpty_map]
 exact k.bl rp q⟩
noncomputable def tx(l:List Nat):Str:=⟨l.toArray⟩
noncomputable def jn(s:List Nat):List (List Nat)->List Nat
 | []=>[]
 | [x]=>x
 |x::y::r=>x++s++jn s (y::r)
inductive PFs (X:Cx):List Expr->List TE->Prop
 |nil:PFs X [] []
 |cons {e:Expr} {t:TE} {es:List Expr} {ts:List TE}:PE X e t->PFs X es ts->PFs X (e::es) (t::ts)
inductive Bh:List TE->List AE->Prop
 |nil:Bh [] []
 |cons {t:TE} {t':AE} {ts:List TE} {ts':List AE}:aD t t'->Bh ts ts'->Bh (t::ts) (t'::ts')
theorem RVs.Lh{G:Hp}:∀ {xs:List AV} {us:List V},RVs G xs us->RVs G xs.reverse us.reverse
 | [],us,h=>by cases h;exact rfl
 |x::xs,us,h=>by
  obtain⟨v,r,rfl,h1,h2⟩:=h;rw[zcr,zcr];exact(RVs.Lh h2).append (.one h1)
noncomputable def rP(to:AE):AE:=fun ρ Z Q=>to ρ Z fun x Z1=>∃l xs,x=.r (.ref l)/\Z1 l=some (.own xs)/\Q (.d .non) (Z1.put l (.own xs.reverse))
theorem ln(to:AE)(ρ:SA)(Z:Om)(Q:AV->Om->Prop):rP to ρ Z Q=(to ρ Z fun x Z1=>∃l xs,x=.r (.ref l)/\Z1 l=some (.own xs)/\Q (.d .non) (Z1.put l (.own xs.reverse))):=rfl
section
variable{K:W.Frag}{to:TE}{to':AE}{t:TA}{t':AA}
theorem yE(ho:aD to to'):aD (Gq K "list" uI to) (rP to'):=⟨fun F H Z σ ρ Q Q' rp rs w k=>
 ho.go rp rs w fun x Z1 v H1 rp1 fr1 rs1 rv1 ⟨l,xs,e,hz,q⟩=>by
  subst e;cases (show v=.ref l from rv1)
  obtain⟨us,z1,z2⟩:=rp1.own l xs hz;obtain⟨rp3,fr3⟩:=rp1.write hz z2.Lh
  exact⟨.inl ⟨rfl,us,.inl (.inl z1)⟩,l,us,rfl,rfl,z1,k _ _ _ _ rp3 (fr1.trans fr3) (by simp[RV,Dat]) q⟩⟩
end
end L2
namespace L2
open PySem PySem.Spec PyProof.Rows PySem.W
noncomputable def CXx(P:Program)(w:World):CXT:=fun outer H s E e s'=>∃(a C t:Addr)(H':Hp)(B:Heap),e=.ref a/\s'.os=s.os/\AllBare s'.gens/\Un (frs outer) [] H H' s.heap s'.heap/\HOk P w H' B /\
 Heap.FlyingW B outer a (.ref C) (.ref t) s'.heap/\(∀b o,s.heap.get? b=some o->H b=none->b ∉ frs outer->B.get? b=some o)/\(∀b o,s.heap.get? b=some o->b ∉ frs outer->∃o',B.get? b=some o')/\E (.ref a) (some C) H'
end L2
namespace L2
open PySem PySem.Spec PySem.Calls PyProof.Rows PySem.W PySem.Builtin PySem.Builtin.ObjectAttr PySem.Builtin.Getset_descriptor
end L2
namespace L2
open PySem PySem.Spec PySem.Calls PyProof.Rows PySem.W
end L2
namespace L2
open PySem PySem.Spec PyProof.Rows
noncomputable abbrev Cq:=List AV->Om->(AV->Om->Prop)->(Addr->Om->Prop)->Prop
noncomputable def LX(F:Fs)(H:Hp)(Z:Om)(Ex:Addr->Om->Prop)(E:XK):Prop:=∀C Z' a H',Rep F H' Z'->Fr F H Z H' Z'->Ex C Z'->E (.ref a) (some C) H'
noncomputable abbrev AXS:=bj->(Addr->Om->Prop)->SA->Om->Prop
structure Kl(E:XK)(t:TS)(t':AXS):Prop where
 run:∀(F:Fs)(H:Hp)(Z:Om)(σ:St)(ρ:SA)(D:iL)(D':bj)(Ex:Addr->Om->Prop),Rep F H Z->RS (cut F H Z) ρ σ->t' D' Ex ρ Z->LE F H Z D' D->LX F H Z Ex E->t D σ H
noncomputable def IP(t u:AXS):AXS:=fun D Ex ρ Z=>t { D with nx:=u D Ex } Ex ρ Z
theorem A7(t u:AXS)(D:bj)(Ex:Addr->Om->Prop)(ρ:SA)(Z:Om):IP t u D Ex ρ Z=t { D with nx:=u D Ex } Ex ρ Z:=rfl
end L2
namespace L2
open PySem PySem.Spec PySem.Calls PyProof.Rows PySem.W
structure Kt(P:Program)(w:World)(K:W.Frag)(mg:Str->Option Value)(base:Heap)(H₀:Hp)(k:Nat)(f:Addr)(n:Nat)(sp:Sp):Prop where
 fn:∃(oc:Value)(od:Option Addr)(fd:FuncData) (sl:Array (Option Value)) (u:HO),H₀ f=some (.frz ⟨oc,od,.func fd,sl⟩ u)
 len:∀vs H Q E,sp vs H Q E->vs.length=n
 run:∀(A:Around)(outer:List Env)(s:Shared)(H:Hp)(us:List Value)(vs:List V)(Q:VK)(E:XK),cw k A->tS P w K mg base A outer s H->Frz H₀ H->ay vs us->sp vs H Q E ->
  codeAny (model P w) A (.call (.ref f) ⟨us,[]⟩) (CR (CXx P w) outer P w H s Q E) s
end L2
namespace L2
open PySem PySem.Spec PySem.Calls PyProof.Rows
structure Ap3(z u o i j l p q r:Addr):Prop where
 uz:u≠z
 oz:o≠z
 iz:i≠z
 jz:j≠z
 lz:l≠z
 uo:u≠o
 ui:u≠i
 uj:u≠j
 ul:u≠l
 oi:o≠i
 oj:o≠j
 ol:o≠l
 ij:i≠j
 il:i≠l
 jl:j≠l
 np:∀c∈[z,u,o,i,j,l],p≠c
 nq:∀c∈[z,u,o,i,j,l],q≠c
 nr:∀c∈[z,u,o,i,j,l],r≠c
end L2
namespace L2
open PySem PySem.Spec PyProof.Rows
inductive O where
 |d (x:D)|box (b:Bool)|tup (os:List O)
noncomputable def Om.del(Z:Om)(l:Addr):Om:=fun b=>if b=l then none else Z b
theorem Om.KC{Z:Om}{l:Addr}:Z.del l l=none:=by unfold Om.del;rw[zaf rfl]
theorem Om.KD{Z:Om}{l b:Addr}(h:b≠l):Z.del l b=Z b:=by unfold Om.del;rw[zad h]
section
variable{F:Fs}{H:Hp}{Z:Om}
theorem Rep.give(R:Rep F H Z){l:Addr}{o:HO}(h:ow (Z l)=true):Rep F (upd H l o) (Z.del l)/\Fr F H Z (upd H l o) (Z.del l)/\cut F (upd H l o) (Z.del l) l=some o:=by
 have hn:Z l≠none:=fun z=>by rw[z] at h;cases h
 have hF:F l=false:=by
  cases e:F l with
  |false=>rfl
  |true=>exact absurd (R.hid l e).1 hn
 have fr:Fr F H Z (upd H l o) (Z.del l):=by
  refine⟨fun b o' x f e=>?_,fun b f=>?_⟩
  ·have hb:b≠l:=fun z=>by subst z;rw[h] at x;cases x
   exact⟨by rw[ah hb];exact e,by rw[Om.KD hb];exact x⟩
  ·have hb:b≠l:=fun z=>by subst z;rw[hF] at f;cases f
   rw[ah hb]
 refine⟨⟨fun k zs e=>?_,fun k es e=>?_,fun b f=>?_,fun k ks e=>?_,fun k ks e=>?_⟩,fr,bi.mpr ⟨by rw[Om.KC];rfl,hF,aN⟩⟩
 ·have hk:k≠l:=fun z=>by subst z;rw[Om.KC] at e;cases e
  rw[Om.KD hk] at e;obtain⟨us,q1,q2⟩:=R.own k zs e;exact⟨us,by rw[ah hk];exact q1,q2.same fr.same⟩
 ·have hk:k≠l:=fun z=>by subst z;rw[Om.KC] at e;cases e
  rw[Om.KD hk] at e;exact(R.frz k es e).same fr.same
 ·obtain⟨x,vs,q⟩:=R.hid b f
  have hb:b≠l:=fun z=>hn (by rw[←z];exact x)
  exact⟨by rw[Om.KD hb];exact x,vs,by rw[ah hb];exact q⟩
 ·have hk:k≠l:=fun z=>by subst z;rw[Om.KC] at e;cases e
  rw[Om.KD hk] at e;obtain⟨us,q1,q2⟩:=R.dic k ks e;exact⟨us,by rw[ah hk];exact q1,q2.same fr.same⟩
 ·have hk:k≠l:=fun z=>by subst z;rw[Om.KC] at e;cases e
  rw[Om.KD hk] at e;obtain⟨us,q1,q2⟩:=R.sto k ks e;exact⟨us,by rw[ah hk];exact q1,q2.same fr.same⟩
end
theorem wT(i:Int)(ns:List Int):inD (.int i) (ns.map D.int)=decide (i∈ns):=by
 unfold inD
 induction ns with
 |nil=>rfl
 |cons n ns ih=>
  rw[zah,zbz,ih,cL];simp only[zay];by_cases h:i=n
  ·subst h;simp
  ·have h':¬ n=i:=fun e=>h e.symm
   simp[h,h']
end L2
namespace L2
open PySem PySem.Spec PyProof.Rows AutoSeq1
noncomputable def JL(neg:Bool):A2:=fun x y Z Q=>∃xs,dO Z x=some xs/\bo Z y=some (.lst [])/\Q (.d (.bl (if neg then !xs.isEmpty else xs.isEmpty))) Z
theorem rZ{K:W.Frag}:f6 (fun x y H Q=>∃a b xs,x=.ref a/\y=.ref b/\SqL K H a xs/\SqL K H b []/\Q (.bl (!xs.isEmpty)) H) (JL true):=⟨fun F H Z v u x y Q Q' rp h1 h2 ⟨xs,e1,e2,q⟩ k=>by
 obtain⟨a,vs,rfl,z1,z2⟩:=jX rp h1 e1;obtain⟨b,rfl,hb⟩:=BA rp h2 e2
 have:vs.isEmpty=xs.isEmpty:=by
  have:=z2.length;cases vs<;>cases xs<;>simp at this ⊢
 exact⟨a,b,vs,rfl,rfl,.inl (.inl z1),.inl (.inl hb),by rw[this];exact k.bl rp q⟩⟩
end L2
namespace L2
open PySem PySem.Spec PyProof PyProof.Rows PySem.SeqAt
open AutoSeq1 (wpAny_loadPart')
noncomputable def LtA(A:Around)(s:Shared)(x y:Value)(b:Bool):Prop:=∀(p:Program)(w:World)(E:Value->Shared->Prop)(Q:Value->Shared->Prop),Q (.bool b) s->wpAny (model p w) A (richCompare .Lt x y) Q E s
noncomputable def rQ(A:Around)(s:Shared)(fin:Bool):List (Value×Value)->Bool->Prop
 | [],r=>r=fin
 |(p,q)::t,r=>∃b,EqAt A s p q b/\(b=true->rQ A s fin t r)/\(b=false->LtA A s p q r)
theorem zj(x y:Addr)(xs ys:Array Value)(n m:Nat)(dx dy:Option Addr)(sx sy:Array (Option Value))(r:Bool):
  Meets (Builtin.«tuple.__lt__» ⟨[.ref x,.ref y],[]⟩)
   (fun A R s=>s.heap.get? x=some { cls:=.type "tuple",dict:=dx,data:=.seq xs n,slots:=sx }/\s.heap.get? y=some { cls:=.type "tuple",dict:=dy,data:=.seq ys m,slots:=sy } /\
    rQ A.in1 s (decide (xs.size<ys.size)) (xs.toList.zip ys.toList) r/\R (.ok (.ret (.bool r))) s):=
 .of_wp fun prog w A R s h=>by
  obtain⟨hp,g,d,tk,os⟩:=s;obtain⟨hx,hy,he,h⟩:=h;have f2:=AutoSeq1.sub_tuple_tuple
  wp_walk using wpAny_loadPart' hx,wpAny_loadPart' hy,zbE _ (fun aJ b s'=>b.1=none/\s'=⟨hp,g,d,tk,os⟩/\rQ A.in1 ⟨hp,g,d,tk,os⟩ (decide (xs.size<ys.size)) aJ r) _
  case turn=>
   rintro⟨p,q⟩ aJ b s' ⟨hb,rfl,hL⟩;obtain⟨k,hk,h1,h2⟩:=hL;refine zaa (hk prog w _ _ ?_)
   cases k with
   |true=>
    wp_walk
    exact⟨rfl,rfl,h1 rfl⟩
   |false=>
    rw[zaf (by rfl)]
    refine zaa (zbF (zaa (h2 rfl prog w _ _ ?_)))
    wp_walk
    exact⟨_,rfl,h⟩
  case fin=>
   rintro⟨b1,b2⟩ s' ⟨hb,rfl,hL⟩;simp only at hb;subst hb;have e:r=decide (xs.size<ys.size):=hL;subst e
   wp_walk
   exact⟨_,rfl,h⟩
  case h=>exact⟨rfl,rfl,he⟩
theorem LtA.tuples{A:Around}{s:Shared}{x y:Addr}{xs ys:Array Value}{r:Bool}(hx:s.heap.IsTuple x xs)(hy:s.heap.IsTuple y ys)(hu:A.units<cLine)(he:rQ A.in1 s (decide (xs.size<ys.size)) (xs.toList.zip ys.toList) r):LtA A s (.ref x) (.ref y) r:=fun p w E Q q=>by
 obtain⟨⟨c1,d1,t1,l1⟩,o1,hc1,n1,hd1⟩:=id hx;obtain⟨⟨c2,d2,t2,l2⟩,o2,hc2,n2,hd2⟩:=id hy;simp only at hc1 hd1 hc2 hd2;subst hc1 hd1 hc2 hd2;exact richCompare_meets_room (op:=.Lt) ⟨_,o1,rfl⟩ ⟨_,o2,rfl⟩ F.slot_tuple_lt F.entry_tuple_lt (F.args_tuple_lt_2 _ _) (zj x y xs ys n1 n2 d1 d2 l1 l2 r) ⟨o1,o2,he,show Value.bool r≠Value.notImplemented/\Q (.bool r) s from ⟨fun z=>(nomatch z),q⟩⟩ hu
mutual
noncomputable def ltD:D->D->Bool
 |.int a,.int b=>decide (a<b)
 |.str a,.str b=>decide (a.cps.toList<b.cps.toList)
 |.tup xs,.tup ys=>gq xs ys
 |_,_=>false
noncomputable def gq:List D->List D->Bool
 | [],[]=>false
 | [],_::_=>true
 |_::_,[]=>false
 |x::xs,y::ys=>if eqD x y then gq xs ys else ltD x y
end
mutual
noncomputable def cmD:D->D->Bool
 |.int _,.int _=>true
 |.str _,.str _=>true
 |.tup xs,.tup ys=>fA xs ys
 |_,_=>false
noncomputable def fA:List D->List D->Bool
 |x::xs,y::ys=>if eqD x y then fA xs ys else cmD x y
 |_,_=>true
end
section
variable{X:Cx}{pins:List (Addr×Obj)}{σ:St}{H:Hp}{s:Shared}
theorem CB(I:Inv X pins σ H s){A:Around}{n:Nat}(hu:A.units+n<cLine)(lt:∀(d e:D)(x y:V)(v u:Value),dep d<=n->Dat H d x->Dat H e y->aB x v->aB y u->cmD d e=true->LtA A s v u (ltD d e)):
  ∀ {ds es:List D} {xs ys:List V} {vs us:List Value},bW ds<=n->ao H ds xs->ao H es ys->ay xs vs->ay ys us->fA ds es=true->rQ A s (decide (vs.length<us.length)) (vs.zip us) (gq ds es)
 | [],[],xs,ys,vs,us,_,h1,h2,r1,r2,_=>by
  simp only[ao] at h1 h2;subst h1 h2;cases r1;cases r2;rfl
 | [],e::es,xs,ys,vs,us,_,h1,h2,r1,r2,_=>by
  simp only[ao] at h1 h2;obtain⟨y,yr,rfl,_,_⟩:=h2;subst h1;cases r1;cases r2;simp[rQ,gq]
 |d::ds,[],xs,ys,vs,us,_,h1,h2,r1,r2,_=>by
  simp only[ao] at h1 h2;obtain⟨x,xr,rfl,_,_⟩:=h1;subst h2;cases r1;cases r2;simp[rQ,gq]
 |d::ds,e::es,xs,ys,vs,us,hd,h1,h2,r1,r2,hc=>by
  simp only[ao] at h1 h2;obtain⟨x,xr,rfl,hx,hxr⟩:=h1;obtain⟨y,yr,rfl,hy,hyr⟩:=h2
  cases r1 with
  | @cons _ v _ vs rx rxr=>
  cases r2 with
  | @cons _ u _ us ry ryr=>
  have d1:dep d<=n:=zaN (fL (zau ..)) hd;have d2:bW ds<=n:=by simp only[bW] at hd;omega
  simp only[fA] at hc;simp only[zdz,rQ,gq];refine⟨eqD d e,(nH I n d e x y v u A d1 hu hx hy rx ry).2.1,fun q=>?_,fun q=>?_⟩
  ·rw[zaf q] at hc ⊢
   have:=CB I hu lt d2 hxr hyr rxr ryr hc;rw[show decide ((v::vs).length<(u::us).length)=decide (vs.length<us.length) from by simp]
   exact this
  ·rw[zad (by rw[q];decide)] at hc ⊢
   exact lt d e x y v u d1 hx hy rx ry hc
set_option tactic.hygienic true in
theorem IE(I:Inv X pins σ H s):∀(n:Nat)(A:Around)(d e:D)(x y:V)(v u:Value),A.units+n<cLine->dep d<=n->Dat H d x->Dat H e y->aB x v->aB y u->cmD d e=true->LtA A s v u (ltD d e):=fun n=>by
 induction n with
 |zero=>
  intro A d e x y v u hu hd hx hy rx ry hc
  cases d with
  |int a=>
   cases e<;>simp only[cmD,zak] at hc
   simp only[Dat] at hx hy;subst hx hy;obtain⟨t1,rfl⟩:=rx;obtain⟨t2,rfl⟩:=ry;exact fun p w E Q q=>lt_int q
  |str a=>
   cases e<;>simp only[cmD,zak] at hc
   simp only[Dat] at hx hy;subst hx hy;obtain⟨t1,rfl⟩:=rx;obtain⟨t2,rfl⟩:=ry;exact fun p w E Q q=>lt_str q
  |tup ds=>simp[dep] at hd
  |non=>cases e<;>simp[cmD] at hc
  |bl b=>cases e<;>simp[cmD] at hc
  |lst b=>cases e<;>simp[cmD] at hc
  |dk b=>cases e<;>simp[cmD] at hc
  |dt b=>cases e<;>simp[cmD] at hc
 |succ n ih=>
  intro A d e x y v u hu hd hx hy rx ry hc;by_cases h0:dep d<=n
  ·exact ih A d e x y v u (by omega) h0 hx hy rx ry hc
  have hin:A.in1.units+n<cLine:=by show A.units+1+n<cLine;omega
  cases d with
  |tup ds=>
   cases e<;>simp only[cmD,zak] at hc
   rename_i es
   simp only[Dat] at hx hy;obtain⟨a,xs,rfl,ha,hxs⟩:=hx;obtain⟨b,ys,rfl,hb,hys⟩:=hy;cases rx;cases ry;obtain⟨its,r1,p1⟩:=eM I ha;obtain⟨jts,r2,p2⟩:=eM I hb;have:=CB I hin (fun d e x y v u q1 q2 q3 q4 q5 q6=>ih A.in1 d e x y v u hin q1 q2 q3 q4 q5 q6) (by simp only[dep] at hd;omega) hxs hys r1 r2 hc
   exact LtA.tuples p1 p2 (by omega) (by simpa[ltD] using this)
  |int a=>simp only[dep] at h0;omega
  |str a=>simp only[dep] at h0;omega
  |non=>cases e<;>simp[cmD] at hc
  |bl b=>cases e<;>simp[cmD] at hc
  |lst b=>cases e<;>simp[cmD] at hc
  |dk b=>cases e<;>simp[cmD] at hc
  |dt b=>cases e<;>simp[cmD] at hc
end
end L2
namespace L2
open PySem PySem.Spec PyProof PyProof.Rows PySem.SeqAt
end L2
namespace L2
open PySem PySem.Spec PySem.Calls PyProof PyProof.Rows PySem.SeqAt
section
variable{prog:Program}{w:World}{A:Around}{E:Value->Shared->Prop}{s:Shared}
theorem rV{a:Addr}{ob:Obj}{us:List Value}{m:Nat}{C:List Value->Shared->Prop}(g:s.heap.get? a=some ob)(gc:ob.cls=.type "list"\/ob.cls=.type "tuple")(gd:ob.data=.seq us.toArray m)(hz:us.length<=sizeLine)(q:C us { s with heap:=(s.heap.push (seqObj "list" #[] 0)).update s.heap.objs.size (Obj.mapSeq (·++us.toArray)) }):wpAny (model prog w) A (collect (.ref a)) C E s:=by
 rcases gc with gc|gc
 ·exact collect_list ⟨ob,g,gc,m,gd⟩ q hz
 unfold collect;refine zaa (wpAny_runValue (codeAny_builtin entry_proto_collect' ?_));show wpAny _ _ (do again (.builtin "list.__iadd__" ⟨[←newList [],.ref a],[]⟩)) _ _ s
 refine zaa (wpAny_newList (zab ⟨Code.quiet_builtin _ (by decide +kernel),codeAny_builtin entry_list_iadd' ?_⟩))
 have gp:(s.heap.push (seqObj "list" #[] 0)).get? a=some ob:=zac _ g;show wpAny _ _ (Builtin.List.listExtendWith (.ref s.heap.objs.size) (.ref a) (.ref s.heap.objs.size)) _ _ { s with heap:=s.heap.push (seqObj "list" #[] 0) };unfold Builtin.List.listExtendWith;refine zaa (zdg (T:="tuple") ⟨ob,gp,gc⟩ ?_);have ht:(Value.type "tuple" == Value.type "tuple")=true:=by rfl
 rw[zaf (by rw[ht];simp)]
 refine zaa (listItems_at gp gd (zaa (listItems_at (xs:=#[]) (n:=0) (zan _ rfl) rfl ?_)));rw[zad (by simp)]
 refine zaa (listUpdate_at (xs:=#[]) (n:=0) (zan _ rfl) rfl (zab ?_) (zbL _) (by show (#[]++us.toArray).size<=sizeLine+1;simp only[Array.size_append,zao,zdt];omega))
 show wpAny (model prog w) A (do
   let o ← load s.heap.objs.size
   match o.data with|.seq xs _=>pure xs.toList|_=>unsupported "internal:collect") C E { s with heap:=(s.heap.push (seqObj "list" #[] 0)).update s.heap.objs.size (Obj.mapSeq (·++us.toArray)) }
 refine zaa (zaI (get?_update_seq (zan _ rfl) _) ?_);show wpAny _ _ (pure ((#[]:Array Value)++us.toArray).toList) C E _;rw[show ((#[]:Array Value)++us.toArray).toList=us by simp]
 exact zab q
noncomputable def tw(h0 h:Heap):Prop:=∀x o,h0.get? x=some o->h.get? x=some o
structure BH(prog:Program)(w:World)(A:Around)(h0:Heap)(s:Shared)(vs:List Value)(c:Nat->Nat->Bool)(b:Bool):Prop where
 kind:∀h,tw h0 h->∃fs T,W.KatTups h vs fs/\fs.length=vs.length/\(∀v∈fs,W.Looks (model prog w) h (typeOf v) T)/\(T == T)=true/\(T != Value.type "tuple")=b
 ask:∀h,tw h0 h->∀i j,i<vs.length->j<vs.length->∀(C:Bool->Shared->Prop)(E:Value->Shared->Prop),C (c i j) { s with heap:=h }->wpAny (model prog w) A (keyLt' (tuples' b) (vs.getD i Value.none) (vs.getD j Value.none)) C E { s with heap:=h }
end
section
variable{X:Cx}{pins:List (Addr×Obj)}{σ:St}{H:Hp}{s:Shared}{A:Around}
noncomputable def Ba:List D->List D->Bool
 |.str _::_,.str _::_=>true
 |.int _::_,.int _::_=>true
 |_,_=>false
theorem vE(I:Inv X pins σ H s){n:Nat}(hu:A.units+n<cLine){b:Bool}{Q:Bool->Shared->Prop}:
  ∀ {ds es:List D} {xs ys:List V} {vs us:List Value} (i:Nat),bW ds<=n->ao H ds xs->ao H es ys->ay xs vs->ay ys us->fA ds es=true->((b && i == 0)=true->Ba ds es=true)->Q (gq ds es) s ->
   W.KatLex X.prog X.w A b (decide (vs.length<us.length)) Q (vs.zip us) i s
 | [],[],xs,ys,vs,us,i,_,h1,h2,r1,r2,_,_,q=>by
  simp only[ao] at h1 h2;subst h1 h2;cases r1;cases r2;exact W.kat_nil q
 | [],e::es,xs,ys,vs,us,i,_,h1,h2,r1,r2,_,_,q=>by
  simp only[ao] at h1 h2;obtain⟨y,yr,rfl,_,_⟩:=h2;subst h1;cases r1;cases r2;exact W.kat_nil (by simpa[gq] using q)
 |d::ds,[],xs,ys,vs,us,i,_,h1,h2,r1,r2,_,_,q=>by
  simp only[ao] at h1 h2;obtain⟨x,xr,rfl,_,_⟩:=h1;subst h2;cases r1;cases r2;exact W.kat_nil (by simpa[gq] using q)
 |d::ds,e::es,xs,ys,vs,us,i,hd,h1,h2,r1,r2,hc,hk,q=>by
  simp only[ao] at h1 h2;obtain⟨x,xr,rfl,hx,hxr⟩:=h1;obtain⟨y,yr,rfl,hy,hyr⟩:=h2
  cases r1 with
  | @cons _ v _ vs rx rxr=>
  cases r2 with
  | @cons _ u _ us ry ryr=>
  have d1:dep d<=n:=zaN (fL (zau ..)) hd;have d2:bW ds<=n:=by simp only[bW] at hd;omega
  simp only[fA] at hc;simp only[gq] at q;rw[zdz,show decide ((v::vs).length<(u::us).length)=decide (vs.length<us.length) from by simp]
  refine W.kat_cons ((nH I n d e x y v u A d1 hu hx hy rx ry).2.1 X.prog X.w _ _ ?_);by_cases h:eqD d e=true
  ·rw[h]
   rw[zaf h] at hc q;exact W.kat_yes (vE I hu (i+1) d2 hxr hyr rxr ryr hc (fun z=>by simp at z) q)
  ·rw[show eqD d e=false from by simpa using h]
   rw[zad h] at hc q;refine W.kat_no ?_
   cases hb:(b && i == 0) with
   |false=>exact W.kat_one _ _ (IE I n A d e x y v u hu d1 hx hy rx ry hc X.prog X.w _ _ q)
   |true=>
    have hk:=hk hb;cases d<;>cases e<;>simp only[Ba,zak] at hk
    ·simp only[Dat] at hx hy
     subst hx hy;obtain⟨t1,rfl⟩:=rx;obtain⟨t2,rfl⟩:=ry;exact oneLt_int q
    ·simp only[Dat] at hx hy
     subst hx hy;obtain⟨t1,rfl⟩:=rx;obtain⟨t2,rfl⟩:=ry;exact oneLt_str q
noncomputable def qf(k:Bool)(d:D):Prop:=∃r,(k=true/\∃z,d=.tup (.str z::r))\/(k=false/\∃i,d=.tup (.int i::r))
theorem pV(I:Inv X pins σ H s){k:Bool}:∀ {W:List D} {xs:List V} {vs:List Value},(∀d∈W,qf k d)->ao H W xs->ay xs vs->∃fs,PySem.W.KatTups s.heap vs fs/\fs.length=vs.length/\∀v∈fs,(k=true/\∃z t,v=.str z t)\/(k=false/\∃n t,v=.int n t)
 | [],xs,vs,_,h,r=>by
  simp only[ao] at h;subst h;cases r;exact⟨[],trivial,rfl,by simp⟩
 |d::W,xs,vs,hk,h,r=>by
  simp only[ao] at h;obtain⟨x,xr,rfl,hx,hxr⟩:=h
  cases r with
  | @cons _ v _ vs rx rxr=>
  obtain⟨fs,g1,g2,g3⟩:=pV I (fun e he=>hk e (zar _ he)) hxr rxr
  have mk:∀(f:D)(aJ:List D),d=.tup (f::aJ)->∃a o its n fv fx,v=.ref a/\s.heap.get? a=some o/\o.cls=.type "tuple"/\o.data=.seq its n/\its[0]?=some fv/\Dat H f fx/\aB fx fv:=fun f aJ e=>by
   subst e;simp only[Dat] at hx;obtain⟨a,ys,rfl,ha,hys⟩:=hx;simp only[ao] at hys;obtain⟨fx,yr,rfl,hf,_⟩:=hys;cases rx;obtain⟨_,its,e4,⟨o,e5,e6,n,e7⟩,_⟩:=I.hok a _ ha
   cases e4 with
   | @cons _ fv _ vr rf _=>exact⟨a,o,_,n,fv,fx,rfl,e5,e6,e7,by simp,hf,rf⟩
  obtain⟨aJ,⟨k1,z,e⟩|⟨k1,z,e⟩⟩:=hk d zau
  ·obtain⟨a,o,its,n,fv,fx,rfl,e5,e6,e7,e8,hf,rf⟩:=mk _ _ e
   simp only[Dat] at hf;subst hf;obtain⟨t,rfl⟩:=rf;refine⟨_::fs,PySem.W.KatTups.cons e5 e6 e7 e8 g1,by simp[g2],fun v hv=>?_⟩
   rcases zay.mp hv with rfl|hv
   ·exact .inl ⟨k1,z,t,rfl⟩
   ·exact g3 v hv
  ·obtain⟨a,o,its,n,fv,fx,rfl,e5,e6,e7,e8,hf,rf⟩:=mk _ _ e
   simp only[Dat] at hf;subst hf;obtain⟨t,rfl⟩:=rf;refine⟨_::fs,PySem.W.KatTups.cons e5 e6 e7 e8 g1,by simp[g2],fun v hv=>?_⟩
   rcases zay.mp hv with rfl|hv
   ·exact .inr ⟨k1,z,t,rfl⟩
   ·exact g3 v hv
end
section
variable{X:Cx}{pins:List (Addr×Obj)}{σ:St}{H:Hp}{s:Shared}{A:Around}
theorem qf.same{k:Bool}{ds es:List D}(h1:qf k (.tup ds))(h2:qf k (.tup es)):Ba ds es=true:=by
 obtain⟨r,⟨k1,z,e⟩|⟨k1,z,e⟩⟩:=h1
 ·obtain⟨r',⟨k2,z',e'⟩|⟨k2,z',e'⟩⟩:=h2
  ·cases e;cases e';rfl
  ·rw[k1] at k2;cases k2
 ·obtain⟨r',⟨k2,z',e'⟩|⟨k2,z',e'⟩⟩:=h2
  ·rw[k1] at k2;cases k2
  ·cases e;cases e';rfl
theorem qf.tup{k:Bool}{d:D}(h:qf k d):∃ds,d=.tup ds:=by
 obtain⟨r,⟨_,z,e⟩|⟨_,z,e⟩⟩:=h
 ·exact⟨_,e⟩
 ·exact⟨_,e⟩
theorem G6(I:Inv X pins σ H s){n:Nat}(hu:A.units+n<cLine){k:Bool}{W:List D}{xs:List V}{vs:List Value}{c:Nat->Nat->Bool}(hk:∀d∈W,qf k d)(hd:bW W<=n)(hx:ao H W xs)(r:ay xs vs)(hc:∀d∈W,∀e∈W,cmD d e=true)(hl:∀i j,i<W.length->j<W.length->c i j=ltD (W.getD i .non) (W.getD j .non)):BH X.prog X.w A s.heap s vs c true:=by
 have inv:∀h,tw s.heap h->Inv X pins σ H { s with heap:=h }:=fun h kh=>I.kept (t':=s.toks) fun b o e=>kh b o e;have hlen:vs.length=W.length:=by rw[←r.length,hx.length]
 refine⟨fun h kh=>?_,fun h kh i j hi hj C E q=>?_⟩
 ·obtain⟨fs,f1,f2,f3⟩:=pV (inv h kh) hk hx r
  cases k with
  |true=>
   refine⟨fs,.type "str",f1,f2,fun v hv=>?_,rfl,rfl⟩;rcases f3 v hv with⟨_,z,t,rfl⟩|⟨k1,_⟩
   ·exact PySem.W.Looks.now
   ·cases k1
  |false=>
   refine⟨fs,.type "int",f1,f2,fun v hv=>?_,rfl,rfl⟩;rcases f3 v hv with⟨k1,_⟩|⟨_,z,t,rfl⟩
   ·cases k1
   ·exact PySem.W.Looks.now
 ·have J:=inv h kh
  have at':∀i,i<vs.length->∃a ds ys its o m,W.getD i .non=.tup ds/\D.tup ds∈W/\vs.getD i Value.none=.ref a/\ao H ds ys/\ay ys its/\h.get? a=some o/\o.data=.seq its.toArray m:=fun i hi=>by
   have hw:i<W.length:=by omega
   have hm:W[i]∈W:=zaE hw;obtain⟨ds,e⟩:=(hk _ hm).tup;obtain⟨x,ex,dx⟩:=hx.get (zae hw);obtain⟨u,eu,ru⟩:=r.get ex;rw[e] at dx hm;simp only[Dat] at dx;obtain⟨a,ys,rfl,ha,hys⟩:=dx;cases ru;obtain⟨_,its,r4,⟨o,e5,e6,m,e7⟩,_⟩:=(show bb X.prog X.w H h a (.tup ys) from J.hok a _ ha)
   exact⟨a,ds,ys,its,o,m,by rw[zag,zae hw,e];rfl,hm,by rw[zag,eu];rfl,hys,r4,e5,e7⟩
  obtain⟨a1,ds,ys,its,o1,m1,w1,i1,v1,d1,r1,g1,b1⟩:=at' i hi;obtain⟨a2,es,zs,jts,o2,m2,w2,i2,v2,d2,r2,g2,b2⟩:=at' j hj;rw[hl i j (by omega) (by omega),w1,w2] at q
  rw[v1,v2];refine PySem.W.kat_lt g1 b1 g2 b2 ?_
  have dd:bW ds<=n:=by
   have:=fL i1;simp only[dep] at this;omega
  have:=vE (Q:=C) J hu (b:=true) 0 dd d1 d2 r1 r2 (hc _ i1 _ i2) (fun _=>(hk _ i1).same (hk _ i2)) q;simpa using this
end
theorem m8{H:Hp}{W:List D}{xs:List V}(h:ao H W xs):∀ {l:List Nat},(∀i∈l,i<W.length)->ao H (l.map fun i=>W.getD i .non) (l.map fun i=>xs.getD i .non)
 | [],_=>by simp[ao]
 |i::l,q=>by
  have hi:=q i (zau ..);obtain⟨x,e,hx⟩:=h.get (zae hi);simp only[zah,ao];refine⟨_,_,rfl,?_,m8 h fun j hj=>q j (zar _ hj)⟩;rw[zag,zag,e,zae hi];exact hx
structure Srt(W:List D)(key:D->List Int)(k:Bool):Prop where
 row:∀d∈W,qf k d
 cmp:∀d∈W,∀e∈W,cmD d e=true
 lt:∀d∈W,∀e∈W,ltD d e=bU (key d) (key e)
theorem ie:∀a b:List Int,fA (a.map D.int) (b.map D.int)=true
 | [],_=>by simp[fA]
 |_::_,[]=>by simp[fA]
 |x::xs,y::ys=>by
  simp only[zah,fA];split
  ·exact ie xs ys
  ·rfl
end L2
namespace L2
open PySem PySem.Spec PyProof PyProof.Rows PySem.SeqAt
section
variable{K:W.Frag}{x qual:Str}{st:Stmt}{f:Addr}{fd:FuncData}
theorem Fun.KH{p0:Str}(F:Fun K x qual st f fd)(h:∀(kV doc pm:Value)(an:Option Addr)(cdv ct:Value)(u0:Value),bindArgs (W.fnOf x qual (defArgs st) (defBody st) (defScope st) .none kV doc pm an cdv ct) ⟨[u0],[]⟩=pure ([p0].zip [u0])):bq K fd [p0] []:=
 F.binds fun a b c d e g=>Gy (h a b c d e g)
theorem Fun.KB{p0 p1:Str}(F:Fun K x qual st f fd)(h:∀(kV doc pm:Value)(an:Option Addr)(cdv ct:Value)(u0 u1:Value),bindArgs (W.fnOf x qual (defArgs st) (defBody st) (defScope st) .none kV doc pm an cdv ct) ⟨[u0,u1],[]⟩=pure ([p0,p1].zip [u0,u1])):bq K fd [p0,p1] []:=
 F.binds fun a b c d e g=>Ih (h a b c d e g)
theorem Fun.KN{p0 p1 p2:Str}(F:Fun K x qual st f fd)(h:∀(kV doc pm:Value)(an:Option Addr)(cdv ct:Value)(u0 u1 u2:Value),bindArgs (W.fnOf x qual (defArgs st) (defBody st) (defScope st) .none kV doc pm an cdv ct) ⟨[u0,u1,u2],[]⟩=pure ([p0,p1,p2].zip [u0,u1,u2])):bq K fd [p0,p1,p2] []:=
 F.binds fun a b c d e g=>Hb (h a b c d e g)
theorem Fun.K2{p0 p1 p2 p3:Str}(F:Fun K x qual st f fd)(h:∀(kV doc pm:Value)(an:Option Addr)(cdv ct:Value)(u0 u1 u2 u3:Value),bindArgs (W.fnOf x qual (defArgs st) (defBody st) (defScope st) .none kV doc pm an cdv ct) ⟨[u0,u1,u2,u3],[]⟩=pure ([p0,p1,p2,p3].zip [u0,u1,u2,u3])):bq K fd [p0,p1,p2,p3] []:=
 F.binds fun a b c d e g=>J7 (h a b c d e g)
end
end L2
namespace L2
open PySem PySem.Spec PyProof.Rows
end L2
namespace L2
open PySem PySem.Spec PySem.Calls PyProof.Rows PySem.W
end L2
namespace L2
open PySem PySem.Spec PyProof.Rows
structure fD(K:W.Frag)(x:Str)(st:Stmt)(a:Addr)(fd:FuncData):Prop where
 g:W.nsIn K mainGlobals x=some (some (.ref a))
 f:Fun K x x st a fd
 e:W.keepIn K (.ref a)=true
theorem Jf{K:W.Frag}{x:Str}{st:Stmt}{a:Addr}{oc:Value}{od an:Option Addr}{osl:Array (Option Value)}{kV doc pm cdv ct:Value}(g:W.nsIn K mainGlobals x=some (some (.ref a)))(l:K.lookup a=some ⟨oc,od,.func (W.fnOf x x (defArgs st) (defBody st) (defScope st) .none kV doc pm an cdv ct),osl⟩)(c:W.codeIn K cdv x=true)(e:W.keepIn K (.ref a)=true):fD K x st a (W.fnOf x x (defArgs st) (defBody st) (defScope st) .none kV doc pm an cdv ct):=⟨g,uP l c e,e⟩
theorem fsc{N P:List Str}{sc:Scope}(a:sc.kind=.function)(b:sc.isCoroutine=false)(c:sc.isGenerator=false)(h:N.Nodup/\N.take P.length=P/\(∀x∈P,sc.names.lookup x=some .local\/sc.names.lookup x=some .cell)/\∀y∈sc.names,y.2≠.free):aK N P sc:=⟨a,b,c,h.1,h.2.1,h.2.2.1,h.2.2.2⟩
end L2
namespace L2
open PySem PySem.Spec PyProof.Rows
open AutoSeq1 (wpAny_loadPart')
end L2
namespace L2
open PySem PySem.Spec PyProof.Rows
noncomputable def HJ(i:Nat)(t:AE)(o:A2):AS:=fun D ρ Z=>∃x,ρ[i]?=some (some x)/\t ρ Z fun y Z1=>o x y Z1 fun z Z2=>D.nx (ρ.set i (some z)) Z2
theorem yt(i:Nat)(t:AE)(o:A2)(D:bj)(ρ:SA)(Z:Om):HJ i t o D ρ Z=(∃x,ρ[i]?=some (some x)/\t ρ Z fun y Z1=>o x y Z1 fun z Z2=>D.nx (ρ.set i (some z)) Z2):=rfl
theorem JF{i:Nat}{te:TE}{te':AE}{r:R2}{r':A2}(h2:f6 r r')(h:aD te te'):eB (IH i te r) (HJ i te' r'):=⟨fun F H Z σ ρ D D' rp rs w k=>by
 obtain⟨x,e,w⟩:=w;obtain⟨v,e1,e2⟩:=rs.2 i x e;refine⟨v,e1,h.go rp rs w fun y Z1 u H1 rp1 fr1 rs1 rv1 q1=>?_⟩;refine h2.run F H1 Z1 v u x y _ _ rp1 (e2.same fr1.same) rv1 q1 fun z Z2 v2 H2 rp2 fr2 rv2 q=>?_
 exact k.nx _ Z2 _ H2 rp2 (fr1.trans fr2) ((rs1.same fr2.same).set rv2) q⟩
section
open PySem.SeqAt
open PySem.AutoSeq1 (wpAny_loadPart')
open PySem.MeetsSeq PySem.MeetsSeq2 PySem.MeetsSeq3
open HT
end
end L2
namespace L2
open PySem PySem.Spec PyProof.Rows
open PySem.Builtin.Str
noncomputable def pb(l:List Nat):Nat->List Nat->List (List Nat)
 |s,[]=>[l.drop s]
 |s,k::ks=>(l.drop s).take (k-s)::pb l (k+1) ks
end L2
namespace L2
open PySem PySem.Spec PyProof.Rows
end L2
namespace L2
open PySem PySem.Spec PySem.Calls PyProof.Rows PySem.W PySem.Builtin PySem.Builtin.ObjectAttr
section
variable{prog:Program}{w:World}{A:Around}{E:Value->Shared->Prop}{s:Shared}{K:Frag}{x C:Addr}{o:Obj}{name:Str}{v:Value}
structure JP(h h':Heap)(e:Addr)(o:Obj)(v:Value):Prop where
 at_:∃dx,h'.get? e=some { o with dict:=some dx }/\h'.Ns1 dx (fun y=>if y=("at":Str) then some v else none)/\h.get? dx=none/\h.objs.size<=dx
 keep:∀b u,b≠e->h.get? b=some u->h'.get? b=some u
end
end L2
namespace L2
open PySem PySem.Spec PyProof.Rows PySem.W
noncomputable def enC(C n:Nat):Nat:=(C+n)*(C+n)+n
noncomputable def atM(n:Nat)(tk:Tok):Str->Option Value:=fun y=>if y=("at":Str) then some (.int n tk) else none
structure HQ(h:Heap)(e dx:Addr)(n:Nat):Prop where
 ob:∃o,h.get? e=some o/\o.dict=some dx
 ns:∃tk,h.Ns1 dx (atM n tk)
noncomputable def CXn(P:Program)(w:World):CXT:=fun outer H s E e s'=>∃(a C t n dx:Addr)(H':Hp)(B:Heap),e=.ref a/\s'.os=s.os/\AllBare s'.gens/\Un (frs outer) [] H H' s.heap s'.heap/\HOk P w H' B /\
 Heap.FlyingW B outer a (.ref C) (.ref t) s'.heap/\(∀b o,s.heap.get? b=some o->H b=none->b ∉ frs outer->B.get? b=some o)/\(∀b o,s.heap.get? b=some o->b ∉ frs outer->∃o',B.get? b=some o')/\HQ s'.heap a dx n/\B.get? dx=none/\dx ∉ frs outer/\E (.ref a) (some (enC C n)) H'
structure Km(h h':Heap)(e C t n dx:Addr):Prop where
 keeps:∀b o,h.get? b=some o->h'.get? b=some o
 new:h.get? e=none
 there:h'.get? e=some ⟨.ref C,some dx,.fields #[.ref t,.none,.none,.none,.bool false,.none],#[]⟩
 dnew:h.get? dx=none
 ns:∃tk,h'.Ns1 dx (atM n tk)
end L2
namespace L2
open PySem PySem.Spec PySem.Calls PyProof.Rows PySem.W
end L2
namespace L2
open PySem PySem.Spec PySem.Calls PyProof.Rows PySem.W PySem.Builtin PySem.Builtin.ObjectAttr PySem.Builtin.Getset_descriptor
end L2
namespace L2
open PySem PySem.Spec PyProof.Rows
structure Ku(E:XK){α β:Type}(R:Hp->α->β->Prop)(t:St->Hp->(β->Hp->Prop)->Prop)(t':SA->Om->(α->Om->Prop)->(Addr->Om->Prop)->Prop):Prop where
 run:∀(F:Fs)(H:Hp)(Z:Om)(σ:St)(ρ:SA)(Q:β->Hp->Prop)(Q':α->Om->Prop)(Ex:Addr->Om->Prop),Rep F H Z->RS (cut F H Z) ρ σ->t' ρ Z Q' Ex->LP R F H Z Q' Q->LX F H Z Ex E->t σ H Q
noncomputable abbrev AEX:=SA->Om->(AV->Om->Prop)->(Addr->Om->Prop)->Prop
noncomputable abbrev AAX:=SA->Om->(List AV->Om->Prop)->(Addr->Om->Prop)->Prop
end L2
namespace L2
open PySem PySem.Spec PySem.Calls PyProof.Rows PySem.W
structure Ks(P:Program)(w:World)(K:W.Frag)(mg:Str->Option Value)(base:Heap)(H₀:Hp)(k:Nat)(f:Addr)(n:Nat)(sp:Sp):Prop where
 fn:∃(oc:Value)(od:Option Addr)(fd:FuncData) (sl:Array (Option Value)) (u:HO),H₀ f=some (.frz ⟨oc,od,.func fd,sl⟩ u)
 len:∀vs H Q E,sp vs H Q E->vs.length=n
 run:∀(A:Around)(outer:List Env)(s:Shared)(H:Hp)(us:List Value)(vs:List V)(Q:VK)(E:XK),cw k A->tS P w K mg base A outer s H->Frz H₀ H->ay vs us->sp vs H Q E ->
  codeAny (model P w) A (.call (.ref f) ⟨us,[]⟩) (CR (CXn P w) outer P w H s Q E) s
end L2
namespace L2
open PySem PySem.Spec PyProof.Rows
open PySem.Builtin.Str
end L2
namespace L2
open PySem PySem.Spec PyProof.Rows
end L2
namespace L2
open PySem
open PySem.SetTable (below insertAt has runEnd leap bits turns)
noncomputable def J4(xs:Array Nat):Prop:=xs.toList.Pairwise (· < ·)
open PySem.SetTable in
noncomputable def HM(m:Nat)(p:SetTable.Probe):SetTable.Probe:=
 if p.more>0 then { p with j:=p.j+1,more:=p.more-1 } else
 { p with j:=(leap m p.i p.perturb).1,more:=runEnd m (leap m p.i p.perturb).1-(leap m p.i p.perturb).1,i:=(leap m p.i p.perturb).1,perturb:=(leap m p.i p.perturb).2 }
noncomputable def GJ(m:Nat)(h:Int):SetTable.Probe:={ j:=bits h%(m+1),more:=runEnd m (bits h%(m+1))-bits h%(m+1),i:=bits h%(m+1),perturb:=bits h,dummy:=none }
noncomputable def tN(m:Nat)(h:Int):Nat->SetTable.Probe
 |0=>GJ m h
 |n+1=>HM m (tN m h n)
noncomputable def f5(m i:Nat):Nat:=(i*5+1)%(m+1)
noncomputable def HY:List Nat:=[7,31,127]
end L2
namespace L2
open PySem
open PySem.SetTable (below insertAt has runEnd leap bits turns)
structure Tb(t:SetTable)(hs:List Int):Prop where
 ris:J4 t.place
 dum:t.dummies=#[]
 siz:t.place.size=hs.length
 msk:t.mask∈HY
 le:∀j∈t.place.toList,j<=t.mask
 few:hs.length*5<t.mask*3
 rch:∀(i j:Nat)(h:Int),t.place[i]?=some j->hs[i]?=some h->∃n,(tN t.mask h n).j=j/\∀q,q<n->(tN t.mask h q).j∈t.place.toList
end L2
namespace L2
open PySem
open PySem.SetTable (below insertAt has runEnd leap bits turns layClean)
noncomputable def IU(o:Array (Option Nat))(j:Nat):Prop:=∃k,o[j]?=some (some k)
structure Own(m:Nat)(hs:List Int)(o:Array (Option Nat)):Prop where
 siz:o.size=m+1
 prm:(o.toList.filterMap id).Perm (List.range hs.length)
 rch:∀(j k:Nat)(h:Int),o[j]?=some (some k)->hs[k]?=some h->∃n,(tN m h n).j=j/\∀q,q<n->IU o (tN m h q).j
end L2
namespace L2
open PySem PySem.Spec PyProof.Rows
open PySem.SetTable (below insertAt turns)
structure SK(prog:Program)(w:World)(K:Type)[DecidableEq K] where
 is:Heap->K->Addr->Prop
 hash:K->Int
 draws:K->Nat
 frame:∀ {h h':Heap} {k:K} {b:Addr},is h k b->(∀c o,h.get? c=some o->o.cls=.type "tuple"->h'.get? c=some o)->is h' k b
 pyHash:∀ {A:Around} {E:Value->Shared->Prop} {s:Shared} {Q:Int->Shared->Prop} {k:K} {b:Addr},A.units+100<cLine->is s.heap k b->Q (hash k) { s with toks:=s.toks+draws k }->wpAny (model prog w) A (pyHash (.ref b)) Q E s
 eqBool:∀ {A:Around} {E:Value->Shared->Prop} {s:Shared} {Q:Bool->Shared->Prop} {k l:K} {a b:Addr},A.units+100<cLine->is s.heap k a->is s.heap l b->Q (decide (k=l)) s->wpAny (model prog w) A (PySem.eqBool (.ref a) (.ref b)) Q E s
 quiet:∀ {A:Around} {E:Value->Shared->Prop} {s:Shared} {Q:Bool->Shared->Prop} {k:K} {b:Addr},is s.heap k b->Q true s->wpAny (model prog w) A (eqIsQuiet 8 (.ref b)) Q E s
 noCl:∀ {A:Around} {E:Value->Shared->Prop} {s:Shared} {Q:Bool->Shared->Prop} {k:K} {b:Addr},is s.heap k b->Q false s->wpAny (model prog w) A (ofAClassStatement 8 (.ref b)) Q E s
 byV:∀ {A:Around} {E:Value->Shared->Prop} {s:Shared} {Q:Bool->Shared->Prop} {k:K} {b:Addr},is s.heap k b->Q true s->wpAny (model prog w) A (hashByValue 8 (.ref b)) Q E s
section
variable{prog:Program}{w:World}{K:Type}[DecidableEq K](knd:SK prog w K)
inductive Els (h:Heap):List (Int×Value)->List K->Prop
 |nil:Els h [] []
 |cons {k:K} {b:Addr} {l:List (Int×Value)} {ks:List K}:knd.is h k b->Els h l ks->Els h ((knd.hash k,.ref b)::l) (k::ks)
variable{knd}
variable(knd) in
variable{A:Around}{E:Value->Shared->Prop}{s:Shared}
end
end L2
set_option maxRecDepth 1000000
set_option maxHeartbeats 4000000
namespace L2
open PySem PySem.Spec PyProof.Rows
open PySem.SetTable (below)
end L2
namespace L2
open PySem PySem.Spec PyProof.Rows
end L2
set_option maxHeartbeats 8000000
namespace L2
open PySem PySem.Spec PyProof.Rows
end L2
set_option maxHeartbeats 4000000
namespace L2
open PySem PySem.Spec PyProof.Rows
section
variable{prog:Program}{w:World}{A:Around}{E:Value->Shared->Prop}{s:Shared}
theorem Cc(n:Nat){k:Int}{v:Value}(h:(intKind prog w).is k v=true):ofAClassStatement n v=pure false:=by
 cases v with
 |ref a=>exact absurd ((intKind prog w).byValue _ _ h) (by simp[carriedByValue])
 |_=>cases n<;>rfl
theorem DI(n:Nat){k:Int}{v:Value}(h:(intKind prog w).is k v=true):hashByValue n v=pure true:=by
 have:∃t,v=.int k t:=by
  cases v<;>simp[intKind,Value.isInt] at h
  subst h;exact⟨_,rfl⟩
 obtain⟨t,rfl⟩:=this;cases n<;>rfl
end
section
variable{prog:Program}{w:World}{A:Around}{E:Value->Shared->Prop}{s:Shared}
theorem lm:∀ {x:List Int} {vs:List Value},Zs vs x->ItemsAre (intKind prog w) x vs
 | [],[],_=>.nil
 |n::ns,v::vs,h=>by
  obtain⟨⟨t,rfl⟩,h2⟩:=h;exact .cons (by simp[intKind,Value.isInt]) (lm h2)
 | [],_::_,h=>h.elim
 |_::_,[],h=>h.elim
end
theorem cw.Ll{k:Nat}{A:Around}(r:cw k A):A.units+130<cLine:=by have:=r.un;omega
end L2
set_option maxRecDepth 100000
set_option maxHeartbeats 1000000
namespace L2
open PySem PySem.Spec PySem.Calls PyProof PyProof.Rows
section
variable{prog:Program}{w:World}{A:Around}{E:Value->Shared->Prop}{s:Shared}{κ:SortKind}{it:Array Keyed}{c:Nat->Nat->Bool}{n:Nat}
noncomputable def kK(prog:Program)(w:World)(A:Around)(s:Shared)(κ:SortKind)(it:Array Keyed)(n:Nat)(c:Nat->Nat->Bool):Prop:=
 ∀i j,i<n->j<n->∀(C:Bool->Shared->Prop)(E:Value->Shared->Prop),C (c i j) s->wpAny (model prog w) A (keyLt' κ (W.kas_item it i).1 (W.kas_item it j).1) C E s
structure Stt(κ:SortKind)(it:Array Keyed)(p:Array Nat)(st:SortSt):Prop where
 k:kindOf st=κ
 a:arrOf st=p.map (W.kas_item it)
 f:failedOf st=none
theorem sX(hA:kK prog w A s κ it n c){i j:Nat}(hi:i<n)(hj:j<n){st:SortSt}{Q:Option Bool->SortSt->Prop}(hk:kindOf st=κ)(h:Q (some (c i j)) st):
  wpS (model prog w) A E s (lt' (W.kas_item it i) (W.kas_item it j)) Q st:=by
 rw[lt'_eq];refine zai (wpS_get ?_);rw[hk];refine zai (wpS_lift (wpAny_attempt (hA i j hi hj _ _ ⟨rfl,?_⟩)));exact zap h
theorem jr{q:Array Nat}{i:Nat}{st:SortSt}{Q:Keyed->SortSt->Prop}(hi:i<q.size)(h:Q (W.kas_item it (q.getD i 0)) st):
  wpS (model prog w) A E s (elem' (q.map (W.kas_item it)) i) Q st:=by
 rw[elem'_eq,Array.getElem?_map,zbN hi,show q[i]=q.getD i 0 by simp[Array.getD,hi]]
 exact zap h
noncomputable def Iu:Bool->Keyed->Array Keyed->Nat->Nat->Nat->StateT SortSt Sem (Option Nat):=sortPriv% PySem.Builtin.gallop
noncomputable def gB(c:Nat->Nat->Bool)(left:Bool)(x:Nat)(q:Array Nat)(base i:Nat):Bool:=if left then c (q.getD (base+i) 0) x else !c x (q.getD (base+i) 0)
theorem yF(hA:kK prog w A s κ it n c){left:Bool}{x:Nat}{q:Array Nat}{base i:Nat}{st:SortSt}{Q:Option Bool->SortSt->Prop}(hk:kindOf st=κ)(hx:x<n)(hq:∀i,i<q.size->q.getD i 0<n)(hi:base+i<q.size)(h:Q (some (gB c left x q base i)) st):wpS (model prog w) A E s (elem' (q.map (W.kas_item it)) (base+i) >>= fun y=>if left=true then lt' y (W.kas_item it x) else lt' (W.kas_item it x) y >>= fun r=>pure (Option.map (fun b=>!b) r)) Q st:=by
 refine zai (jr hi ?_);unfold gB at h
 cases left with
 |true=>exact sX hA (hq _ hi) hx hk h
 |false=>exact zai (sX hA hx (hq _ hi) hk (zap h))
theorem kL(hA:kK prog w A s κ it n c){left:Bool}{x:Nat}{q:Array Nat}{base m hint:Nat}{st:SortSt}{Q:Option Nat->SortSt->Prop}(hk:kindOf st=κ)(hx:x<n)(hq:∀i,i<q.size->q.getD i 0<n)(hz:base+m<=q.size)(hh:hint<m)(mono:∀i j,i<=j->j<m->gB c left x q base j=true->gB c left x q base i=true)(h:∀k,k<=m->(∀j,j<k->gB c left x q base j=true)->(∀j,k<=j->j<m->gB c left x q base j=false)->Q (some k) st):
  wpS (model prog w) A E s (Iu left (W.kas_item it x) (q.map (W.kas_item it)) base m hint) Q st:=by
 have ask:∀i,i<m->∀ {Q:Option Bool->SortSt->Prop},Q (some (gB c left x q base i)) st->wpS (model prog w) A E s (elem' (q.map (W.kas_item it)) (base+i) >>= fun y=>if left=true then lt' y (W.kas_item it x) else lt' (W.kas_item it x) y >>= fun r=>pure (Option.map (fun b=>!b) r)) Q st:=
  fun i hi Q q=>yF hA hk hx hq (by omega) q
 generalize gB c left x q base=B at *
 have neg:∀i j,i<=j->j<m->B i=false->B j=false:=fun i j h1 h2 h3=>by
  cases hB:B j with
  |false=>rfl
  |true=>rw[mono i j h1 h2 hB] at h3;exact h3
 refine zai (ask hint hh ?_);dsimp only;cases hB:B hint
 case' true=>
  rw[zaf rfl];refine zai (zbW (zbu (a:=0) (b:=m) (I:=fun i r st'=>st'=st/\∃l o,r=(none,l,o)/\l<o/\i+1<=o/\hint+l<m/\B (hint+l)=true) (Q:=fun r st'=>st'=st/\∃l o,r=(none,l,o)/\l<o/\hint+l<m/\B (hint+l)=true/\(m-hint<=o\/B (hint+o)=false)) ?_ ?_ ⟨rfl,0,1,rfl,by omega,by omega,by omega,hB⟩) ?_)
  ·rintro i r st' _ him ⟨rfl,l,o,rfl,b1,b2,b3,b4⟩
   dsimp only;by_cases ho:o ≥ m-hint
   ·rw[zaf ho]
    exact zap ⟨rfl,l,o,rfl,b1,b3,b4,.inl ho⟩
   ·rw[zad ho]
    refine zai (ask _ (by omega) ?_)
    dsimp only
    cases hC:B (hint+o) with
    |true=>
     rw[zad (by decide)]
     exact zap ⟨rfl,o,2*o+1,rfl,by omega,by omega,by omega,hC⟩
    |false=>
     rw[zaf (by decide)]
     exact zap ⟨rfl,l,o,rfl,b1,b3,b4,.inr hC⟩
  ·rintro r st' ⟨rfl,l,o,rfl,b1,b2,b3,b4⟩
   exact⟨rfl,l,o,rfl,b1,b3,b4,.inl (by omega)⟩
  rintro _ st' ⟨rfl,l,o,rfl,b1,b3,b4,b5⟩
  obtain⟨L,H,eL,eH,c1,c2,c3,c4⟩:∃L H,hint+l+1=L/\hint+min o (m-hint)=H/\L<=H/\H<=m/\(∀j,j<L->B j=true)/\(∀j,H<=j->j<m->B j=false):=⟨_,_,rfl,rfl,by omega,by omega,fun j hj=>mono j _ (by omega) b3 b4,fun j hj hm=>by
   rcases b5 with b5|b5
   ·omega
   ·exact neg _ j (by omega) hm b5⟩
  dsimp only;rw[eL,eH]
 case' false=>
  rw[zad zat];refine zai (zbW (zbu (a:=0) (b:=m) (I:=fun i r st'=>st'=st/\∃l o,r=(none,l,o)/\l<o/\i+1<=o/\l<=hint/\B (hint-l)=false) (Q:=fun r st'=>st'=st/\∃l o,r=(none,l,o)/\l<o/\l<=hint/\B (hint-l)=false/\(hint+1<=o\/B (hint-o)=true)) ?_ ?_ ⟨rfl,0,1,rfl,by omega,by omega,by omega,hB⟩) ?_)
  ·rintro i r st' _ him ⟨rfl,l,o,rfl,b1,b2,b3,b4⟩
   dsimp only;by_cases ho:o ≥ hint+1
   ·rw[zaf ho]
    exact zap ⟨rfl,l,o,rfl,b1,b3,b4,.inl ho⟩
   ·rw[zad ho]
    refine zai (ask _ (by omega) ?_)
    dsimp only
    cases hC:B (hint-o) with
    |false=>
     rw[zad zat];exact zap ⟨rfl,o,2*o+1,rfl,by omega,by omega,by omega,hC⟩
    |true=>
     rw[zaf rfl];exact zap ⟨rfl,l,o,rfl,b1,b3,b4,.inr hC⟩
  ·rintro r st' ⟨rfl,l,o,rfl,b1,b2,b3,b4⟩
   exact⟨rfl,l,o,rfl,b1,b3,b4,.inl (by omega)⟩
  rintro _ st' ⟨rfl,l,o,rfl,b1,b3,b4,b5⟩
  obtain⟨L,H,eL,eH,c1,c2,c3,c4⟩:∃L H,hint+1-min o (hint+1)=L/\hint-l=H/\L<=H/\H<=m/\(∀j,j<L->B j=true)/\(∀j,H<=j->j<m->B j=false):=⟨_,_,rfl,rfl,by omega,by omega,fun j hj=>by
   rcases b5 with b5|b5
   ·omega
   ·exact mono j _ (by omega) (by omega) b5,fun j hj hm=>neg _ j hj hm b4⟩
  dsimp only;rw[eL,eH]
 all_goals
  clear eL eH b1 b3 b4 b5;refine zai (zbW (zbu (a:=0) (b:=m) (I:=fun i r st''=>st''=st'/\∃lo hi,r=(none,lo,hi)/\lo<=hi/\hi<=m/\hi-lo<=m-i/\(∀j,j<lo->B j=true)/\(∀j,hi<=j->j<m->B j=false)) (Q:=fun r st''=>st''=st'/\∃k,r=(none,k,k)/\k<=m/\(∀j,j<k->B j=true)/\(∀j,k<=j->j<m->B j=false)) ?_ ?_ ⟨rfl,L,H,rfl,c1,c2,by omega,c3,c4⟩) ?_)
  ·rintro i r st'' _ him ⟨rfl,lo,hi,rfl,b1,b2,b3,b4,b5⟩
   dsimp only;by_cases hlt:lo ≥ hi
   ·rw[zaf hlt]
    obtain rfl:lo=hi:=by omega
    exact zap ⟨rfl,lo,rfl,b2,b4,b5⟩
   ·rw[zad hlt]
    refine zai (ask _ (by omega) ?_)
    dsimp only
    cases hC:B (lo+(hi-lo) / 2) with
    |true=>
     rw[zaf rfl];exact zap ⟨rfl,_,_,rfl,by omega,b2,by omega,fun j hj=>mono j _ (by omega) (by omega) hC,b5⟩
    |false=>
     rw[zad zat];exact zap ⟨rfl,_,_,rfl,by omega,by omega,by omega,b4,fun j hj hm=>neg _ j hj hm hC⟩
  ·rintro r st'' ⟨rfl,lo,hi,rfl,b1,b2,b3,b4,b5⟩
   obtain rfl:lo=hi:=by omega
   exact⟨rfl,lo,rfl,b2,b4,b5⟩
  rintro _ st'' ⟨rfl,k,rfl,k1,k2,k3⟩;exact zap (h k k1 k2 k3)
end
section
variable{prog:Program}{w:World}{A:Around}{E:Value->Shared->Prop}{s:Shared}{κ:SortKind}{it:Array Keyed}{c:Nat->Nat->Bool}{n:Nat}
noncomputable def Sg(c:Nat->Nat->Bool)(p:Array Nat)(a b:Nat):Prop:=∀i j,a<=i->i<=j->j<b->c (p.getD j 0) (p.getD i 0)=false
noncomputable def Dg(c:Nat->Nat->Bool)(p:Array Nat)(a b:Nat):Prop:=∀i j,a<=i->i<=j->j<b->c (p.getD i 0) (p.getD j 0)=false
theorem cQ.self(L:cQ c)(i:Nat):c i i=false:=by
 cases h:c i i with
 |false=>rfl
 |true=>rw[L.as i i h] at h;cases h
theorem Sg.one(L:cQ c){p:Array Nat}{a:Nat}:Sg c p a (a+1):=fun i j h1 h2 h3=>by
 obtain rfl:i=j:=by omega
 exact L.self _
theorem Sg.next(L:cQ c){p:Array Nat}{a b:Nat}(h:Sg c p a b)(h1:a<b)(h2:c (p.getD b 0) (p.getD (b-1) 0)=false):Sg c p a (b+1):=fun i j hi hij hj=>by
 by_cases e:j<b
 ·exact h i j hi hij e
 ·obtain rfl:j=b:=by omega
  by_cases e2:i=j
  ·subst e2;exact L.self _
  ·exact L.tr _ _ _ (h i (j-1) hi (by omega) (by omega)) h2
theorem Dg.next(L:cQ c){p:Array Nat}{a b:Nat}(h:Dg c p a b)(h1:a<b)(h2:c (p.getD (b-1) 0) (p.getD b 0)=false):Dg c p a (b+1):=fun i j hi hij hj=>by
 by_cases e:j<b
 ·exact h i j hi hij e
 ·obtain rfl:j=b:=by omega
  by_cases e2:i=j
  ·subst e2;exact L.self _
  ·exact L.tr _ _ _ h2 (h i (j-1) hi (by omega) (by omega))
theorem Sg.eq{p q:Array Nat}{a b:Nat}(h:Sg c p a b)(e:∀k,a<=k->k<b->q.getD k 0=p.getD k 0):Sg c q a b:=fun i j hi hij hj=>by
 rw[e i hi (by omega),e j (by omega) hj]
 exact h i j hi hij hj
theorem bh{p:Array Nat}(h:Ord n p):p.size=n:=by simpa using h.size_eq
structure Nx(κ:SortKind)(it:Array Keyed)(n lo:Nat)(p:Array Nat)(st:SortSt)(p':Array Nat)(st':SortSt):Prop where
 o:Ord n p'
 s:Stt κ it p' st'
 d:pendingOf st'=pendingOf st
 l:∀k,k<lo->p'.getD k 0=p.getD k 0
theorem Nx.refl{lo:Nat}{p:Array Nat}{st:SortSt}(h:Ord n p)(hS:Stt κ it p st):Nx κ it n lo p st p st:=⟨h,hS,rfl,fun _ _=>rfl⟩
theorem iD(hA:kK prog w A s κ it n c){p:Array Nat}{st:SortSt}(ho:Ord n p)(hS:Stt κ it p st){i j:Nat}{Q:Option Bool->SortSt->Prop}(hi:i<n)(hj:j<n)(h:Q (some (c (p.getD i 0) (p.getD j 0))) st):wpS (model prog w) A E s (ltAt' i j) Q st:=by
 have hz:=bh ho;rw[ltAt'_eq];refine zai (wpS_get ?_);show wpS _ _ _ _ (do let x ← elem' (arrOf st) i;let y ← elem' (arrOf st) j;lt' x y) Q st
 rw[hS.a];exact zai (jr (by omega) (zai (jr (by omega) (sX hA (ho.lt (by omega) _) (ho.lt (by omega) _) hS.k h))))
theorem qZ{lo:Nat}{p p':Array Nat}{st st':SortSt}(hN:Nx κ it n lo p st p' st'){i j:Nat}{Q:Unit->SortSt->Prop}(hi:lo<=i)(hj:j<=n)(h:∀st'',Nx κ it n lo p st (W.kas_rev p' i j) st''->Q () st''):wpS (model prog w) A E s (reverseSlice' i j) Q st':=by
 have hz:=bh hN.o;rw[reverseSlice'_eq];refine wpS_modify (h _ ⟨hN.o.rev,⟨hN.s.k,?_,hN.s.f⟩,hN.d,fun k hk=>?_⟩)
 ·show mirror (arrOf st') i j _=_
  rw[hN.s.a];exact W.kas_swaps_map (W.kas_item it) (fun k=>i+k) (fun k=>j-1-k) _ p'
 ·rw[eU (by omega),zad (by omega)]
  exact hN.l k hk
theorem Cv(L:cQ c)(hA:kK prog w A s κ it n c){p:Array Nat}{st:SortSt}{lo a nrem:Nat}(f:Nat->AscSt->StateT SortSt Sem (ForInStep AscSt))(h1:1<=a)(ha:a<=nrem)(hs:Sg c p lo (lo+a))(hf:∀i m (Q:ForInStep AscSt->SortSt->Prop),m<nrem->(c (p.getD (lo+m) 0) (p.getD (lo+m-1) 0)=true->Q (.done (none,m)) st)->(c (p.getD (lo+m) 0) (p.getD (lo+m-1) 0)=false->Q (.yield (none,m+1)) st)->wpS (model prog w) A E s (f i (none,m)) Q st):
  wpS (model prog w) A E s (forIn [a:nrem] ((none,a):AscSt) f) (fun r st'=>st'=st/\∃m,r=(none,m)/\a<=m/\m<=nrem/\Sg c p lo (lo+m)/\(m=nrem\/c (p.getD (lo+m) 0) (p.getD (lo+m-1) 0)=true)) st:=by
 refine zbu (I:=fun x r st'=>st'=st/\r=(none,x)/\Sg c p lo (lo+x)) ?_ ?_ ⟨rfl,rfl,hs⟩
 ·rintro x r st' hax hx ⟨rfl,rfl,hs⟩
  refine hf _ _ _ hx (fun e=>⟨rfl,x,rfl,hax,by omega,hs,.inr e⟩) fun e=>⟨rfl,rfl,hs.next L (by omega) e⟩
 ·rintro r st' ⟨rfl,rfl,hs⟩
  rw[show max a nrem=nrem by omega] at hs ⊢
  exact⟨rfl,nrem,rfl,ha,zaj _,hs,.inl rfl⟩
theorem Ju{P:SortSt->Prop}{G:Prop}(R:SortSt->Prop)(k:(∀st,R st->P st)->G)(h:∀st,R st->P st):G:=k h
theorem AW(L:cQ c)(hA:kK prog w A s κ it n c){p:Array Nat}{st:SortSt}{lo nrem:Nat}{Q:Option Nat->SortSt->Prop}(h1:1<=nrem)(hz:lo+nrem<=n)(ho:Ord n p)(hS:Stt κ it p st)(h:∀m p' st',Nx κ it n lo p st p' st'->1<=m->m<=nrem->Sg c p' lo (lo+m)->Q (some m) st'):wpS (model prog w) A E s (countRun' lo nrem) Q st:=by
 refine zai (zbW (Cv (E:=E) L hA (p:=p) (st:=st) (lo:=lo) (a:=1) (nrem:=nrem) _ (zaj _) h1 (Sg.one L) fun i m Q hm q1 q2=>?_) ?_)
 ·refine zai (iD hA ho hS (by omega) (by omega) ?_)
  dsimp only
  cases e:c (p.getD (lo+m) 0) (p.getD (lo+m-1) 0) with
  |true=>rw[zaf rfl];exact zap (q1 e)
  |false=>rw[zad zat];exact zap (q2 e)
 rintro _ st' ⟨rfl,m,rfl,m1,m2,hs,hm⟩;dsimp only;by_cases hmn:m=nrem
 ·rw[zaf (by simpa using hmn)]
  exact zap (h m p st' (.refl ho hS) m1 m2 hs)
 rw[zad (by simpa using hmn)]
 have hm:=hm.resolve_left hmn
 have hN:¬ m>1->∃p1,Nx κ it n lo p st' p1 st'/\Dg c p1 lo (lo+(m+1)):=fun hm1=>⟨p,.refl ho hS,fun i j hi hij hj=>by
  by_cases e:i=j
  ·subst e;exact L.self _
  ·have e1:i=lo:=by omega
   have e2:j=lo+m:=by omega
   have e3:m=1:=by omega
   subst e1 e2 e3
   exact L.as _ _ hm⟩
 apply Ju (fun st1=>∃p1,Nx κ it n lo p st' p1 st1/\Dg c p1 lo (lo+(m+1)))
 ·intro key
  by_cases hm0:¬ m>1
  ·rw[zad hm0]
   generalize hst:st'=st4;exact key st4 (by rw[←hst];exact hN hm0)
  have hm1:=zbX.mp hm0;rw[zaf hm1];refine zai (iD hA ho hS (by omega) (by omega) ?_)
  dsimp only;cases hr:c (p.getD lo 0) (p.getD (lo+m-1) 0)
  case true=>
   rw[zaf rfl];exact zap (h m p st' (.refl ho hS) m1 m2 hs)
  rw[zad zat];refine zai (qZ (.refl ho hS) (zaj _) (by omega:lo+m<=n) fun st1 hN1=>?_)
  have hD:Dg c (W.kas_rev p lo (lo+m)) lo (lo+(m+1)):=fun i j hi hij hj=>by
   have all:∀k,lo<=k->k<lo+m->∀k',lo<=k'->k'<lo+m->c (p.getD k 0) (p.getD k' 0)=false:=fun k k1 k2 k' k3 k4=>
    L.tr _ _ _ (L.tr _ _ _ (hs k' (lo+m-1) k3 (by omega) (by omega)) hr) (hs lo k (zaj _) k1 k2)
   rw[eU (by rw[bh ho];omega),eU (by rw[bh ho];omega)]
   by_cases e:j<lo+m
   ·rw[zaf ⟨hi,by omega⟩,zaf ⟨by omega,e⟩]
    exact all _ (by omega) (by omega) _ (by omega) (by omega)
   ·obtain rfl:j=lo+m:=by omega
    by_cases e2:i=lo+m
    ·subst e2;rw[zad (by omega)];exact L.self _
    ·rw[zaf ⟨hi,by omega⟩,zad (by omega)]
     exact L.tr _ _ _ (L.as _ _ hm) (all _ (by omega) (by omega) _ (by omega) (by omega))
  exact key st1 ⟨_,hN1,hD⟩
 rintro st1 ⟨p1,hN1,hD⟩;refine zai (wpS_lift (zbF ⟨rfl,?_⟩))
 refine zai (zbW (zbu (a:=m+1) (b:=nrem) (I:=fun x r st2=>∃q p2,r=(none,x,q)/\Nx κ it n lo p st' p2 st2/\Dg c p2 lo (lo+x)/\q+1<=x/\(∀i j,lo+x-(q+1)<=i->i<lo+x->lo+x-(q+1)<=j->j<lo+x->c (p2.getD i 0) (p2.getD j 0)=false))
  (Q:=fun r st2=>∃x q p2,r=(none,x,q)/\m+1<=x/\x<=nrem/\Nx κ it n lo p st' p2 st2/\Dg c p2 lo (lo+x)/\q+1<=x/\(∀i j,lo+x-(q+1)<=i->i<lo+x->lo+x-(q+1)<=j->j<lo+x->c (p2.getD i 0) (p2.getD j 0)=false)) ?_ ?_ ⟨0,p1,rfl,hN1,hD,by omega,fun i j b1 b2 b3 b4=>by
   obtain rfl:i=j:=by omega
   exact L.self _⟩) ?_)
 ·rintro x r st2 hx1 hx2 ⟨q,p2,rfl,hN2,hD2,hq,hE⟩
  dsimp only;have sz:=bh hN2.o;refine zai (iD hA hN2.o hN2.s (by omega) (by omega) ?_)
  dsimp only
  cases e:c (p2.getD (lo+x) 0) (p2.getD (lo+x-1) 0) with
  |true=>
   rw[zaf rfl];have hD3:=hD2.next L (by omega) (L.as _ _ e)
   have one:∀i j,lo+(x+1)-(0+1)<=i->i<lo+(x+1)->lo+(x+1)-(0+1)<=j->j<lo+(x+1)->i=j:=fun i j b1 b2 b3 b4=>by omega
   by_cases hq0:q>0
   ·rw[zaf hq0]
    refine zai (qZ hN2 (by omega) (by omega) fun st3 hN3=>zap ⟨0,_,rfl,hN3,fun i j b1 b2 b3=>?_,by omega,fun i j b1 b2 b3 b4=>by rw[one i j b1 b2 b3 b4];exact L.self _⟩)
    have eqv:∀k,lo<=k->c ((W.kas_rev p2 (lo+x-(q+1)) (lo+x)).getD k 0) (p2.getD k 0)=false/\c (p2.getD k 0) ((W.kas_rev p2 (lo+x-(q+1)) (lo+x)).getD k 0)=false:=fun k _=>by
     rw[eU (by omega)]
     split
     ·exact⟨hE _ _ (by omega) (by omega) (by omega) (by omega),hE _ _ (by omega) (by omega) (by omega) (by omega)⟩
     ·exact⟨L.self _,L.self _⟩
    exact L.tr _ _ _ (eqv j (by omega)).2 (L.tr _ _ _ (hD3 i j b1 b2 b3) (eqv i b1).1)
   ·rw[zad hq0]
    exact zap ⟨0,p2,rfl,hN2,hD3,by omega,fun i j b1 b2 b3 b4=>by rw[one i j b1 b2 b3 b4];exact L.self _⟩
  |false=>
   rw[zad zat];refine zai (iD hA hN2.o hN2.s (by omega) (by omega) ?_)
   dsimp only
   cases e2:c (p2.getD (lo+x-1) 0) (p2.getD (lo+x) 0) with
   |true=>
    rw[zaf rfl];exact zap ⟨x,q,p2,rfl,hx1,by omega,hN2,hD2,hq,hE⟩
   |false=>
    rw[zad zat];refine zap ⟨q+1,p2,rfl,hN2,hD2.next L (by omega) e2,by omega,fun i j b1 b2 b3 b4=>?_⟩
    have last:∀k,lo+x-(q+1)<=k->k<=lo+x->c (p2.getD k 0) (p2.getD (lo+x-1) 0)=false/\c (p2.getD (lo+x-1) 0) (p2.getD k 0)=false:=fun k k1 k2=>by
     by_cases hk:k=lo+x
     ·subst hk;exact⟨e,e2⟩
     ·exact⟨hE _ _ k1 (by omega) (by omega) (by omega),hE _ _ (by omega) (by omega) k1 (by omega)⟩
    exact L.tr _ _ _ (last j (by omega) (by omega)).2 (last i (by omega) (by omega)).1
 ·rintro r st2 ⟨q,p2,rfl,hN2,hD2,hq,hE⟩
  rw[show max (m+1) nrem=nrem by omega] at hD2 hq hE ⊢
  exact⟨nrem,q,p2,rfl,by omega,zaj _,hN2,hD2,hq,hE⟩
 rintro _ st2 ⟨x,q,p2,rfl,x1,x2,hN2,hD2,hq,hE⟩;dsimp only;have sz:=bh hN2.o;by_cases hq0:q>0
 case' pos=>
  rw[zaf hq0];refine zai (qZ hN2 (by omega) (by omega) fun st3 hN3=>?_)
  have hD3:Dg c (W.kas_rev p2 (lo+x-(q+1)) (lo+x)) lo (lo+x):=fun i j b1 b2 b3=>by
   have eqv:∀k,lo<=k->c ((W.kas_rev p2 (lo+x-(q+1)) (lo+x)).getD k 0) (p2.getD k 0)=false/\c (p2.getD k 0) ((W.kas_rev p2 (lo+x-(q+1)) (lo+x)).getD k 0)=false:=fun k _=>by
    rw[eU (by omega)]
    split
    ·exact⟨hE _ _ (by omega) (by omega) (by omega) (by omega),hE _ _ (by omega) (by omega) (by omega) (by omega)⟩
    ·exact⟨L.self _,L.self _⟩
   exact L.tr _ _ _ (eqv j (by omega)).2 (L.tr _ _ _ (hD2 i j b1 b2 b3) (eqv i b1).1)
  generalize W.kas_rev p2 (lo+x-(q+1)) (lo+x)=p3 at *
 case' neg=>
  rw[zad hq0];obtain⟨p3,hN3,hD3⟩:∃p3,Nx κ it n lo p st' p3 st2/\Dg c p3 lo (lo+x):=⟨_,hN2,hD2⟩
 all_goals
  have sz:=bh hN3.o;refine zai (qZ hN3 (zaj _) (by omega) fun st4 hN4=>?_)
  have hs4:Sg c (W.kas_rev p3 lo (lo+x)) lo (lo+x):=fun i j hi hij hj=>by
   rw[eU (by omega),eU (by omega),zaf ⟨by omega,hj⟩,zaf ⟨hi,by omega⟩]
   exact hD3 _ _ (by omega) (by omega) (by omega)
  generalize W.kas_rev p3 lo (lo+x)=p4 at *;refine zai (zbW (Cv (E:=E) L hA (p:=p4) (st:=st4) (lo:=lo) _ (by omega) x2 hs4 fun i m Q hm q1 q2=>?_) ?_)
  ·refine zai (iD hA hN4.o hN4.s (by omega) (by omega) ?_)
   dsimp only
   cases e:c (p4.getD (lo+m) 0) (p4.getD (lo+m-1) 0) with
   |true=>rw[zaf rfl];exact zap (q1 e)
   |false=>rw[zad zat];exact zap (q2 e)
  ·rintro _ st5 ⟨rfl,m',rfl,k1,k2,hs,_⟩
   exact zap (h m' p4 st5 hN4 (by omega) k2 hs)
end
section
variable{prog:Program}{w:World}{A:Around}{E:Value->Shared->Prop}{s:Shared}{κ:SortKind}{it:Array Keyed}{c:Nat->Nat->Bool}{n:Nat}
theorem C6{lo:Nat}{p p':Array Nat}{st st':SortSt}(hN:Nx κ it n lo p st p' st'){i j:Nat}{Q:Unit->SortSt->Prop}(hj:lo<=j)(hij:j<=i)(hi:i<n)(h:∀st'',Nx κ it n lo p st (bubble p' i (i-j)) st''->Q () st''):wpS (model prog w) A E s (moveDown' i j) Q st':=by
 have hz:=bh hN.o;rw[moveDown'_eq];refine wpS_modify (h _ ⟨hN.o.bub,⟨hN.s.k,?_,hN.s.f⟩,hN.d,fun k hk=>?_⟩)
 ·show bubble (arrOf st') i _=_
  rw[hN.s.a];exact W.kas_swaps_map (W.kas_item it) (fun k=>i-k) (fun k=>i-k-1) _ p'
 ·rw[m9 (by omega) (by omega),zad (by omega),zad (by omega)]
  exact hN.l k hk
theorem Hx(L:cQ c)(hA:kK prog w A s κ it n c){p:Array Nat}{st:SortSt}{lo m ok:Nat}{Q:Bool->SortSt->Prop}(h1:1<=ok)(hm:ok<=m)(hz:lo+m<=n){p0:Array Nat}{st0:SortSt}(hN:Nx κ it n lo p0 st0 p st)(hs:Sg c p lo (lo+ok))(h:∀p' st',Nx κ it n lo p0 st0 p' st'->Sg c p' lo (lo+m)->Q true st'):wpS (model prog w) A E s (binarySort' lo m ok) Q st:=by
 refine zai (zbW (zbu (a:=max ok 1) (b:=m) (I:=fun k r st'=>r=(none,())/\∃p',Nx κ it n lo p0 st0 p' st'/\Sg c p' lo (lo+k)) (Q:=fun r st'=>r=(none,())/\∃p',Nx κ it n lo p0 st0 p' st'/\Sg c p' lo (lo+m)) ?_ ?_ ⟨rfl,p,hN,by rw[show max ok 1=ok by omega];exact hs⟩) ?_)
 ·rintro k r st' hk1 hk2 ⟨rfl,p',hN',hs'⟩
  have sz:=bh hN'.o
  refine zai (zbW (zbu (a:=0) (b:=k) (I:=fun x r st''=>st''=st'/\∃l u,r=(none,l,u)/\l<=u/\u<=k/\u-l<=k-x/\(∀i,i<l->c (p'.getD (lo+k) 0) (p'.getD (lo+i) 0)=false)/\(∀i,u<=i->i<k->c (p'.getD (lo+i) 0) (p'.getD (lo+k) 0)=false))
   (Q:=fun r st''=>st''=st'/\∃l u,r=(none,l,u)/\l<=k/\(∀i,i<l->c (p'.getD (lo+k) 0) (p'.getD (lo+i) 0)=false)/\(∀i,l<=i->i<k->c (p'.getD (lo+i) 0) (p'.getD (lo+k) 0)=false)) ?_ ?_ ⟨rfl,0,k,rfl,by omega,by omega,by omega,fun i hi=>by omega,fun i _ _=>by omega⟩) ?_)
  ·rintro x r st'' _ hxk ⟨rfl,l,u,rfl,b1,b2,b3,b4,b5⟩
   dsimp only;by_cases hge:l ≥ u
   ·rw[zaf hge]
    obtain rfl:l=u:=by omega
    exact zap ⟨rfl,l,l,rfl,b2,b4,b5⟩
   ·rw[zad hge]
    refine zai (iD hA hN'.o hN'.s (by omega) (by omega) ?_)
    dsimp only
    cases e:c (p'.getD (lo+k) 0) (p'.getD (lo+(l+u) / 2) 0) with
    |true=>
     rw[zaf rfl];exact zap ⟨rfl,l,(l+u) / 2,rfl,by omega,by omega,by omega,b4,fun i c1 c2=>L.tr _ _ _ (L.as _ _ e) (hs' (lo+(l+u) / 2) (lo+i) (by omega) (by omega) (by omega))⟩
    |false=>
     rw[zad zat];exact zap ⟨rfl,(l+u) / 2+1,u,rfl,by omega,by omega,by omega,fun i c1=>L.tr _ _ _ (hs' (lo+i) (lo+(l+u) / 2) (by omega) (by omega) (by omega)) e,b5⟩
  ·rintro r st'' ⟨rfl,l,u,rfl,b1,b2,b3,b4,b5⟩
   obtain rfl:l=u:=by omega
   exact⟨rfl,l,l,rfl,b2,b4,b5⟩
  rintro _ st'' ⟨rfl,l,u,rfl,b2,b4,b5⟩;dsimp only;refine zai (C6 hN' (by omega) (by omega) (by omega) fun st3 hN3=>zap ⟨rfl,_,hN3,fun i j c1 c2 c3=>?_⟩)
  rw[m9 (by omega) (by omega),m9 (by omega) (by omega),show lo+k-(lo+k-(lo+l))=lo+l by omega]
  have at4:∀i,lo<=i->i<lo+l->c (p'.getD (lo+k) 0) (p'.getD i 0)=false:=fun i d1 d2=>by
   have:=b4 (i-lo) (by omega)
   rwa [show lo+(i-lo)=i by omega] at this
  have at5:∀i,lo+l<=i->i<lo+k->c (p'.getD i 0) (p'.getD (lo+k) 0)=false:=fun i d1 d2=>by
   have:=b5 (i-lo) (by omega) (by omega)
   rwa [show lo+(i-lo)=i by omega] at this
  repeat' split
  all_goals first
   |(exfalso;omega)
   |exact L.self _
   |exact at4 _ (by omega) (by omega)
   |exact at5 _ (by omega) (by omega)
   |exact hs' _ _ (by omega) (by omega) (by omega)
 ·rintro r st' ⟨rfl,p',hN',hs'⟩
  rw[show max (max ok 1) m=m by omega] at hs'
  exact⟨rfl,p',hN',hs'⟩
 ·rintro _ st' ⟨rfl,p',hN',hs'⟩
  exact zap (h p' st' hN' hs')
end
section
variable{c:Nat->Nat->Bool}
noncomputable abbrev Up2(c:Nat->Nat->Bool)(l:List Nat):Prop:=l.Pairwise fun x y=>c y x=false
noncomputable def Bel(c:Nat->Nat->Bool)(l m:List Nat):Prop:=∀x∈l,∀y∈m,c y x=false
structure ML(c:Nat->Nat->Bool)(a b out:List Nat)(ia ib:Nat):Prop where
 pm:(out++(a.drop ia++b.drop ib)).Perm (a++b)
 so:Up2 c out
 la:Bel c out (a.drop ia)
 lb:Bel c out (b.drop ib)
noncomputable def Res(c:Nat->Nat->Bool)(a b res:List Nat):Prop:=res.Perm (a++b)/\Up2 c res
theorem rm{a:List Nat}{i:Nat}(h:i<a.length):a.drop i=a.getD i 0::a.drop (i+1):=by
 rw[zdx h];simp[h]
theorem cc{a:List Nat}(h:Up2 c a){i j:Nat}(hij:i<=j)(hj:j<a.length)(L:cQ c):c (a.getD j 0) (a.getD i 0)=false:=by
 by_cases e:i=j
 ·subst e;exact L.self _
 ·have:=zbO.mp h i j (by omega) hj (by omega)
  simpa[hj,show i<a.length by omega] using this
theorem gL{a:List Nat}{i:Nat}{z:Nat}(h:z∈a.drop i):∃j,i<=j/\j<a.length/\z=a.getD j 0:=by
 obtain⟨k,hk,rfl⟩:=List.mem_iff_getElem.mp h;rw[zcO] at hk;exact⟨i+k,by omega,by omega,by simp[show i+k<a.length by omega]⟩
theorem ML.len{a b out:List Nat}{ia ib:Nat}(h:ML c a b out ia ib)(ha:ia<=a.length)(hb:ib<=b.length):out.length+(a.length-ia)+(b.length-ib)=a.length+b.length:=by
 have:=h.pm.length_eq;simp only[zaw,zcO] at this;omega
theorem ML.KF{a b out:List Nat}{ia ib:Nat}(h:ML c a b out ia ib)(L:cQ c)(ua:Up2 c a)(hi:ia<a.length)(hz:∀j,ib<=j->j<b.length->c (b.getD j 0) (a.getD ia 0)=false):ML c a b (out++[a.getD ia 0]) (ia+1) ib:=by
 obtain⟨h1,h2,h3,h4⟩:=h;have e:=rm hi;rw[e] at h1 h3;refine⟨?_,?_,?_,?_⟩
 ·rw[zbM]
  exact h1
 ·refine zcK.mpr ⟨h2,List.pairwise_singleton _ _,fun x hx y hy=>?_⟩
  rw[zaT.mp hy];exact h3 x hx _ (zau ..)
 ·intro x hx y hy
  rcases zaL.mp hx with hx|hx
  ·exact h3 x hx y (zar _ hy)
  ·rw[zaT.mp hx]
   obtain⟨j,j1,j2,rfl⟩:=gL hy;exact cc ua (by omega) j2 L
 ·intro x hx y hy
  rcases zaL.mp hx with hx|hx
  ·exact h4 x hx y hy
  ·rw[zaT.mp hx]
   obtain⟨j,j1,j2,rfl⟩:=gL hy;exact hz j j1 j2
theorem ML.sym{a b out:List Nat}{ia ib:Nat}(h:ML c a b out ia ib):ML c b a out ib ia:=
 ⟨(zdh.append_left out).trans (h.pm.trans zdh),h.so,h.lb,h.la⟩
theorem ML.K3{a b out:List Nat}{ia ib:Nat}(h:ML c a b out ia ib)(L:cQ c)(ub:Up2 c b)(hi:ib<b.length)(hz:∀j,ia<=j->j<a.length->c (a.getD j 0) (b.getD ib 0)=false):ML c a b (out++[b.getD ib 0]) ia (ib+1):=
 (h.sym.KF L ub hi hz).sym
theorem ML.KI{a b out:List Nat}{ia ib:Nat}(h:ML c a b out ia ib)(L:cQ c)(ua:Up2 c a):∀(k:Nat),ia+k<=a.length->(∀i,i<k->∀j,ib<=j->j<b.length->c (b.getD j 0) (a.getD (ia+i) 0)=false)->ML c a b (out++(a.drop ia).take k) (ia+k) ib
 |0,_,_=>by simpa using h
 |k+1,hk,hz=>by
  have ih:=ML.KI h L ua k (by omega) fun i hi=>hz i (by omega)
  have:=ih.KF L ua (by omega) (hz k (by omega))
  rw[zbM] at this;rw[zbU,List.getElem?_drop,zae (by omega:ia+k<a.length)]
  simpa[show ia+k<a.length by omega,zcE] using this
theorem ML.Li{a b out:List Nat}{ia ib:Nat}(h:ML c a b out ia ib)(L:cQ c)(ub:Up2 c b)(k:Nat)(hk:ib+k<=b.length)(hz:∀i,i<k->∀j,ia<=j->j<a.length->c (a.getD j 0) (b.getD (ib+i) 0)=false):ML c a b (out++(b.drop ib).take k) ia (ib+k):=
 (h.sym.KI L ub k hk hz).sym
theorem ML.done{a b out:List Nat}{ia ib:Nat}(h:ML c a b out ia ib)(ua:Up2 c a)(ub:Up2 c b)(e:b.length<=ib\/a.length<=ia):Res c a b (out++a.drop ia++b.drop ib):=by
 refine⟨by rw[zbM];exact h.pm,?_⟩
 rcases e with e|e
 ·rw[zcw e,zaM]
  exact zcK.mpr ⟨h.so,ua.sublist (List.drop_sublist _ _),h.la⟩
 ·rw[zcw e,zaM]
  exact zcK.mpr ⟨h.so,ub.sublist (List.drop_sublist _ _),h.lb⟩
theorem ML.KS{a b out:List Nat}{ia ib:Nat}(h:ML c a b out ia ib)(ub:Up2 c b)(e:ia+1=a.length)(hl:∀y∈b,c (a.getD (a.length-1) 0) y=false):Res c a b (out++b.drop ib++a.drop ia):=by
 refine⟨by rw[zbM];exact(zdh.append_left out).trans h.pm,?_⟩
 refine zcK.mpr ⟨zcK.mpr ⟨h.so,ub.sublist (List.drop_sublist _ _),h.lb⟩,?_,fun x hx y hy=>?_⟩
 ·rw[rm (by omega),e,zcS]
  exact List.pairwise_singleton _ _
 ·rcases zaL.mp hx with hx|hx
  ·exact h.la x hx y hy
  ·obtain⟨j,j1,j2,rfl⟩:=gL hy
   obtain rfl:j=a.length-1:=by omega
   exact hl x (List.mem_of_mem_drop hx)
theorem ML.start{a b:List Nat}(L:cQ c)(ub:Up2 c b)(hb:0<b.length)(h0:∀x∈a,c x (b.getD 0 0)=false):ML c a b [b.getD 0 0] 0 1:=
 (show ML c a b [] 0 0 from ⟨.refl _,.nil,fun x hx=>(nomatch hx),fun x hx=>(nomatch hx)⟩).K3 L ub hb fun j _ hj=>h0 _ (by simp[hj])
end
section
variable{prog:Program}{w:World}{A:Around}{E:Value->Shared->Prop}{s:Shared}{κ:SortKind}{it:Array Keyed}{c:Nat->Nat->Bool}{n:Nat}
noncomputable def J9:Array Keyed->Array Keyed->StateT SortSt Sem (Array Keyed):=sortPriv% PySem.Builtin.mergeLo
noncomputable def Kk:Array Keyed->Array Keyed->StateT SortSt Sem (Array Keyed):=sortPriv% PySem.Builtin.mergeHi
structure Sm(st st':SortSt):Prop where
 k:kindOf st'=kindOf st
 a:arrOf st'=arrOf st
 d:pendingOf st'=pendingOf st
 f:failedOf st'=failedOf st
noncomputable abbrev a8(it:Array Keyed)(l:List Nat):Array Keyed:=(l.map (W.kas_item it)).toArray
theorem bd{l:List Nat}{i:Nat}{st:SortSt}{Q:Keyed->SortSt->Prop}(hi:i<l.length)(h:Q (W.kas_item it (l.getD i 0)) st):
  wpS (model prog w) A E s (elem' (a8 it l) i) Q st:=by
 rw[elem'_eq,show (a8 it l)[i]?=some (W.kas_item it (l.getD i 0)) by simp[a8,hi]]
 exact zap h
theorem cY(l:List Nat)(x:Nat):(a8 it l).push (W.kas_item it x)=a8 it (l++[x]):=by simp[a8]
theorem bX(l m:List Nat):a8 it l++a8 it m=a8 it (l++m):=by simp[a8]
theorem kR(l:List Nat):(a8 it l).size=l.length:=by simp[a8]
theorem kH(l:List Nat)(i:Nat):(a8 it l).extract i l.length=a8 it (l.drop i):=by
 apply Array.ext';simp only[a8,List.extract_toArray,List.extract_eq_drop_take,List.map_drop];rw[List.take_of_length_le (by simp)]
theorem yz(l:List Nat)(i k:Nat):(a8 it l).extract i (i+k)=a8 it ((l.drop i).take k):=by
 apply Array.ext';simp[a8,List.map_drop,List.map_take]
theorem Bu(l:List Nat):a8 it l=(l.toArray).map (W.kas_item it):=by simp[a8]
theorem l5(hA:kK prog w A s κ it n c){left:Bool}{x:Nat}{l:List Nat}{base m hint:Nat}{st:SortSt}{Q:Option Nat->SortSt->Prop}(hk:kindOf st=κ)(hx:x<n)(hq:∀i∈l,i<n)(hz:base+m<=l.length)(hh:hint<m)(B:Nat->Bool)(hB:∀i,i<m->B i=if left then c (l.getD (base+i) 0) x else !c x (l.getD (base+i) 0))(mono:∀i j,i<=j->j<m->B j=true->B i=true)(h:∀k,k<=m->(∀j,j<k->B j=true)->(∀j,k<=j->j<m->B j=false)->Q (some k) st):
  wpS (model prog w) A E s (Iu left (W.kas_item it x) (a8 it l) base m hint) Q st:=by
 rw[Bu]
 have e:∀i,i<m->gB c left x l.toArray base i=B i:=fun i hi=>by
  rw[hB i hi];unfold gB;simp[zaU]
 refine kL hA hk hx (fun i hi=>?_) (by simpa using hz) hh (fun i j h1 h2 h3=>?_) fun k h1 h2 h3=>h k h1 (fun j hj=>?_) fun j hj hm=>?_
 ·rw[show (l.toArray).getD i 0=l[i]'(by simpa using hi) by simp[Array.getD,show i<l.length by simpa using hi]]
  exact hq _ (zaE _)
 ·rw[e i (by omega)]
  rw[e j h2] at h3;exact mono i j h1 h2 h3
 ·rw[←e j (by omega)]
  exact h2 j hj
 ·rw[←e j hm]
  exact h3 j hj hm
theorem lN{g:Nat}{st0 st:SortSt}{Q:Unit->SortSt->Prop}(h:Sm st0 st)(q:∀st',Sm st0 st'->Q () st'):wpS (model prog w) A E s ((sortPriv% PySem.Builtin.setMinGallop) g) Q st:=
 wpS_modify (q _ ⟨h.k,h.a,h.d,h.f⟩)
theorem cJ{l:List Nat}{i:Nat}(h:i<l.length):l.getD i 0∈l:=by simp[h]
theorem EL{P:Nat->Prop}{G:Prop}(k:(∀g,P g)->G)(h:∀g,P g):G:=k h
theorem xh{P:List Nat->Nat->Prop}{G:Prop}(R:List Nat->Nat->Prop)(k:(∀x y,R x y->P x y)->G)(h:∀x y,R x y->P x y):G:=k h
theorem un4{α β γ δ ρ:Type}{f:α->β->γ->δ->ρ}{R:α->β->γ->δ->Prop}{P:ρ->Prop}(h:∀a b c d,R a b c d->P (f a b c d)):∀r,(∃a b c d,r=f a b c d/\R a b c d)->P r:=by
 rintro _ ⟨a,b,c,d,rfl,q⟩;exact h a b c d q
theorem un5{α β γ δ ε ρ:Type}{f:α->β->γ->δ->ε->ρ}{R:α->β->γ->δ->ε->Prop}{P:ρ->Prop}(h:∀a b c d e,R a b c d e->P (f a b c d e)):∀r,(∃a b c d e,r=f a b c d e/\R a b c d e)->P r:=by
 rintro _ ⟨a,b,c,d,e,rfl,q⟩;exact h a b c d e q
theorem un6{α β γ δ ε ζ ρ:Type}{f:α->β->γ->δ->ε->ζ->ρ}{R:α->β->γ->δ->ε->ζ->Prop}{P:ρ->Prop}(h:∀a b c d e g,R a b c d e g->P (f a b c d e g)):∀r,(∃a b c d e g,r=f a b c d e g/\R a b c d e g)->P r:=by
 rintro _ ⟨a,b,c,d,e,g,rfl,q⟩;exact h a b c d e g q
theorem Df{α β ρ:Type}{f:α->β->ρ}{R:α->β->Prop}{T P:ρ->Prop}(h:∀a b,R a b->P (f a b))(h2:∀r,T r->P r):∀r,((∃a b,r=f a b/\R a b)\/T r)->P r:=by
 rintro r (⟨a,b,rfl,q⟩|q)
 ·exact h a b q
 ·exact h2 r q
theorem Gu(L:cQ c)(hA:kK prog w A s κ it n c){a b:List Nat}{st:SortSt}{Q:Array Keyed->SortSt->Prop}(hk:kindOf st=κ)(ua:Up2 c a)(ub:Up2 c b)(an:∀i∈a,i<n)(bn:∀i∈b,i<n)(ha:0<a.length)(hb:0<b.length)(h0:∀x∈a,c x (b.getD 0 0)=false)(hl:∀y∈b,c (a.getD (a.length-1) 0) y=false)(h:∀res st',Sm st st'->Res c a b res->Q (a8 it res) st'):
  wpS (model prog w) A E s (J9 (a8 it a) (a8 it b)) Q st:=by
 refine zai (wpS_lift (zbF ⟨rfl,?_⟩));refine zai (bd hb ?_);have M0:ML c a b [b.getD 0 0] 0 1:=.start L ub hb h0;have e0:(#[W.kas_item it (b.getD 0 0)]:Array Keyed)=a8 it [b.getD 0 0]:=by simp[a8]
 dsimp only;rw[e0];simp only[kR,kH,bX];by_cases h1:1=b.length
 ·rw[zaf (by simpa using h1)]
  exact zap (h _ st ⟨rfl,rfl,rfl,rfl⟩ (M0.done ua ub (.inl (by omega))))
 rw[zad (by simpa using h1)]
 by_cases h2:0+1=a.length
 ·rw[zaf (by simpa using h2)]
  exact zap (h _ st ⟨rfl,rfl,rfl,rfl⟩ (M0.KS ub h2 hl))
 rw[zad (by simpa using h2)]
 refine zai (wpS_get ?_)
 refine zai (zbW (zbu (a:=0) (b:=a.length+b.length) (I:=fun x r st'=>∃out ia ib g,r=(none,a8 it out,ia,ib,g)/\ML c a b out ia ib/\ia+1<a.length/\ib<b.length/\x+1<=out.length/\Sm st st')
  (Q:=fun r st'=>∃res y,r=(some (a8 it res),y)/\Res c a b res/\Sm st st') ?_ ?_ ⟨_,_,_,_,rfl,M0,by omega,by omega,by simp,rfl,rfl,rfl,rfl⟩) ?_)
 rotate_left
 ·rintro r st' ⟨out,ia,ib,g,rfl,M,c1,c2,c3,_⟩
  have:=M.len (by omega) (by omega)
  omega
 ·rintro _ st' ⟨res,y,rfl,hr,hs⟩
  exact zap (h res st' hs hr)
 intro x r st1 _ _ h1;revert r;refine un4 fun out ia ib g hR=>?_;have M:=hR.1;have c1:=hR.2.1;have c2:=hR.2.2.1;have c3:=hR.2.2.2.1;have hs1:=hR.2.2.2.2;clear hR;dsimp only;have hk1:kindOf st1=κ:=hs1.k.trans hk
 refine zai (zbW (zbu (a:=0) (b:=a.length+b.length) (I:=fun y r st'=>∃out ia ib ac bc,r=(none,a8 it out,ia,ib,ac,bc)/\st'=st1/\ML c a b out ia ib/\ia+1<a.length/\ib<b.length/\x+1+y<=out.length)
  (Q:=fun r st'=>(∃res y,r=(some (a8 it res),y)/\st'=st1/\Res c a b res)\/∃out ia ib ac bc,r=(none,a8 it out,ia,ib,ac,bc)/\st'=st1/\ML c a b out ia ib/\ia+1<a.length/\ib<b.length/\x+2<=out.length) ?_ ?_ ⟨_,_,_,_,_,rfl,rfl,M,c1,c2,c3⟩) ?_)
 ·clear M c1 c2 c3
  intro y r st' _ _ h1;revert r;refine un5 fun out ia ib ac bc hR=>?_;have es:=hR.1;have M:=hR.2.1;have c1:=hR.2.2.1;have c2:=hR.2.2.2.1;have c3:=hR.2.2.2.2;have hk1:kindOf st'=κ:=by rw[es];exact hk1
  clear hR;dsimp only;refine zai (bd c2 (zai (bd (by omega) (zai (sX hA (bn _ (cJ c2)) (an _ (cJ (by omega))) hk1 ?_)))))
  dsimp only
  cases e:c (b.getD ib 0) (a.getD ia 0) with
  |true=>
   rw[zaf rfl];refine zai (bd c2 ?_);have M2:=M.K3 L ub c2 fun j j1 j2=>L.tr _ _ _ (L.as _ _ e) (cc ua j1 j2 L);simp only[cY,kH,bX];by_cases e1:ib+1=b.length
   ·rw[zaf (by simpa using e1)]
    exact zap (.inl ⟨_,_,rfl,es,M2.done ua ub (.inl (by omega))⟩)
   ·rw[zad (by simpa using e1)]
    split
    ·exact zap (.inr ⟨_,_,_,_,_,rfl,es,M2,c1,by omega,by simp;omega⟩)
    ·exact zap ⟨_,_,_,_,_,rfl,es,M2,c1,by omega,by simp;omega⟩
  |false=>
   rw[zad zat];refine zai (bd (by omega) ?_)
   have M2:=M.KF L ua (by omega) fun j j1 j2=>L.tr _ _ _ e (cc ub j1 j2 L)
   simp only[cY,kH,bX];by_cases e1:ia+1+1=a.length
   ·rw[zaf (by simpa using e1)]
    exact zap (.inl ⟨_,_,rfl,es,M2.KS ub e1 hl⟩)
   ·rw[zad (by simpa using e1)]
    split
    ·exact zap (.inr ⟨_,_,_,_,_,rfl,es,M2,by omega,c2,by simp;omega⟩)
    ·exact zap ⟨_,_,_,_,_,rfl,es,M2,by omega,c2,by simp;omega⟩
 ·rintro r st' ⟨out,ia,ib,ac,bc,e,es,M,c1,c2,c3⟩
  exact .inr ⟨_,_,_,_,_,e,es,M,c1,c2,by rw[show max 0 (a.length+b.length)=a.length+b.length by omega] at c3;omega⟩
 clear M c1 c2 c3 out ia ib;intro r st' h1;revert r;refine Df (fun res y hR=>zap ⟨_,_,rfl,hR.2,by rw[hR.1];exact hs1⟩) ?_
 refine un5 fun out ia ib ac bc hR=>?_;have hs1:Sm st st':=by rw[hR.1];exact hs1
 have M:=hR.2.1;have c1:=hR.2.2.1;have c2:=hR.2.2.2.1;have c3:=hR.2.2.2.2;clear hR;dsimp only;refine zai (wpS_lift (zbF ⟨rfl,?_⟩))
 refine zai (zbW (zbu (a:=0) (b:=a.length+b.length) (I:=fun y r st'=>∃out ia ib g ac bc,r=(none,a8 it out,ia,ib,g,ac,bc)/\Sm st st'/\ML c a b out ia ib/\ia+1<a.length/\ib<b.length/\x+2<=out.length)
  (Q:=fun r st'=>(∃res y,r=(some (a8 it res),y)/\Sm st st'/\Res c a b res)\/∃out ia ib g ac bc,r=(none,a8 it out,ia,ib,g,ac,bc)/\Sm st st'/\ML c a b out ia ib/\ia+1<a.length/\ib<b.length/\x+2<=out.length) ?_ ?_ ⟨_,_,_,_,_,_,rfl,hs1,M,c1,c2,c3⟩) ?_)
 rotate_left
 ·intro r st' h1
  exact .inr h1
 ·intro r st' h1
  revert r;refine Df (fun res y hR=>zap ⟨_,_,rfl,hR.2,hR.1⟩) ?_;exact un6 fun out ia ib g ac bc hR=>zai (lN hR.1 fun st3 hs3=>zap ⟨_,_,_,_,rfl,hR.2.1,hR.2.2.1,hR.2.2.2.1,hR.2.2.2.2,hs3⟩)
 clear M c1 c2 c3 out ia ib;intro y r st2 _ _ h1;revert r;refine un6 fun out ia ib g ac bc hR=>?_;have hs2:=hR.1;have M:=hR.2.1;have c1:=hR.2.2.1;have c2:=hR.2.2.2.1;have c3:=hR.2.2.2.2;clear hR;dsimp only;apply EL
 ·intro key
  by_cases hg:¬ g>1
  ·rw[zad hg]
   generalize g=g2;exact key g2
  ·rw[zaf (zbX.mp hg)]
   exact key (g-1)
 intro g;refine zai (lN hs2 fun st3 hs3=>?_);have hk3:kindOf st3=κ:=hs3.k.trans hk;refine zai (bd c2 ?_);refine zai (l5 hA hk3 (bn _ (cJ c2)) an (by omega) (by omega) (fun i=>!c (b.getD ib 0) (a.getD (ia+i) 0)) (fun _ _=>rfl) (fun i j h1 h2 h3=>?_) fun k k1 k2 k3=>?_)
 ·have e:c (b.getD ib 0) (a.getD (ia+j) 0)=false:=by simpa using h3
  have:=L.tr _ _ _ (cc ua (show ia+i<=ia+j by omega) (by omega) L) e
  simp only[this,zdG]
 dsimp only
 have M2:=M.KI L ua k (by omega) fun i hi j j1 j2=>by
  have e:c (b.getD ib 0) (a.getD (ia+i) 0)=false:=by simpa using k2 i hi
  exact L.tr _ _ _ e (cc ub j1 j2 L)
 have below:∀j,ia+k<=j->j<a.length->c (a.getD j 0) (b.getD ib 0)=false:=fun j j1 j2=>by
  have e:=k3 (j-ia) (by omega) (by omega)
  rw[show ia+(j-ia)=j by omega] at e
  exact L.as _ _ (by simpa using e)
 have c4:x+2<=(out++(a.drop ia).take k).length:=by simp;omega
 simp only[yz,bX];clear k2 k3 c3;apply xh (fun out2 ia2=>ML c a b out2 ia2 ib/\(∀j,ia2<=j->j<a.length->c (a.getD j 0) (b.getD ib 0)=false)/\x+2<=out2.length/\ia2+1<a.length)
 ·intro key
  by_cases hk0:¬ k>0
  ·rw[zad hk0]
   have e0:k=0:=by omega
   simp only[e0,zcz,zdi,zaM] at M2 below c4;generalize ho:out=o2;generalize hi:ia=i2;exact key o2 i2 (by subst ho hi;exact⟨M2,below,c4,c1⟩)
  rw[zaf (zbX.mp hk0)];by_cases e1:ia+k+1=a.length
  ·rw[zaf (by simpa using e1)]
   exact zap (.inl ⟨_,_,rfl,hs3,M2.KS ub e1 hl⟩)
  rw[zad (by simpa using e1)]
  by_cases e2:ia+k=a.length
  ·rw[zaf (by simpa using e2)]
   exact zap (.inl ⟨_,_,rfl,hs3,M2.done ua ub (.inr (by omega))⟩)
  rw[zad (by simpa using e2)]
  exact key _ _ ⟨M2,below,c4,by omega⟩
 clear M2 below c4 c1 M;rintro out2 ia2 ⟨M2,below,c4,c5⟩;refine zai (bd c2 ?_);have M3:=M2.K3 L ub c2 below;simp only[cY,bX];by_cases e3:ib+1=b.length
 ·rw[zaf (by simpa using e3)]
  exact zap (.inl ⟨_,_,rfl,hs3,M3.done ua ub (.inl (by omega))⟩)
 rw[zad (by simpa using e3)]
 refine zai (bd (by omega) ?_)
 refine zai (l5 hA hk3 (an _ (cJ (by omega))) bn (by omega) (by omega) (fun i=>c (b.getD (ib+1+i) 0) (a.getD ia2 0)) (fun _ _=>rfl) (fun i j h1 h2 h3=>?_) fun q q1 q2 q3=>?_)
 ·cases e:c (b.getD (ib+1+i) 0) (a.getD ia2 0) with
  |true=>rfl
  |false=>
   have:=L.tr _ _ _ e (cc ub (show ib+1+i<=ib+1+j by omega) (by omega) L)
   rw[this] at h3;exact h3
 dsimp only;have M4:=M3.Li L ub q (by omega) fun i hi j j1 j2=>L.tr _ _ _ (L.as _ _ (q2 i hi)) (cc ua j1 j2 L)
 have above:∀j,ib+1+q<=j->j<b.length->c (b.getD j 0) (a.getD ia2 0)=false:=fun j j1 j2=>by
  have e:=q3 (j-(ib+1)) (by omega) (by omega)
  rw[show ib+1+(j-(ib+1))=j by omega] at e
  exact e
 have c6:x+2<=(out2++[b.getD ib 0]++(b.drop (ib+1)).take q).length:=by simp;omega
 have c7:ib+1<b.length:=by omega
 clear q2 q3 M3 M2 below e3;generalize out2++[b.getD ib 0]=o3 at *;generalize ib+1=i3 at *;apply xh (fun out3 ib2=>ML c a b out3 ia2 ib2/\(∀j,ib2<=j->j<b.length->c (b.getD j 0) (a.getD ia2 0)=false)/\x+2<=out3.length/\ib2<b.length)
 ·intro key
  by_cases hq0:¬ q>0
  ·rw[zad hq0]
   have e0:q=0:=by omega
   simp only[e0,zcz,zdi,zaM] at M4 above c6;generalize ho:o3=o4;generalize hi:i3=i4;exact key o4 i4 (by subst ho hi;exact⟨M4,above,c6,c7⟩)
  rw[zaf (zbX.mp hq0)];by_cases e4:i3+q=b.length
  ·rw[zaf (by simpa using e4)]
   exact zap (.inl ⟨_,_,rfl,hs3,M4.done ua ub (.inl (by omega))⟩)
  rw[zad (by simpa using e4)]
  exact key _ _ ⟨M4,above,c6,by omega⟩
 clear M4 above c6 c7;rintro out3 ib2 ⟨M4,above,c6,c7⟩;refine zai (bd (by omega) ?_)
 have M5:=M4.KF L ua (by omega) above
 simp only[cY,bX];by_cases e5:ia2+1+1=a.length
 ·rw[zaf (by simpa using e5)]
  exact zap (.inl ⟨_,_,rfl,hs3,M5.KS ub e5 hl⟩)
 ·rw[zad (by simpa using e5)]
  split
  ·exact zap (.inr ⟨_,_,_,_,_,_,rfl,hs3,M5,by omega,c7,by simp;omega⟩)
  ·exact zap ⟨_,_,_,_,_,_,rfl,hs3,M5,by omega,c7,by simp;omega⟩
end
section
variable{c:Nat->Nat->Bool}
noncomputable abbrev flp(c:Nat->Nat->Bool):Nat->Nat->Bool:=fun x y=>c y x
theorem cQ.flip(L:cQ c):cQ (flp c):=⟨fun i j h=>L.as j i h,fun i j k h1 h2=>L.tr k j i h2 h1⟩
theorem qB{a:List Nat}(h:Up2 c a):Up2 (flp c) a.reverse:=List.pairwise_reverse.mpr h
theorem uW{a:List Nat}{i:Nat}(h:i<a.length):a.reverse.getD i 0=a.getD (a.length-1-i) 0:=by
 simp[List.getElem?_reverse h]
theorem xj{a b res:List Nat}(h:Res (flp c) a.reverse b.reverse res):Res c a b res.reverse:=
 ⟨(List.reverse_perm res).trans (h.1.trans ((List.reverse_perm a).append (List.reverse_perm b))),List.pairwise_reverse.mpr h.2⟩
theorem xy{a b res:List Nat}(h:Res c a b res):Res c b a res:=⟨h.1.trans zdh,h.2⟩
structure MH(c:Nat->Nat->Bool)(a b out:List Nat)(na nb:Nat):Prop where
 m:ML (flp c) a.reverse b.reverse out (a.length-na) (b.length-nb)
 ha:na<=a.length
 hb:nb<=b.length
theorem MH.len{a b out:List Nat}{na nb:Nat}(h:MH c a b out na nb):out.length+na+nb=a.length+b.length:=by
 have:=h.m.len (by simp) (by simp)
 simp only[zce] at this;have:=h.ha;have:=h.hb;omega
theorem MH.sym{a b out:List Nat}{na nb:Nat}(h:MH c a b out na nb):MH c b a out nb na:=⟨h.m.sym,h.hb,h.ha⟩
theorem MH.KI{a b out:List Nat}{na nb:Nat}(h:MH c a b out na nb)(L:cQ c)(ua:Up2 c a)(i:Nat)(hi:i<=na)(hz:∀k,i<=k->k<na->∀j,j<nb->c (a.getD k 0) (b.getD j 0)=false):MH c a b (out++((a.drop i).take (na-i)).reverse) i nb:=by
 have ha:=h.ha;have hb:=h.hb
 have:=h.m.KI L.flip (qB ua) (na-i) (by simp;omega) fun k hk j j1 j2=>by
  rw[zce] at j2;rw[uW (by omega),uW (by omega)]
  exact hz _ (by omega) (by omega) _ (by omega)
 rw[zde,show a.length-(a.length-na)=na by omega,List.take_reverse,zbh,show min na a.length-(na-i)=i by omega,List.drop_take,show a.length-na+(na-i)=a.length-i by omega] at this
 exact⟨this,by omega,hb⟩
theorem MH.KF{a b out:List Nat}{na nb:Nat}(h:MH c a b out na nb)(L:cQ c)(ua:Up2 c a)(hn:0<na)(hz:∀j,j<nb->c (a.getD (na-1) 0) (b.getD j 0)=false):MH c a b (out++[a.getD (na-1) 0]) (na-1) nb:=by
 have ha:=h.ha
 have:=h.KI L ua (na-1) (by omega) fun k k1 k2 j hj=>by
  obtain rfl:k=na-1:=by omega
  exact hz j hj
 rw[show na-(na-1)=1 by omega,rm (by omega)] at this
 exact this
theorem MH.done{a b out:List Nat}{na nb:Nat}(h:MH c a b out na nb)(ua:Up2 c a)(ub:Up2 c b)(e:na=0\/nb=0):Res c a b (a.take na++b.take nb++out.reverse):=by
 have ha:=h.ha;have hb:=h.hb;have:=xj (xy (h.m.sym.done (qB ub) (qB ua) (by simp only[zce];omega)))
 rw[zde,zde,show a.length-(a.length-na)=na by omega,show b.length-(b.length-nb)=nb by omega] at this
 simpa using this
theorem MH.KO{a b out:List Nat}{na nb:Nat}(h:MH c a b out na nb)(ua:Up2 c a)(e:nb=1)(h0:∀x∈a,c x (b.getD 0 0)=false):Res c a b (b.take nb++a.take na++out.reverse):=by
 have ha:=h.ha;have hb:=h.hb
 have:=xj (xy (h.m.sym.KS (qB ua) (by simp only [zce];omega) fun y hy=>by
  rw[uW (by simp;omega),zce,show b.length-1-(b.length-1)=0 by omega]
  exact h0 y (List.mem_reverse.mp hy)))
 rw[zde,zde,show a.length-(a.length-na)=na by omega,show b.length-(b.length-nb)=nb by omega] at this
 simpa using this
theorem MH.start{a b:List Nat}(L:cQ c)(ua:Up2 c a)(ha:0<a.length)(hl:∀y∈b,c (a.getD (a.length-1) 0) y=false):MH c a b [a.getD (a.length-1) 0] (a.length-1) b.length:=
 (show MH c a b [] a.length b.length from ⟨by
  rw[zdB,zdB]
  exact⟨.refl _,.nil,fun x hx=>(nomatch hx),fun x hx=>(nomatch hx)⟩,zaj _,zaj _⟩).KF L ua ha fun j hj=>hl _ (cJ hj)
end
section
variable{prog:Program}{w:World}{A:Around}{E:Value->Shared->Prop}{s:Shared}{κ:SortKind}{it:Array Keyed}{c:Nat->Nat->Bool}{n:Nat}
theorem r6(l:List Nat)(i j:Nat):(a8 it l).extract i j=a8 it ((l.drop i).take (j-i)):=by
 apply Array.ext';simp[a8,List.map_drop,List.map_take]
theorem pZ(l:List Nat)(j:Nat):(a8 it l).extract 0 j=a8 it (l.take j):=by rw[r6];rfl
theorem f8(l:List Nat):(a8 it l).reverse=a8 it l.reverse:=by simp[a8]
theorem GN(L:cQ c)(hA:kK prog w A s κ it n c){a b:List Nat}{st:SortSt}{Q:Array Keyed->SortSt->Prop}(hk:kindOf st=κ)(ua:Up2 c a)(ub:Up2 c b)(an:∀i∈a,i<n)(bn:∀i∈b,i<n)(ha:0<a.length)(hb:0<b.length)(h0:∀x∈a,c x (b.getD 0 0)=false)(hl:∀y∈b,c (a.getD (a.length-1) 0) y=false)(h:∀res st',Sm st st'->Res c a b res->Q (a8 it res) st'):
  wpS (model prog w) A E s (Kk (a8 it a) (a8 it b)) Q st:=by
 refine zai (wpS_lift (zbF ⟨rfl,?_⟩));rw[kR,kR];refine zai (bd (by omega) ?_)
 have M0:MH c a b [a.getD (a.length-1) 0] (a.length-1) b.length:=.start L ua ha hl;have e0:(#[W.kas_item it (a.getD (a.length-1) 0)]:Array Keyed)=a8 it [a.getD (a.length-1) 0]:=by simp[a8]
 dsimp only;rw[e0];simp only[pZ,f8,bX];by_cases h1:a.length-1=0
 ·rw[zaf (by simpa using h1)]
  exact zap (h _ st ⟨rfl,rfl,rfl,rfl⟩ (M0.done ua ub (.inl h1)))
 rw[zad (by simpa using h1)]
 by_cases h2:b.length=1
 ·rw[zaf (by simpa using h2)]
  exact zap (h _ st ⟨rfl,rfl,rfl,rfl⟩ (M0.KO ua h2 h0))
 rw[zad (by simpa using h2)]
 refine zai (wpS_get ?_)
 refine zai (zbW (zbu (a:=0) (b:=a.length+b.length) (I:=fun x r st'=>∃out na nb g,r=(none,na,nb,a8 it out,g)/\MH c a b out na nb/\0<na/\1<nb/\x+1<=out.length/\Sm st st')
  (Q:=fun r st'=>∃res y,r=(some (a8 it res),y)/\Res c a b res/\Sm st st') ?_ ?_ ⟨_,_,_,_,rfl,M0,by omega,by omega,by simp,rfl,rfl,rfl,rfl⟩) ?_)
 rotate_left
 ·rintro r st' ⟨out,na,nb,g,rfl,M,c1,c2,c3,_⟩
  have:=M.len;omega
 ·rintro _ st' ⟨res,y,rfl,hr,hs⟩
  exact zap (h res st' hs hr)
 intro x r st1 _ _ h1;revert r;refine un4 fun out na nb g hR=>?_;have M:=hR.1;have c1:=hR.2.1;have c2:=hR.2.2.1;have c3:=hR.2.2.2.1;have hs1:=hR.2.2.2.2;clear hR;dsimp only;have hk1:kindOf st1=κ:=hs1.k.trans hk
 refine zai (zbW (zbu (a:=0) (b:=a.length+b.length) (I:=fun y r st'=>∃out na nb ac bc,r=(none,na,nb,a8 it out,ac,bc)/\st'=st1/\MH c a b out na nb/\0<na/\1<nb/\x+1+y<=out.length)
  (Q:=fun r st'=>(∃res y,r=(some (a8 it res),y)/\st'=st1/\Res c a b res)\/∃out na nb ac bc,r=(none,na,nb,a8 it out,ac,bc)/\st'=st1/\MH c a b out na nb/\0<na/\1<nb/\x+2<=out.length) ?_ ?_ ⟨_,_,_,_,_,rfl,rfl,M,c1,c2,c3⟩) ?_)
 ·clear M c1 c2 c3
  intro y r st' _ _ h1;revert r;refine un5 fun out na nb ac bc hR=>?_;have es:=hR.1;have M:=hR.2.1;have c1:=hR.2.2.1;have c2:=hR.2.2.2.1;have c3:=hR.2.2.2.2;have hk1:kindOf st'=κ:=by rw[es];exact hk1
  clear hR;have na1:=M.ha;have nb1:=M.hb;dsimp only;refine zai (bd (by omega) (zai (bd (by omega) (zai (sX hA (bn _ (cJ (by omega))) (an _ (cJ (by omega))) hk1 ?_)))))
  dsimp only
  cases e:c (b.getD (nb-1) 0) (a.getD (na-1) 0) with
  |true=>
   rw[zaf rfl];refine zai (bd (by omega) ?_)
   have M2:=M.KF L ua c1 fun j hj=>L.tr _ _ _ (cc ub (show j<=nb-1 by omega) (by omega) L) (L.as _ _ e)
   simp only[cY,f8,bX];by_cases e1:na-1=0
   ·rw[zaf (by simpa using e1)]
    exact zap (.inl ⟨_,_,rfl,es,M2.done ua ub (.inl e1)⟩)
   ·rw[zad (by simpa using e1)]
    split
    ·exact zap (.inr ⟨_,_,_,_,_,rfl,es,M2,by omega,c2,by simp;omega⟩)
    ·exact zap ⟨_,_,_,_,_,rfl,es,M2,by omega,c2,by simp;omega⟩
  |false=>
   rw[zad zat];refine zai (bd (by omega) ?_)
   have M2:=(M.sym.KF L ub (by omega) fun j hj=>L.tr _ _ _ (cc ua (show j<=na-1 by omega) (by omega) L) e).sym
   simp only[cY,f8,bX];by_cases e1:nb-1=1
   ·rw[zaf (by simpa using e1)]
    exact zap (.inl ⟨_,_,rfl,es,M2.KO ua e1 h0⟩)
   ·rw[zad (by simpa using e1)]
    split
    ·exact zap (.inr ⟨_,_,_,_,_,rfl,es,M2,c1,by omega,by simp;omega⟩)
    ·exact zap ⟨_,_,_,_,_,rfl,es,M2,c1,by omega,by simp;omega⟩
 ·rintro r st' ⟨out,na,nb,ac,bc,e,es,M,c1,c2,c3⟩
  exact .inr ⟨_,_,_,_,_,e,es,M,c1,c2,by rw[show max 0 (a.length+b.length)=a.length+b.length by omega] at c3;omega⟩
 clear M c1 c2 c3 out na nb;intro r st' h1;revert r;refine Df (fun res y hR=>zap ⟨_,_,rfl,hR.2,by rw[hR.1];exact hs1⟩) ?_
 refine un5 fun out na nb ac bc hR=>?_;have hs1:Sm st st':=by rw[hR.1];exact hs1
 have M:=hR.2.1;have c1:=hR.2.2.1;have c2:=hR.2.2.2.1;have c3:=hR.2.2.2.2;clear hR;dsimp only;refine zai (wpS_lift (zbF ⟨rfl,?_⟩))
 refine zai (zbW (zbu (a:=0) (b:=a.length+b.length) (I:=fun y r st'=>∃out na nb g ac bc,r=(none,na,nb,a8 it out,g,ac,bc)/\Sm st st'/\MH c a b out na nb/\0<na/\1<nb/\x+2<=out.length)
  (Q:=fun r st'=>(∃res y,r=(some (a8 it res),y)/\Sm st st'/\Res c a b res)\/∃out na nb g ac bc,r=(none,na,nb,a8 it out,g,ac,bc)/\Sm st st'/\MH c a b out na nb/\0<na/\1<nb/\x+2<=out.length) ?_ ?_ ⟨_,_,_,_,_,_,rfl,hs1,M,c1,c2,c3⟩) ?_)
 rotate_left
 ·intro r st' h1
  exact .inr h1
 ·intro r st' h1
  revert r;refine Df (fun res y hR=>zap ⟨_,_,rfl,hR.2,hR.1⟩) ?_;exact un6 fun out na nb g ac bc hR=>zai (lN hR.1 fun st3 hs3=>zap ⟨_,_,_,_,rfl,hR.2.1,hR.2.2.1,hR.2.2.2.1,hR.2.2.2.2,hs3⟩)
 clear M c1 c2 c3 out na nb;intro y r st2 _ _ h1;revert r;refine un6 fun out na nb g ac bc hR=>?_;have hs2:=hR.1;have M:=hR.2.1;have c1:=hR.2.2.1;have c2:=hR.2.2.2.1;have c3:=hR.2.2.2.2;clear hR;have na1:=M.ha;have nb1:=M.hb;dsimp only;apply EL
 ·intro key
  by_cases hg:¬ g>1
  ·rw[zad hg]
   generalize g=g2;exact key g2
  ·rw[zaf (zbX.mp hg)]
   exact key (g-1)
 intro g;refine zai (lN hs2 fun st3 hs3=>?_);have hk3:kindOf st3=κ:=hs3.k.trans hk;refine zai (bd (by omega) ?_)
 refine zai (l5 hA hk3 (bn _ (cJ (by omega))) an (by omega) (by omega) (fun i=>!c (b.getD (nb-1) 0) (a.getD i 0)) (fun _ _=>by simp) (fun i j h1 h2 h3=>?_) fun k k1 k2 k3=>?_)
 ·have e:c (b.getD (nb-1) 0) (a.getD j 0)=false:=by simpa using h3
  have:=L.tr _ _ _ (cc ua h1 (by omega) L) e
  simp only[this,zdG]
 dsimp only
 have M2:=M.KI L ua k k1 fun i i1 i2 j hj=>by
  have e:c (b.getD (nb-1) 0) (a.getD i 0)=true:=by simpa using k3 i i1 i2
  exact L.tr _ _ _ (cc ub (show j<=nb-1 by omega) (by omega) L) (L.as _ _ e)
 have below:∀j,j<k->c (b.getD (nb-1) 0) (a.getD j 0)=false:=fun j hj=>by simpa using k2 j hj
 have c4:x+2<=(out++((a.drop k).take (na-k)).reverse).length:=by simp;omega
 simp only[r6,pZ,f8,bX];clear k2 k3 c3;have kz:na-k=0->k=na:=fun h=>by omega
 generalize na-k=kk at *;apply xh (fun out2 na2=>MH c a b out2 na2 nb/\(∀j,j<na2->c (b.getD (nb-1) 0) (a.getD j 0)=false)/\x+2<=out2.length/\0<na2)
 ·intro key
  by_cases hk0:¬ kk>0
  ·rw[zad hk0]
   have e0:kk=0:=by omega
   have e1:=kz e0;simp only[e0,zdi,List.reverse_nil,zaM] at M2 c4;generalize ho:out=o2;generalize hi:na=i2;exact key o2 i2 (by subst ho hi;rw[e1] at M2 below;exact⟨M2,below,c4,c1⟩)
  rw[zaf (zbX.mp hk0)];by_cases e1:k=0
  ·rw[zaf (by simpa using e1)]
   exact zap (.inl ⟨_,_,rfl,hs3,M2.done ua ub (.inl e1)⟩)
  rw[zad (by simpa using e1)]
  exact key _ _ ⟨M2,below,c4,by omega⟩
 clear M2 below c4 c1 M kz na1;rintro out2 na2 ⟨M2,below,c4,c5⟩;have na1:=M2.ha;refine zai (bd (by omega) ?_)
 have M3:=(M2.sym.KF L ub (by omega) below).sym
 simp only[cY,f8,bX];by_cases e3:nb-1=1
 ·rw[zaf (by simpa using e3)]
  exact zap (.inl ⟨_,_,rfl,hs3,M3.KO ua e3 h0⟩)
 rw[zad (by simpa using e3)]
 refine zai (bd (by omega) ?_)
 refine zai (l5 hA hk3 (an _ (cJ (by omega))) bn (by omega) (by omega) (fun i=>c (b.getD i 0) (a.getD (na2-1) 0)) (fun _ _=>by simp) (fun i j h1 h2 h3=>?_) fun q q1 q2 q3=>?_)
 ·cases e:c (b.getD i 0) (a.getD (na2-1) 0) with
  |true=>rfl
  |false=>
   have:=L.tr _ _ _ e (cc ub h1 (by omega) L)
   rw[this] at h3;exact h3
 dsimp only;have M4:=(M3.sym.KI L ub q q1 fun i i1 i2 j hj=>L.tr _ _ _ (cc ua (show j<=na2-1 by omega) (by omega) L) (q3 i i1 i2)).sym
 have above:∀j,j<q->c (a.getD (na2-1) 0) (b.getD j 0)=false:=fun j hj=>L.as _ _ (q2 j hj);have c6:x+2<=(out2++[b.getD (nb-1) 0]++((b.drop q).take (nb-1-q)).reverse).length:=by simp;omega
 have c7:1<nb-1:=by omega
 clear q2 q3 M3 M2 below e3;have qz:nb-1-q=0->q=nb-1:=fun h=>by omega
 generalize nb-1-q=qq at *;generalize out2++[b.getD (nb-1) 0]=o3 at *;generalize nb-1=n3 at *;apply xh (fun out3 q3=>MH c a b out3 na2 q3/\(∀j,j<q3->c (a.getD (na2-1) 0) (b.getD j 0)=false)/\x+2<=out3.length/\1<q3)
 ·intro key
  by_cases hq0:¬ qq>0
  ·rw[zad hq0]
   have e0:qq=0:=by omega
   have e1:=qz e0;simp only[e0,zdi,List.reverse_nil,zaM] at M4 c6;generalize ho:o3=o4;generalize hi:n3=i4;exact key o4 i4 (by subst ho hi;rw[e1] at M4 above;exact⟨M4,above,c6,c7⟩)
  rw[zaf (zbX.mp hq0)];by_cases e4:q=1
  ·rw[zaf (by simpa using e4)]
   exact zap (.inl ⟨_,_,rfl,hs3,M4.KO ua e4 h0⟩)
  rw[zad (by simpa using e4)]
  by_cases e5:q=0
  ·rw[zaf (by simpa using e5)]
   exact zap (.inl ⟨_,_,rfl,hs3,M4.done ua ub (.inr e5)⟩)
  rw[zad (by simpa using e5)]
  exact key _ _ ⟨M4,above,c6,by omega⟩
 clear M4 above c6 c7 qz;rintro out3 q3 ⟨M4,above,c6,c7⟩;refine zai (bd (by omega) ?_)
 have M5:=M4.KF L ua c5 above;simp only[cY,f8,bX];by_cases e5:na2-1=0
 ·rw[zaf (by simpa using e5)]
  exact zap (.inl ⟨_,_,rfl,hs3,M5.done ua ub (.inl e5)⟩)
 ·rw[zad (by simpa using e5)]
  split
  ·exact zap (.inr ⟨_,_,_,_,_,_,rfl,hs3,M5,by omega,c7,by simp;omega⟩)
  ·exact zap ⟨_,_,_,_,_,_,rfl,hs3,M5,by omega,c7,by simp;omega⟩
end
section
variable{α:Type}
theorem FD(sa:Nat):∀(l:List α)(s:Nat)(a:Array α),sa+s+l.length<=a.size->∀k,((l.zipIdx s).foldl (fun a (x:α×Nat)=>a.setIfInBounds (sa+x.2) x.1) a)[k]?=if sa+s<=k/\k<sa+s+l.length then l[k-(sa+s)]? else a[k]?
 | [],s,a,_,k=>by
  rw[zad (by simp)]
  rfl
 |x::l,s,a,h,k=>by
  simp only[zaJ] at h;rw[List.zipIdx_cons,List.foldl_cons,FD sa l (s+1) _ (by simp;omega) k]
  simp only[zaJ];by_cases e:k=sa+s
  ·subst e
   rw[zad (by omega),zaf (by omega),zdB,Array.getElem?_setIfInBounds,zaf rfl,zaf (by omega)]
   rfl
  ·by_cases e2:sa+s<=k/\k<sa+s+(l.length+1)
   ·rw[zaf (by omega),zaf e2]
    obtain⟨j,rfl⟩:∃j,k=sa+s+1+j:=⟨k-(sa+s+1),by omega⟩
    rw[show sa+s+1+j-(sa+(s+1))=j by omega,show sa+s+1+j-(sa+s)=j+1 by omega]
    rfl
   ·rw[zad (by omega),zad e2,Array.getElem?_setIfInBounds,zad (by omega)]
end
noncomputable def j9(p:Array Nat)(sa:Nat)(res:List Nat):Array Nat:=(p.toList.take sa++(res++p.toList.drop (sa+res.length))).toArray
theorem xg{p:Array Nat}{sa:Nat}{res:List Nat}(h:sa+res.length<=p.size)(k:Nat):(j9 p sa res)[k]?=if sa<=k/\k<sa+res.length then res[k-sa]? else p[k]?:=by
 unfold j9;rw[List.getElem?_toArray,List.getElem?_append,zbh,List.getElem?_append,zaY,Nat.min_eq_left (by omega)]
 by_cases e:k<sa
 ·rw[zaf e,zad (by omega),List.getElem?_take,zaf e,zcl]
 ·rw[zad e]
  by_cases e2:k-sa<res.length
  ·rw[zaf e2,zaf (by omega)]
  ·rw[zad e2,zad (by omega),List.getElem?_drop,zcl]
   congr 1
   omega
theorem Ac{p:Array Nat}{sa:Nat}{res:List Nat}(h:sa+res.length<=p.size)(k:Nat):(j9 p sa res).getD k 0=if sa<=k/\k<sa+res.length then res.getD (k-sa) 0 else p.getD k 0:=by
 rw[zaU,xg h,zaU];split<;>simp
theorem DA{it:Array Keyed}{p:Array Nat}{sa:Nat}{res:List Nat}(h:sa+res.length<=p.size):List.foldl (fun a (x:Keyed×Nat)=>a.setIfInBounds (sa+x.2) x.1) (p.map (W.kas_item it)) (a8 it res).toList.zipIdx=(j9 p sa res).map (W.kas_item it):=by
 apply Array.ext_getElem?;intro k;have:=FD sa ((res.map (W.kas_item it))) 0 (p.map (W.kas_item it)) (by simp;omega) k
 rw[this,zcz,zaA,show ((j9 p sa res).map (W.kas_item it))[k]?=((j9 p sa res)[k]?).map (W.kas_item it) from Array.getElem?_map ..,xg h]
 split<;>simp
theorem zc(p:Array Nat){a b d:Nat}(h1:a<=b)(h2:b<=d):p.toList.take a++(((p.toList.drop a).take (b-a)++(p.toList.drop b).take (d-b))++p.toList.drop d)=p.toList:=by
 have e1:(p.toList.drop b).take (d-b)++p.toList.drop d=p.toList.drop b:=by
  have:=zdj (d-b) (p.toList.drop b)
  rwa [List.drop_drop,show b+(d-b)=d by omega] at this
 have e2:(p.toList.drop a).take (b-a)++p.toList.drop b=p.toList.drop a:=by
  have:=zdj (b-a) (p.toList.drop a)
  rwa [List.drop_drop,show a+(b-a)=b by omega] at this
 rw[zbM,e1,e2,zdj]
theorem ni{p:Array Nat}{a b k:Nat}(hb:b<=p.size)(hk:k<b-a):((p.toList.drop a).take (b-a)).getD k 0=p.getD (a+k) 0:=by
 simp[List.getElem?_take,hk,zaU]
theorem lO{p:Array Nat}{a b:Nat}(hb:b<=p.size):((p.toList.drop a).take (b-a)).length=b-a:=by
 simp;omega
theorem yd{p:Array Nat}{a b z:Nat}(hb:b<=p.size)(h:z∈(p.toList.drop a).take (b-a)):∃t,a<=t/\t<b/\z=p.getD t 0:=by
 obtain⟨k,hk,rfl⟩:=List.mem_iff_getElem.mp h;have hk2:=hk;rw[lO hb] at hk2;refine⟨a+k,by omega,by omega,?_⟩
 rw[←ni hb hk2,zag,zae hk]
 rfl
theorem BW{c:Nat->Nat->Bool}{p:Array Nat}{a b:Nat}(hb:b<=p.size)(h:Sg c p a b):Up2 c ((p.toList.drop a).take (b-a)):=by
 refine zbO.mpr fun i j hi hj hij=>?_;have hi2:=hi;have hj2:=hj;rw[lO hb] at hi2 hj2;have ei:=ni hb hi2;have ej:=ni hb hj2;rw[zag,zae hi] at ei;rw[zag,zae hj] at ej;simp only[zct] at ei ej;rw[ei,ej];exact h _ _ (by omega) (by omega) (by omega)
section
variable{prog:Program}{w:World}{A:Around}{E:Value->Shared->Prop}{s:Shared}{κ:SortKind}{it:Array Keyed}{c:Nat->Nat->Bool}{n:Nat}
theorem AQ{σ:Type}{M:Model}{st' st:σ}{Q:PUnit->σ->Prop}(h:Q ⟨⟩ st'):wpS M A E s (set st':StateT σ Sem PUnit) Q st:=by
 unfold wpS;rw[StateT.run_set];exact zab ⟨rfl,h⟩
structure Mg(κ:SortKind)(it:Array Keyed)(n:Nat)(c:Nat->Nat->Bool)(p p':Array Nat)(st':SortSt)(a b:Nat):Prop where
 o:Ord n p'
 s:Stt κ it p' st'
 lo:∀k,k<a->p'.getD k 0=p.getD k 0
 hi:∀k,b<=k->p'.getD k 0=p.getD k 0
 g:Sg c p' a b
noncomputable def HI:Nat->StateT SortSt Sem Bool:=sortPriv% PySem.Builtin.mergeAt
theorem F2(L:cQ c)(hA:kK prog w A s κ it n c){p:Array Nat}{st:SortSt}{i sa na pw nb pw2:Nat}{Q:Bool->SortSt->Prop}(ho:Ord n p)(hS:Stt κ it p st)(e1:(pendingOf st)[i]?=some (sa,na,pw))(e2:(pendingOf st)[i+1]?=some (sa+na,nb,pw2))(ha:1<=na)(hb:1<=nb)(hz:sa+na+nb<=n)(ga:Sg c p sa (sa+na))(gb:Sg c p (sa+na) (sa+na+nb))(h:∀p' st',Mg κ it n c p p' st' sa (sa+na+nb)->pendingOf st'=((pendingOf st).setIfInBounds i (sa,na+nb,pw)).eraseIdxIfInBounds (i+1)->Q true st'):wpS (model prog w) A E s (HI i) Q st:=by
 have sz:=bh ho;have hp0:∀k,p.getD k 0<n:=fun k=>ho.lt (by omega) k
 refine zai (wpS_get ?_);have e1':((sortPriv% PySem.Builtin.SortState.pending) st)[i]?=some (sa,na,pw):=e1;have e2':((sortPriv% PySem.Builtin.SortState.pending) st)[i+1]?=some (sa+na,nb,pw2):=e2;have ea:(sortPriv% PySem.Builtin.SortState.a) st=p.map (W.kas_item it):=hS.a;rw[e1',e2',ea];dsimp only;refine zai (AQ ?_);obtain⟨st1,hS1,hd1,est⟩:∃st1,Stt κ it p st1/\pendingOf st1=((pendingOf st).setIfInBounds i (sa,na+nb,pw)).eraseIdxIfInBounds (i+1)/\st1=SortSt.mk' (kindOf st) (p.map (W.kas_item it)) (((pendingOf st).setIfInBounds i (sa,na+nb,pw)).eraseIdxIfInBounds (i+1)) (gallopOf st) (failedOf st):=⟨SortSt.mk' (kindOf st) (p.map (W.kas_item it)) (((pendingOf st).setIfInBounds i (sa,na+nb,pw)).eraseIdxIfInBounds (i+1)) (gallopOf st) (failedOf st),⟨hS.k,rfl,hS.f⟩,rfl,rfl⟩
 change wpS _ _ _ _ _ Q (SortSt.mk' (kindOf st) (p.map (W.kas_item it)) (((pendingOf st).setIfInBounds i (sa,na+nb,pw)).eraseIdxIfInBounds (i+1)) (gallopOf st) (failedOf st));rw[←est]
 clear est e1' e2' ea;refine zai (jr (by omega) ?_)
 refine zai (kL hA hS1.k (hp0 _) (fun i _=>hp0 i) (by omega) (by omega) (fun i j h1 h2 h3=>?_) fun k k1 k2 k3=>?_)
 ·simp only[gB,zak,zaP,Bool.not_eq_true'] at h3 ⊢
  exact L.tr _ _ _ (ga (sa+i) (sa+j) (by omega) (by omega) (by omega)) h3
 simp only[gB,zak,zaP,Bool.not_eq_true',Bool.not_eq_false'] at k2 k3;dsimp only
 have lowA:∀i j,sa<=i->i<sa+k->sa+na<=j->j<sa+na+nb->c (p.getD j 0) (p.getD i 0)=false:=fun i j b1 b2 b3 b4=>by
  have:=k2 (i-sa) (by omega)
  rw[show sa+(i-sa)=i by omega] at this
  exact L.tr _ _ _ this (gb _ j (zaj _) b3 b4)
 by_cases e3:na-k=0
 ·rw[zaf (by simpa using e3)]
  refine zap (h p st1 ⟨ho,hS1,fun _ _=>rfl,fun _ _=>rfl,fun i j b1 b2 b3=>?_⟩ hd1);by_cases f1:j<sa+na
  ·exact ga i j b1 b2 f1
  ·by_cases f2:i<sa+na
   ·exact lowA i j b1 (by omega) (by omega) b3
   ·exact gb i j (by omega) b2 b3
 rw[zad (by simpa using e3)]
 rw[show sa+k+(na-k)-1=sa+na-1 by omega]
 refine zai (jr (by omega) ?_)
 refine zai (kL hA hS1.k (hp0 _) (fun i _=>hp0 i) (by omega) (by omega) (fun i j h1 h2 h3=>?_) fun q q1 q2 q3=>?_)
 ·simp only[gB,zaX] at h3 ⊢
  cases e:c (p.getD (sa+na+i) 0) (p.getD (sa+na-1) 0) with
  |true=>rfl
  |false=>
   have:=L.tr _ _ _ e (gb (sa+na+i) (sa+na+j) (by omega) (by omega) (by omega))
   rw[this] at h3;exact h3
 simp only[gB,zaX] at q2 q3;dsimp only
 have highB:∀i j,sa<=i->i<sa+na->sa+na+q<=j->j<sa+na+nb->c (p.getD j 0) (p.getD i 0)=false:=fun i j b1 b2 b3 b4=>by
  have:=q3 (j-(sa+na)) (by omega) (by omega)
  rw[show sa+na+(j-(sa+na))=j by omega] at this
  exact L.tr _ _ _ (ga i (sa+na-1) b1 (by omega) (by omega)) this
 by_cases e4:q=0
 ·rw[zaf (by simpa using e4)]
  refine zap (h p st1 ⟨ho,hS1,fun _ _=>rfl,fun _ _=>rfl,fun i j b1 b2 b3=>?_⟩ hd1);by_cases f1:j<sa+na
  ·exact ga i j b1 b2 f1
  ·by_cases f2:i<sa+na
   ·exact highB i j b1 f2 (by omega) b3
   ·exact gb i j (by omega) b2 b3
 rw[zad (by simpa using e4)]
 have cut:∀i j,(p.map (W.kas_item it)).extract i j=a8 it ((p.toList.drop i).take (j-i)):=fun i j=>by
  apply Array.ext';simp[a8,List.map_drop,List.map_take]
 rw[cut,cut];generalize hxs:(p.toList.drop (sa+k)).take (sa+na-(sa+k))=xs;generalize hys:(p.toList.drop (sa+na)).take (sa+na+q-(sa+na))=ys;have lx:xs.length=na-k:=by rw[←hxs,lO (by omega)];omega
 have ly:ys.length=q:=by rw[←hys,lO (by omega)];omega
 have ux:Up2 c xs:=hxs ▸ BW (by omega) fun i j b1 b2 b3=>ga i j (by omega) b2 b3
 have uy:Up2 c ys:=hys ▸ BW (by omega) fun i j b1 b2 b3=>gb i j b1 b2 (by omega)
 have mx:∀z∈xs,∃t,sa+k<=t/\t<sa+na/\z=p.getD t 0:=fun z hz=>yd (by omega) (hxs ▸ hz)
 have my:∀z∈ys,∃t,sa+na<=t/\t<sa+na+q/\z=p.getD t 0:=fun z hz=>yd (by omega) (hys ▸ hz)
 have nx:∀z∈xs,z<n:=fun z hz=>by obtain⟨t,_,_,rfl⟩:=mx z hz;exact hp0 t
 have ny:∀z∈ys,z<n:=fun z hz=>by obtain⟨t,_,_,rfl⟩:=my z hz;exact hp0 t
 have h0:∀x∈xs,c x (ys.getD 0 0)=false:=fun z hz=>by
  obtain⟨t,t1,t2,rfl⟩:=mx z hz;rw[←hys,ni (by omega) (by omega),zcz]
  have:=k3 (t-sa) (by omega) (by omega)
  rw[show sa+(t-sa)=t by omega] at this
  exact L.as _ _ this
 have hl:∀y∈ys,c (xs.getD (xs.length-1) 0) y=false:=fun z hz=>by
  obtain⟨t,t1,t2,rfl⟩:=my z hz;rw[lx,←hxs,ni (by omega) (by omega),show sa+k+(na-k-1)=sa+na-1 by omega]
  have:=q2 (t-(sa+na)) (by omega)
  rw[show sa+na+(t-(sa+na))=t by omega] at this
  exact L.as _ _ this
 have fin:∀(res:List Nat),Res c xs ys res->Ord n (j9 p (sa+k) res)/\(∀k',k'<sa->(j9 p (sa+k) res).getD k' 0=p.getD k' 0)/\(∀k',sa+na+nb<=k'->(j9 p (sa+k) res).getD k' 0=p.getD k' 0)/\Sg c (j9 p (sa+k) res) sa (sa+na+nb)/\sa+k+res.length<=p.size:=fun res hr=>by
  have lr:res.length=na-k+q:=by rw[hr.1.length_eq,zaw,lx,ly]
  have hz2:sa+k+res.length<=p.size:=by omega
  have at2:=Ac (p:=p) (sa:=sa+k) (res:=res) hz2
  have mr:∀t,sa+k<=t->t<sa+na+q->∃u,sa+k<=u/\u<sa+na+q/\(j9 p (sa+k) res).getD t 0=p.getD u 0:=fun t t1 t2=>by
   rw[at2,zaf (by omega)]
   rcases zaL.mp (hr.1.mem_iff.mp (cJ (show t-(sa+k)<res.length by omega))) with hm|hm
   ·obtain⟨u,u1,u2,e⟩:=mx _ hm
    exact⟨u,u1,by omega,e⟩
   ·obtain⟨u,u1,u2,e⟩:=my _ hm
    exact⟨u,by omega,u2,e⟩
  refine⟨?_,fun k' hk'=>by rw[at2,zad (by omega)],fun k' hk'=>by rw[at2,zad (by omega)],fun i j b1 b2 b3=>?_,hz2⟩
  ·refine Array.perm_iff_toList_perm.mpr (List.Perm.trans ?_ (Array.perm_iff_toList_perm.mp ho))
   unfold j9;have:=zc p (a:=sa+k) (b:=sa+na) (d:=sa+na+q) (by omega) (by omega)
   rw[hxs,hys] at this
   conv=>rhs;rw[←this]
   rw[show sa+k+res.length=sa+na+q by omega]
   exact(hr.1.append_right _).append_left _
  ·by_cases f1:j<sa+k
   ·rw[at2,at2,zad (by omega),zad (by omega)]
    exact ga i j b1 b2 (by omega)
   ·by_cases f2:j<sa+na+q
    ·by_cases f3:i<sa+k
     ·obtain⟨u,u1,u2,eu⟩:=mr j (by omega) f2
      rw[eu,at2,zad (by omega)]
      by_cases f4:u<sa+na
      ·exact ga i u b1 (by omega) f4
      ·exact lowA i u b1 f3 (by omega) (by omega)
     ·rw[at2,at2,zaf (by omega),zaf (by omega)]
      exact cc hr.2 (by omega) (by omega) L
    ·rw[at2 j,zad (by omega)]
     by_cases f3:i<sa+k
     ·rw[at2,zad (by omega)]
      exact lowA i j b1 f3 (by omega) b3
     ·by_cases f4:i<sa+na+q
      ·obtain⟨u,u1,u2,eu⟩:=mr i (by omega) f4
       rw[eu];by_cases f5:u<sa+na
       ·exact highB u j (by omega) f5 (by omega) b3
       ·exact gb u j (by omega) (by omega) b3
      ·rw[at2,zad (by omega)]
       exact gb i j (by omega) b2 b3
 by_cases e5:na-k<=q
 case' pos=>
  rw[zaf e5];refine zai (Gu L hA hS1.k ux uy nx ny (by omega) (by omega) h0 hl fun res st2 hm hr=>?_)
 case' neg=>
  rw[zad e5];refine zai (GN L hA hS1.k ux uy nx ny (by omega) (by omega) h0 hl fun res st2 hm hr=>?_)
 all_goals
  obtain⟨f1,f2,f3,f4,f5⟩:=fin res hr;have e6:(sortPriv% PySem.Builtin.SortState.a) st2=p.map (W.kas_item it):=hm.a.trans hS1.a;refine zai (wpS_modify ?_);refine zai (wpS_get ?_);have e7:(failedOf st2).isNone=true:=by rw[hm.f,hS1.f];rfl
  refine zap ?_
  have key:∀b,b=true->∀st3,Stt κ it (j9 p (sa+k) res) st3->pendingOf st3=pendingOf st2->Q b st3:=fun b hb st3 h1 h2=>by
   subst hb;exact h _ st3 ⟨f1,h1,f2,f3,f4⟩ (h2.trans (hm.d.trans hd1))
  refine key _ e7 _ ⟨hm.k.trans hS1.k,?_,hm.f.trans hS1.f⟩ rfl;exact(zcB (fun a=>List.foldl (fun a (x:Keyed×Nat)=>a.setIfInBounds (sa+k+x.2) x.1) a (a8 it res).toList.zipIdx) e6).trans (DA f5)
end
section
variable{c:Nat->Nat->Bool}
noncomputable def cK(c:Nat->Nat->Bool)(p:Array Nat):List (Nat×Nat×Nat)->Nat->Nat->Prop
 | [],a,b=>a=b
 |x::r,a,b=>x.1=a/\1<=x.2.1/\Sg c p a (a+x.2.1)/\cK c p r (a+x.2.1) b
theorem cK.le{p:Array Nat}:∀ {l:List (Nat×Nat×Nat)} {a b:Nat},cK c p l a b->a+l.length<=b
 | [],a,b,h=>by simp only[cK] at h;simp;omega
 |x::r,a,b,⟨_,h1,_,h2⟩=>by
  have:=cK.le h2;simp only[zaJ];omega
theorem cK.eq{p q:Array Nat}:∀ {l:List (Nat×Nat×Nat)} {a b:Nat},cK c p l a b->(∀k,a<=k->k<b->q.getD k 0=p.getD k 0)->cK c q l a b
 | [],a,b,h,_=>h
 |x::r,a,b,⟨h0,h1,h2,h3⟩,e=>by
  have:=cK.le h3;exact⟨h0,h1,h2.eq fun k k1 k2=>e k k1 (by omega),cK.eq h3 fun k k1 k2=>e k (by omega) k2⟩
theorem cK.snoc{p:Array Nat}{m w:Nat}:∀ {l:List (Nat×Nat×Nat)} {a b:Nat},cK c p l a b->1<=m->Sg c p b (b+m)->cK c p (l++[(b,m,w)]) a (b+m)
 | [],a,b,h,hm,hs=>by
  simp only[cK] at h;subst h;exact⟨rfl,hm,hs,rfl⟩
 |x::r,a,b,⟨h0,h1,h2,h3⟩,hm,hs=>⟨h0,h1,h2,cK.snoc h3 hm hs⟩
theorem cK.powr{p:Array Nat}(f:Nat×Nat×Nat->Nat×Nat×Nat)(hf:∀x,(f x).1=x.1/\(f x).2.1=x.2.1):∀ {l:List (Nat×Nat×Nat)} {a b:Nat} (i:Nat),cK c p l a b->cK c p (l.modify i f) a b
 | [],a,b,i,h=>by cases i<;>exact h
 |x::r,a,b,0,⟨h0,h1,h2,h3⟩=>by
  show cK c p (f x::r) a b;obtain⟨e1,e2⟩:=hf x;simp only[cK,e1,e2];exact⟨h0,h1,h2,h3⟩
 |x::r,a,b,i+1,⟨h0,h1,h2,h3⟩=>⟨h0,h1,h2,cK.powr f hf i h3⟩
theorem cK.two{p:Array Nat}:∀ {l:List (Nat×Nat×Nat)} {a b:Nat} (i:Nat),cK c p l a b->i+1<l.length->∃sa na pw nb pw2,l[i]?=some (sa,na,pw)/\l[i+1]?=some (sa+na,nb,pw2)/\1<=na/\1<=nb/\a<=sa/\sa+na+nb<=b/\Sg c p sa (sa+na)/\Sg c p (sa+na) (sa+na+nb) /\
   ∀q:Array Nat,(∀k,k<sa->q.getD k 0=p.getD k 0)->(∀k,sa+na+nb<=k->q.getD k 0=p.getD k 0)->Sg c q sa (sa+na+nb)->cK c q ((l.set i (sa,na+nb,pw)).eraseIdx (i+1)) a b
 |x::y::r,a,b,0,⟨h0,h1,h2,h3,h4,h5,h6⟩,_=>by
  obtain⟨sa,na,pw⟩:=x;obtain⟨sb,nb,pw2⟩:=y;simp only at h0 h1 h2 h3 h4 h5 h6;subst h0 h3;have:=cK.le h6;refine⟨_,_,_,_,_,rfl,rfl,h1,h4,zaj _,by omega,h2,h5,fun q q1 q2 q3=>?_⟩
  show cK c q ((_,_,_)::r) _ _;refine⟨rfl,by show 1<=na+nb;omega,by rw[←zcE];exact q3,?_⟩
  show cK c q r (sa+(na+nb)) b;rw[←zcE]
  exact h6.eq fun k k1 k2=>q2 k k1
 |x::r,a,b,i+1,⟨h0,h1,h2,h3⟩,hl=>by
  simp only[zaJ] at hl;obtain⟨sa,na,pw,nb,pw2,e1,e2,b1,b2,b3,b4,b5,b6,k⟩:=cK.two i h3 (by omega)
  refine⟨sa,na,pw,nb,pw2,e1,e2,b1,b2,by omega,b4,b5,b6,fun q q1 q2 q3=>?_⟩
  exact⟨h0,h1,h2.eq fun k k1 k2=>q1 k (by omega),k q q1 q2 q3⟩
 | [],_,_,_,_,hl=>by simp at hl
 | [x],_,_,0,_,hl=>by simp at hl
end
section
variable{prog:Program}{w:World}{A:Around}{E:Value->Shared->Prop}{s:Shared}{κ:SortKind}{it:Array Keyed}{c:Nat->Nat->Bool}{n:Nat}
structure Rn(κ:SortKind)(it:Array Keyed)(n:Nat)(c:Nat->Nat->Bool)(p:Array Nat)(l:List (Nat×Nat×Nat))(lo:Nat)(st:SortSt):Prop where
 o:Ord n p
 s:Stt κ it p st
 d:pendingOf st=l.toArray
 r:cK c p l 0 lo
theorem xk(L:cQ c)(hA:kK prog w A s κ it n c){p:Array Nat}{l:List (Nat×Nat×Nat)}{lo i:Nat}{st:SortSt}{Q:Bool->SortSt->Prop}(h:Rn κ it n c p l lo st)(hlo:lo<=n)(hi:i+1<l.length)(q:∀p' l' st',Rn κ it n c p' l' lo st'->l'.length+1=l.length->(∀k,lo<=k->p'.getD k 0=p.getD k 0)->Q true st'):wpS (model prog w) A E s (HI i) Q st:=by
 obtain⟨sa,na,pw,nb,pw2,e1,e2,b1,b2,b3,b4,b5,b6,k⟩:=cK.two i h.r hi;refine F2 L hA h.o h.s (by rw[h.d];simpa using e1) (by rw[h.d];simpa using e2) b1 b2 (by omega) b5 b6 fun p' st' hm hd=>q p' _ st' ⟨hm.o,hm.s,?_,k p' hm.lo hm.hi hm.g⟩ ?_ fun k hk=>hm.hi k (by omega)
 ·rw[hd,h.d]
  simp[Array.eraseIdxIfInBounds,show i+1<l.length from hi]
 ·rw[List.length_eraseIdx_of_lt (by rw[List.length_set];exact hi),List.length_set]
  omega
noncomputable def JU:StateT SortSt Sem Unit:=sortPriv% PySem.Builtin.sortRuns
theorem Ir{P:Nat->SortSt->Prop}{G:Prop}(R:Nat->SortSt->Prop)(k:(∀f st,R f st->P f st)->G)(h:∀f st,R f st->P f st):G:=k h
theorem D1(L:cQ c)(hA:kK prog w A s κ it n c){p:Array Nat}{st:SortSt}{Q:Unit->SortSt->Prop}(ho:Ord n p)(hS:Stt κ it p st)(hd:pendingOf st=#[])(h:∀p' st',Ord n p'->Stt κ it p' st'->Sg c p' 0 n->Q () st'):wpS (model prog w) A E s JU Q st:=by
 have hz:((sortPriv% PySem.Builtin.SortState.a) st).size=n:=by
  have:(arrOf st).size=n:=by rw[hS.a,Array.size_map,bh ho]
  exact this
 refine zai (wpS_get ?_);rw[hz];dsimp only;generalize (sortPriv% PySem.Builtin.minRun) n n 0=mr;have R0:Rn κ it n c p [] 0 st:=⟨ho,hS,hd,rfl⟩;refine zai (zbW (zbu (a:=0) (b:=n) (I:=fun x r st'=>∃lo p l,r=(none,lo)/\Rn κ it n c p l lo st'/\x<=lo/\lo<=n) (Q:=fun r st'=>∃p l,r=(none,n)/\Rn κ it n c p l n st') ?_ ?_ ⟨0,p,[],rfl,R0,zaj _,zbL _⟩) ?_)
 rotate_left
 ·rintro r st' ⟨lo,p,l,rfl,hR,h1,h2⟩
  obtain rfl:lo=n:=by omega
  exact⟨p,l,rfl,hR⟩
 ·rintro _ st' ⟨p,l,rfl,hR⟩
  dsimp only;refine zai (zbW (zbu (a:=0) (b:=n) (I:=fun x r st'=>∃p l,r=(none,())/\Rn κ it n c p l n st'/\l.length+x<=n) (Q:=fun r st'=>∃p l,r=(none,())/\Rn κ it n c p l n st'/\l.length<=1) ?_ ?_ ⟨p,l,rfl,hR,by have:=hR.r.le;omega⟩) ?_)
  ·rintro x r st2 _ hx ⟨p,l,rfl,hR,hl⟩
   refine zai (wpS_get ?_);have ed:(sortPriv% PySem.Builtin.SortState.pending) st2=l.toArray:=hR.d;rw[ed];by_cases e1:l.toArray.size<=1
   ·rw[zaf e1]
    exact zap ⟨p,l,rfl,hR,by simpa using e1⟩
   ·rw[zad e1]
    simp only[zao] at e1 ⊢;refine zai (xk L hA hR (zaj _) ?_ fun p' l' st' h1 h2 _=>?_)
    ·have:∀(d:Bool)(i:Nat),i+1<l.length->(if d=true then i-1 else i)+1<l.length:=fun d i h=>by cases d<;>simp<;>omega
     exact this _ _ (by omega)
    ·rw[zad (by decide)]
     exact zap ⟨p',l',rfl,h1,by omega⟩
  ·rintro r st2 ⟨p,l,rfl,hR,hl⟩
   exact⟨p,l,rfl,hR,by omega⟩
  ·rintro _ st2 ⟨p,l,rfl,hR,hl⟩
   refine zap (h p st2 hR.o hR.s ?_)
   match l,hR.r,hl with
   | [],h0,_=>
    simp only[cK] at h0;subst h0;exact fun i j _ _ hj=>by omega
   | [x],⟨_,_,h2,h3⟩,_=>
    simp only[cK] at h3;rw[←h3]
    exact h2
   |_::_::_,_,hl=>simp at hl
 clear R0 hd hS ho hz;rintro x r st1 _ hx ⟨lo,p,l,rfl,hR,h1,h2⟩;dsimp only;by_cases hlo:lo ≥ n
 ·rw[zaf hlo]
  obtain rfl:lo=n:=by omega
  exact zap ⟨p,l,rfl,hR⟩
 rw[zad hlo];refine zai (AW L hA (nrem:=n-lo) (by omega) (by omega) hR.o hR.s fun m p2 st2 hN m1 m2 hs=>?_)
 dsimp only;have hR2:Rn κ it n c p2 l lo st2:=⟨hN.o,hN.s,hN.d.trans hR.d,hR.r.eq fun k _ k2=>hN.l k k2⟩;have hN0:∃p3,Rn κ it n c p3 l lo st2/\Sg c p3 lo (lo+m)/\1<=m/\lo+m<=n:=⟨p2,hR2,hs,m1,by omega⟩
 apply Ir (fun f st3=>∃p3,Rn κ it n c p3 l lo st3/\Sg c p3 lo (lo+f)/\1<=f/\lo+f<=n)
 ·intro key
  by_cases hm:¬ m<mr
  ·rw[zad hm]
   generalize hf:m=f;generalize hst:st2=st3;exact key f st3 (by rw[←hf,←hst];exact hN0)
  have hm:=zbX.mp hm;rw[zaf hm];refine zai (wpS_lift (zbF ⟨rfl,?_⟩));refine zai (Hx L hA m1 (show m<=min (n-lo) mr by omega) (by omega) (.refl hN.o hN.s) hs fun p3 st3 hN3 hs3=>?_)
  rw[zad (by decide)]
  have hR3:Rn κ it n c p3 l lo st3:=⟨hN3.o,hN3.s,hN3.d.trans hR2.d,hR2.r.eq fun k _ k2=>hN3.l k k2⟩;exact key _ st3 ⟨p3,hR3,hs3,by omega,by omega⟩
 clear hN0 hs hR2 hN hR;rintro f st3 ⟨p3,hR3,hs3,g1,g2⟩;refine zai (wpS_get ?_);have ed:(sortPriv% PySem.Builtin.SortState.pending) st3=l.toArray:=hR3.d;rw[ed]
 have last:∀(p4:Array Nat) (l4:List (Nat×Nat×Nat)) (st4:SortSt),Rn κ it n c p4 l4 lo st4->Sg c p4 lo (lo+f)->wpS (model prog w) A E s (modify (fun s=>SortSt.mk' (kindOf s) (arrOf s) ((pendingOf s).push (lo,f,0)) (gallopOf s) (failedOf s)) >>= fun _=>pure (ForInStep.yield ((none,lo+f):Option Unit×Nat))) (fun r st'=>match r with
   |.done c'=>∃p l,c'=(none,n)/\Rn κ it n c p l n st'
   |.yield c'=>∃lo p l,c'=(none,lo)/\Rn κ it n c p l lo st'/\x+1<=lo/\lo<=n) st4:=fun p4 l4 st4 hR4 hs4=>by
  refine zai (wpS_modify (zap ⟨_,p4,l4++[(lo,f,0)],rfl,⟨hR4.o,⟨hR4.s.k,hR4.s.a,hR4.s.f⟩,?_,hR4.r.snoc g1 hs4⟩,by omega,g2⟩))
  show (pendingOf st4).push (lo,f,0)=_;rw[hR4.d];simp
 cases hb:l.toArray.back? with
 |none=>exact last p3 l st3 hR3 hs3
 |some y=>
  obtain⟨s1,n1,w1⟩:=y;dsimp only;generalize (sortPriv% PySem.Builtin.power) n (2*s1+n1) (2*s1+n1+n1+f) n=pw;refine zai (zbW (zbu (a:=0) (b:=n) (I:=fun _ r st'=>∃p l,r=(none,())/\Rn κ it n c p l lo st'/\Sg c p lo (lo+f)) (Q:=fun r st'=>∃p l,r=(none,())/\Rn κ it n c p l lo st'/\Sg c p lo (lo+f)) ?_ (fun _ _ h=>h) ⟨p3,l,rfl,hR3,hs3⟩) ?_)
  ·rintro _ r st4 _ _ ⟨p4,l4,rfl,hR4,hs4⟩
   refine zai (wpS_get ?_);have ed:(sortPriv% PySem.Builtin.SortState.pending) st4=l4.toArray:=hR4.d;rw[ed];by_cases e1:l4.toArray.size>1
   ·rw[zaf e1]
    cases e2:l4.toArray[l4.toArray.size-2]? with
    |none=>exact zap ⟨p4,l4,rfl,hR4,hs4⟩
    |some y=>
     dsimp only;split
     ·exact zap ⟨p4,l4,rfl,hR4,hs4⟩
     ·simp only[zao] at e1 ⊢
      refine zai (xk L hA hR4 h2 (by omega) fun p' l' st' k1 k2 k3=>?_)
      rw[zad (by decide)]
      exact zap ⟨p',l',rfl,k1,hs4.eq fun k q1 _=>k3 k q1⟩
   ·rw[zad e1]
    exact zap ⟨p4,l4,rfl,hR4,hs4⟩
  ·rintro _ st4 ⟨p4,l4,rfl,hR4,hs4⟩
   dsimp only;refine zai (wpS_modify ?_);refine last p4 (l4.modify (l4.length-1) fun x=>(x.1,x.2.1,pw)) _ ⟨hR4.o,⟨hR4.s.k,hR4.s.a,hR4.s.f⟩,?_,hR4.r.powr (fun x=>(x.1,x.2.1,pw)) (fun x=>⟨rfl,rfl⟩) _⟩ hs4;show (pendingOf st4).modify ((pendingOf st4).size-1) (fun x=>(x.1,x.2.1,pw))=_;rw[hR4.d];simp
end
end L2
namespace L2
open PySem PySem.Spec PySem.Calls PyProof PyProof.Rows PySem.SeqAt
section
variable{prog:Program}{w:World}{A:Around}{E:Value->Shared->Prop}{s:Shared}
noncomputable def nD(vs:List Value)(p:Array Nat):Array Value:=List.toArray (p.toList.map fun i=>vs.getD i Value.none)
noncomputable abbrev q9(vs:List Value):Array Keyed:=vs.toArray.zip vs.toArray
theorem lY{vs:List Value}{i:Nat}(h:i<vs.length):W.kas_item (q9 vs) i=(vs.getD i Value.none,vs.getD i Value.none):=by
 unfold W.kas_item;simp[zaU,h]
theorem r8(vs:List Value):q9 vs=((List.range vs.length).toArray).map (W.kas_item (q9 vs)):=by
 apply Array.ext_getElem?;intro i;by_cases h:i<vs.length
 ·rw[show (((List.range vs.length).toArray).map (W.kas_item (q9 vs)))[i]?=some (W.kas_item (q9 vs) i) by simp[h],lY h]
  simp[h]
 ·rw[zbB (by simp;omega),zbB (by simp;omega)]
theorem uB{n:Nat}{vs:List Value}{p:Array Nat}(h:Ord n p):(nD vs p).size=n:=by
 have:=bh h;simp[nD,this]
theorem rX{vs:List Value}{p:Array Nat}(h:Ord vs.length p):(p.map (W.kas_item (q9 vs))).map (·.2)=nD vs p:=by
 apply Array.ext';simp only[nD,Array.toList_map,zaO];refine zcU fun i hi=>?_;rw[zaV,lY (h.mem hi)]
theorem Cr{a:Addr}{vs:List Value}{c:Nat->Nat->Bool}{b:Bool}{k:Nat}{h0:Heap}{P:PySem.Fin->Shared->Prop}(g:s.heap.get? a=some (seqObj "list" vs.toArray k))(kp:∀x o,h0.get? x=some o->x≠a/\s.heap.get? x=some o)(S:2<=vs.length->BH prog w A h0 s vs c b)(L:cQ c)(hs:vs.length<=sizeLine)(q:∀p,Ord vs.length p->Sg c p 0 vs.length->P (.done (.ret .none)) { s with heap:=sortedHeap s.heap a vs (nD vs p) }):wpAny (model prog w) A (Builtin.«list.sort» ⟨[.ref a],[]⟩) P E s:=by
 have zv:vs.toArray.size<=sizeLine:=by rw[zao];exact hs
 rw[list_sort_plain];obtain⟨e1,g1⟩:∃e1,(s.heap.update a (Obj.mapSeq fun _=>(#[]:Array Value))).get? a=some (seqObj "list" #[] e1):=⟨_,get?_update_seq g fun _=>#[]⟩;refine zaa (listItems_at g rfl (zaa (listUpdate_at g rfl (zaa (seqEpoch_at g1 rfl (zaa (wpAny_newTuple (zaa (wpAny_newList (zbs ?_) (zbL _))) ?_)))) zv (zbL _))))
 case refine_2=>show vs.length<=_;omega
 have g3:(((s.heap.update a (Obj.mapSeq fun _=>(#[]:Array Value))).push (seqObj "tuple" vs.toArray 0)).push (seqObj "list" #[] 0)).get? a=some (seqObj "list" #[] e1):=zac _ (zac _ g1)
 have k3:tw h0 (((s.heap.update a (Obj.mapSeq fun _=>(#[]:Array Value))).push (seqObj "tuple" vs.toArray 0)).push (seqObj "list" #[] 0)):=fun x o e=>by
  obtain⟨nx,ex⟩:=kp x o e;exact zac _ (zac _ ((Heap.get?_update_ne _ _ _ _ nx).trans ex))
 show wpAny (model prog w) A _ P E { s with heap:=((s.heap.update a (Obj.mapSeq fun _=>(#[]:Array Value))).push (seqObj "tuple" vs.toArray 0)).push (seqObj "list" #[] 0) }
 have fin:∀(p:Array Nat)(out:Array Value),Ord vs.length p->Sg c p 0 vs.length->out=nD vs p->P (.done (.ret .none)) { s with heap:=(((s.heap.update a (Obj.mapSeq fun _=>(#[]:Array Value))).push (seqObj "tuple" vs.toArray 0)).push (seqObj "list" #[] 0)).update a (Obj.mapSeq fun _=>out) }:=fun p out h1 h2 e=>by
  subst e;exact q p h1 h2
 generalize hh:((s.heap.update a (Obj.mapSeq fun _=>(#[]:Array Value))).push (seqObj "tuple" vs.toArray 0)).push (seqObj "list" #[] 0)=hp at g3 k3 fin ⊢;dsimp only;by_cases h2:vs.toArray.size<2
 ·rw[zaf h2,zaf h2]
  refine zaa (zab ?_);rw[StateT.run_pure];refine zaa (zab ?_);dsimp only
  have e2:(arrOf (SortSt.mk' general' (vs.toArray.zip vs.toArray) #[] 7 none)).map (·.2)=nD vs (List.range vs.length).toArray:=by
   show (q9 vs).map (·.2)=_
   rw[r8];exact rX (.refl _)
  rw[e2];refine zaa (seqEpoch_at g3 rfl (zaa (listUpdate_at g3 rfl ?_ (zbL _) (by rw[uB (.refl _)];omega))))
  simp only[bne_self_eq_false,zak,zaP];refine zab (fin _ _ (.refl _) (fun i j _ h3 h4=>?_) rfl);rw[zao] at h2;obtain rfl:i=j:=by omega
  exact L.self _
 ·rw[zad h2,zad h2]
  rw[zao] at h2;have S:=S (by omega)
  obtain⟨fs,T,t1,t2,t3,t4,t5⟩:=S.kind hp k3;refine zaa (W.kat_kind (T:=T) t1 (by omega) t3 t4 ?_)
  rw[t5];refine zaa (zbi (D1 (prog:=prog) (w:=w) (A:=A) (E:=E) (s:={ s with heap:=hp }) (κ:=tuples' b) (it:=q9 vs) (c:=c) (n:=vs.length) (p:=(List.range vs.length).toArray) (Q:=fun _ st'=>∃p,Ord vs.length p/\Stt (tuples' b) (q9 vs) p st'/\Sg c p 0 vs.length) L (fun i j hi hj C E' hC=>?_) (.refl _) ⟨rfl,r8 vs,rfl⟩ rfl fun p st' h1 h2 h3=>⟨p,h1,h2,h3⟩) ?_ fun _ _ e=>e)
  ·rw[lY hi,lY hj]
   exact S.ask hp k3 i j hi hj C _ hC
  ·rintro⟨⟨⟩,st'⟩ s' ⟨rfl,p,b1,b2,b3⟩
   dsimp only at b1 b2 ⊢;have e2:(arrOf st').map (·.2)=nD vs p:=by rw[b2.a];exact rX b1
   rw[e2];refine zaa (seqEpoch_at g3 rfl (zaa (listUpdate_at g3 rfl ?_ (zbL _) (by rw[uB b1];omega))))
   rw[b2.f];simp only[bne_self_eq_false,zak,zaP];exact zab (fin p _ b1 b3 rfl)
theorem mE{l:Addr}{ob:Obj}{vs:List Value}{m:Nat}{c:Nat->Nat->Bool}{b:Bool}{Q:Value->Shared->Prop}(g:s.heap.get? l=some ob)(gc:ob.cls=.type "list"\/ob.cls=.type "tuple")(gd:ob.data=.seq vs.toArray m)(S:2<=vs.length->∀A':Around,A'.units<=A.units+3->BH prog w A' s.heap s vs c b)(L:cQ c)(hs:vs.length<=sizeLine)(q:∀p,Ord vs.length p->Sg c p 0 vs.length->Q (.ref (s.heap.objs.size+1)) { s with heap:=sortedAll s.heap vs (nD vs p) }):wpAny (model prog w) A (call (.builtin "sorted") [.ref l]) Q E s:=by
 refine Calls.call_function_entry kind_sorted plain_sorted entry_sorted (args_sorted1 _) ?_;unfold Builtin.«sorted»;have n1:((s.heap.push (seqObj "list" #[] 0)).update s.heap.objs.size (Obj.mapSeq (·++vs.toArray))).objs.size=s.heap.objs.size+1:=by rw[Heap.size_update,size_push']
 refine zaa (m:=checkCount "sorted" 1 1 _) (zab (zaa (rV g gc gd hs (zaa (wpAny_newList ?_ (by omega))))))
 have g2:(((s.heap.push (seqObj "list" #[] 0)).update s.heap.objs.size (Obj.mapSeq (·++vs.toArray))).push (seqObj "list" vs.toArray 0)).get? (s.heap.objs.size+1)=some (seqObj "list" vs.toArray 0):=by
  rw[←n1];exact zan _ rfl
 have kp:∀x o,s.heap.get? x=some o->x≠s.heap.objs.size+1/\(((s.heap.push (seqObj "list" #[] 0)).update s.heap.objs.size (Obj.mapSeq (·++vs.toArray))).push (seqObj "list" vs.toArray 0)).get? x=some o:=fun x o e=>by
  have lt:=zaq e;exact⟨zaF (zdc lt),zac _ ((Heap.get?_update_ne _ _ _ _ (zaF lt)).trans (zac _ e))⟩
 show wpAny _ _ _ _ _ { s with heap:=((s.heap.push (seqObj "list" #[] 0)).update s.heap.objs.size (Obj.mapSeq (·++vs.toArray))).push (seqObj "list" vs.toArray 0) }
 rw[n1];refine zaa (zbs (zbt slot_list_sort ⟨_,g2,rfl⟩ entry_list_sort (Cr (c:=c) (b:=b) g2 kp (fun h2=>?_) L hs fun p h1 h2=>⟨_,rfl,zab ⟨_,rfl,q p h1 h2⟩⟩) (args_list_sort _)));have S1:=S h2 A.in1.in1 (by show A.units+1+1<=A.units+3;omega)
 exact⟨S1.kind,fun h kh i j hi hj C E' hC=>S1.ask h kh i j hi hj C E' hC⟩
end
mutual
noncomputable def enc:D->List Int
 |.int i=>[i]
 |.tup ds=>uv ds
 |_=>[]
noncomputable def uv:List D->List Int
 | []=>[0]
 |d::ds=>1::(enc d++uv ds)
end
mutual
noncomputable def nu:D->Bool
 |.int _=>true
 |.tup ds=>nus ds
 |_=>false
noncomputable def nus:List D->Bool
 | []=>true
 |d::ds=>nu d && nus ds
end
mutual
theorem oZ:∀(a b:D),nu a=true->nu b=true->eqD a b=true->a=b
 |.int i,.int j,_,_,h=>by rw[cL] at h;simp at h;rw[h]
 |.tup xs,.tup ys,h1,h2,h=>by
  simp only[nu] at h1 h2;rw[CS xs ys h1 h2 (by simpa only[eqD] using h)]
 |.int _,.tup _,_,_,h=>by simp[eqD] at h
 |.tup _,.int _,_,_,h=>by simp[eqD] at h
 |.non,_,h,_,_=>by simp[nu] at h
 |.bl _,_,h,_,_=>by simp[nu] at h
 |.str _,_,h,_,_=>by simp[nu] at h
 |.lst _,_,h,_,_=>by simp[nu] at h
 |.dk _,_,h,_,_=>by simp[nu] at h
 |.dt _,_,h,_,_=>by simp[nu] at h
 |_,.non,_,h,_=>by simp[nu] at h
 |_,.bl _,_,h,_=>by simp[nu] at h
 |_,.str _,_,h,_=>by simp[nu] at h
 |_,.lst _,_,h,_=>by simp[nu] at h
 |_,.dk _,_,h,_=>by simp[nu] at h
 |_,.dt _,_,h,_=>by simp[nu] at h
theorem CS:∀(a b:List D),nus a=true->nus b=true->db a b=true->a=b
 | [],[],_,_,_=>rfl
 | [],_::_,_,_,h=>by simp[db] at h
 |_::_,[],_,_,h=>by simp[db] at h
 |x::xs,y::ys,h1,h2,h=>by
  simp only[nus,db,zax] at h1 h2 h;rw[oZ x y h1.1 h2.1 h.1,CS xs ys h1.2 h2.2 h.2]
end
mutual
theorem Dc:∀(a:D),nu a=true->cmD a a=true
 |.int i,_=>rfl
 |.tup xs,h=>by
  simp only[nu] at h;simp only[cmD];exact tH xs h
 |.non,h=>by simp[nu] at h
 |.bl _,h=>by simp[nu] at h
 |.str _,h=>by simp[nu] at h
 |.lst _,h=>by simp[nu] at h
 |.dk _,h=>by simp[nu] at h
 |.dt _,h=>by simp[nu] at h
theorem tH:∀(a:List D),nus a=true->fA a a=true
 | [],_=>rfl
 |x::xs,h=>by
  simp only[nus,zax] at h;simp only[fA,dg,zaX];exact tH xs h.2
end
mutual
theorem mF:∀(a b:D),nu a=true->nu b=true->cmD a b=true->∀s t,bU (enc a++s) (enc b++t)=if eqD a b=true then bU s t else ltD a b
 |.int i,.int j,_,_,_,s,t=>by
  simp only[enc,zbD,zcp,bU,cL,ltD,beq_iff_eq]
 |.tup xs,.tup ys,h1,h2,h3,s,t=>by
  simp only[nu] at h1 h2;simp only[cmD] at h3;simp only[enc,eqD,ltD];exact x9 xs ys h1 h2 h3 s t
 |.int _,.tup _,_,_,h,_,_=>by simp[cmD] at h
 |.tup _,.int _,_,_,h,_,_=>by simp[cmD] at h
 |.non,_,h,_,_,_,_=>by simp[nu] at h
 |.bl _,_,h,_,_,_,_=>by simp[nu] at h
 |.str _,_,h,_,_,_,_=>by simp[nu] at h
 |.lst _,_,h,_,_,_,_=>by simp[nu] at h
 |.dk _,_,h,_,_,_,_=>by simp[nu] at h
 |.dt _,_,h,_,_,_,_=>by simp[nu] at h
 |_,.non,_,h,_,_,_=>by simp[nu] at h
 |_,.bl _,_,h,_,_,_=>by simp[nu] at h
 |_,.str _,_,h,_,_,_=>by simp[nu] at h
 |_,.lst _,_,h,_,_,_=>by simp[nu] at h
 |_,.dk _,_,h,_,_,_=>by simp[nu] at h
 |_,.dt _,_,h,_,_,_=>by simp[nu] at h
theorem x9:∀(a b:List D),nus a=true->nus b=true->fA a b=true->∀s t,bU (uv a++s) (uv b++t)=if db a b=true then bU s t else gq a b
 | [],[],_,_,_,s,t=>by simp[uv,bU,db]
 | [],_::_,_,_,_,s,t=>by simp[uv,bU,db,gq]
 |_::_,[],_,_,_,s,t=>by simp[uv,bU,db,gq]
 |x::xs,y::ys,h1,h2,h3,s,t=>by
  simp only[nus,zax] at h1 h2;simp only[fA] at h3;simp only[uv,zbD,zbM,bU,zaX,db,gq,zax];by_cases e:eqD x y=true
  ·obtain rfl:=oZ x y h1.1 h2.1 e
   rw[zaf e] at h3;rw[mF x x h1.1 h2.1 (Dc x h1.1),zaf e,x9 xs ys h1.2 h2.2 h3,zaf e];simp[e]
  ·rw[zad e] at h3
   rw[mF x y h1.1 h2.1 h3,zad e,zad e,zad (fun z=>e z.1)]
end
theorem zU{a b:D}(h1:nu a=true)(h2:nu b=true)(h3:cmD a b=true):ltD a b=bU (enc a) (enc b):=by
 have e0:=mF a b h1 h2 h3 [] [];rw[zaM,zaM] at e0;rw[e0];by_cases e:eqD a b=true
 ·obtain rfl:=oZ a b h1 h2 e
  rw[zaf e];exact lt_self a h1
 ·rw[zad e]
where
 lt_self:∀(a:D),nu a=true->ltD a a=false
 |.int i,_=>by simp[ltD]
 |.tup xs,h=>by simp only[nu] at h;simp only[ltD];exact lts_self xs h
 |.non,h=>by simp[nu] at h
 |.bl _,h=>by simp[nu] at h
 |.str _,h=>by simp[nu] at h
 |.lst _,h=>by simp[nu] at h
 |.dk _,h=>by simp[nu] at h
 |.dt _,h=>by simp[nu] at h
 lts_self:∀(a:List D),nus a=true->gq a a=false
 | [],_=>rfl
 |x::xs,h=>by
  simp only[nus,zax] at h
  simp only[gq,dg,zaX]
  exact lts_self xs h.2
theorem Dw{a b:D}(h1:nu a=true)(h2:nu b=true)(h3:cmD a b=true)(e:enc a=enc b):a=b:=by
 by_cases h:eqD a b=true
 ·exact oZ a b h1 h2 h
 ·have l1:=mF a b h1 h2 h3 [0] [1]
  have l2:=mF a b h1 h2 h3 [1] [0];rw[zad h,e] at l1 l2
  have s1:∀x:List Int,bU (x++[0]) (x++[1])=true:=fun x=>by
   induction x with
   |nil=>rfl
   |cons a x ih=>simpa[bU] using ih
  have s2:∀x:List Int,bU (x++[1]) (x++[0])=false:=fun x=>by
   induction x with
   |nil=>rfl
   |cons a x ih=>simpa[bU] using ih
  rw[s1] at l1;rw[s2,←l1] at l2
  cases l2
noncomputable def Eo(d:D):Prop:=∃ds r,d=.tup (.tup ds::r)
section
variable{X:Cx}{pins:List (Addr×Obj)}{σ:St}{H:Hp}{s:Shared}{A:Around}
theorem BC(I:Inv X pins σ H s):∀ {W:List D} {xs:List V} {vs:List Value},(∀d∈W,Eo d)->ao H W xs->ay xs vs->∃fs,PySem.W.KatTups s.heap vs fs/\fs.length=vs.length/\∀v∈fs,∃a o,v=.ref a/\s.heap.get? a=some o/\o.cls=.type "tuple"
 | [],xs,vs,_,h,r=>by
  simp only[ao] at h;subst h;cases r;exact⟨[],trivial,rfl,by simp⟩
 |d::W,xs,vs,hk,h,r=>by
  simp only[ao] at h;obtain⟨x,xr,rfl,hx,hxr⟩:=h
  cases r with
  | @cons _ v _ vs rx rxr=>
  obtain⟨fs,g1,g2,g3⟩:=BC I (fun e he=>hk e (zar _ he)) hxr rxr;obtain⟨ds,aJ,e⟩:=hk d zau;subst e;simp only[Dat] at hx;obtain⟨a,ys,rfl,ha,hys⟩:=hx;simp only[ao] at hys;obtain⟨fx,yr,rfl,hf,_⟩:=hys;simp only[Dat] at hf;obtain⟨b,zs,rfl,hb,_⟩:=hf;cases rx;obtain⟨_,its,e4,⟨o,e5,e6,n,e7⟩,_⟩:=I.hok a _ ha;obtain⟨_,_,_,⟨o2,e8,e9,_⟩,_⟩:=I.hok b _ hb
  cases e4 with
  | @cons _ fv _ vr rf _=>
   cases rf;refine⟨.ref b::fs,PySem.W.KatTups.cons e5 e6 e7 (by simp) g1,by simp[g2],fun v hv=>?_⟩
   rcases zay.mp hv with rfl|hv
   ·exact⟨b,o2,rfl,e8,e9⟩
   ·exact g3 v hv
theorem zP(I:Inv X pins σ H s){n:Nat}(hu:A.units+n<cLine){W:List D}{xs:List V}{vs:List Value}{c:Nat->Nat->Bool}(hk:∀d∈W,Eo d)(hd:bW W<=n)(hx:ao H W xs)(r:ay xs vs)(hc:∀d∈W,∀e∈W,cmD d e=true)(hl:∀i j,i<W.length->j<W.length->c i j=ltD (W.getD i .non) (W.getD j .non)):BH X.prog X.w A s.heap s vs c false:=by
 have inv:∀h,tw s.heap h->Inv X pins σ H { s with heap:=h }:=fun h kh=>I.kept (t':=s.toks) fun b o e=>kh b o e;have hlen:vs.length=W.length:=by rw[←r.length,hx.length]
 refine⟨fun h kh=>?_,fun h kh i j hi hj C E q=>?_⟩
 ·obtain⟨fs,f1,f2,f3⟩:=BC (inv h kh) hk hx r
  refine⟨fs,.type "tuple",f1,f2,fun v hv=>?_,rfl,rfl⟩;obtain⟨a,o,rfl,e1,e2⟩:=f3 v hv;exact e2 ▸ (PySem.W.Looks.ld e1).andThen .now
 ·have J:=inv h kh
  have at':∀i,i<vs.length->∃a ds ys its o m,W.getD i .non=.tup ds/\D.tup ds∈W/\vs.getD i Value.none=.ref a/\ao H ds ys/\ay ys its/\h.get? a=some o/\o.data=.seq its.toArray m:=fun i hi=>by
   have hw:i<W.length:=by omega
   have hm:W[i]∈W:=zaE hw;obtain⟨ds,aJ,e⟩:=hk _ hm;obtain⟨x,ex,dx⟩:=hx.get (zae hw);obtain⟨u,eu,ru⟩:=r.get ex;rw[e] at dx hm;simp only[Dat] at dx;obtain⟨a,ys,rfl,ha,hys⟩:=dx;cases ru;obtain⟨_,its,r4,⟨o,e5,e6,m,e7⟩,_⟩:=(show bb X.prog X.w H h a (.tup ys) from J.hok a _ ha)
   exact⟨a,_,ys,its,o,m,by rw[zag,zae hw,e];rfl,hm,by rw[zag,eu];rfl,hys,r4,e5,e7⟩
  obtain⟨a1,ds,ys,its,o1,m1,w1,i1,v1,d1,r1,g1,b1⟩:=at' i hi;obtain⟨a2,es,zs,jts,o2,m2,w2,i2,v2,d2,r2,g2,b2⟩:=at' j hj;rw[hl i j (by omega) (by omega),w1,w2] at q
  rw[v1,v2];refine PySem.W.kat_lt g1 b1 g2 b2 ?_
  have dd:bW ds<=n:=by
   have:=fL i1;simp only[dep] at this;omega
  have:=vE (Q:=C) J hu (b:=false) 0 dd d1 d2 r1 r2 (hc _ i1 _ i2) (fun z=>by simp at z) q
  simpa using this
end
structure Rows(W:List D):Prop where
 nu:∀d∈W,nu d=true
 cm:∀d∈W,∀e∈W,cmD d e=true
 kd:(∀d∈W,qf false d)\/∀d∈W,Eo d
noncomputable def wn(R:List D):Prop:=R.Pairwise fun a b=>bU (enc b) (enc a)=false
theorem rG{W:List D}(h:Rows W):∀ {A B:List D},(∀d∈A,d∈W)->A.Perm B->wn A->wn B->A=B
 | [],B,_,p,_,_=>by rw[List.nil_perm.mp p]
 |a::A,[],_,p,_,_=>by simp at p
 |a::A,b::B,s,p,h1,h2=>by
  have ma:a∈b::B:=p.mem_iff.mp (zau ..);have mb:b∈a::A:=p.mem_iff.mpr (zau ..)
  have e:a=b:=by
   rcases zay.mp ma with h|h'
   ·exact h
   ·rcases zay.mp mb with h|h''
    ·exact h.symm
    ·have wa:=s a (zau ..)
     have wb:=s b mb;exact Dw (h.nu a wa) (h.nu b wb) (h.cm a wa b wb) (CH _ _ (List.rel_of_pairwise_cons h1 h'') (List.rel_of_pairwise_cons h2 h'))
  subst e;rw[rG h (fun d hd=>s d (zar _ hd)) (List.Perm.cons_inv p) h1.of_cons h2.of_cons]
noncomputable def cE(W:List D):Nat->Nat->Bool:=fun i j=>bU (enc (W.getD i .non)) (enc (W.getD j .non))
theorem Gn(W:List D):cQ (cE W):=⟨fun i j h=>qy _ _ h,fun i j k h1 h2=>vL _ _ _ h1 h2⟩
theorem Rows.at'{W:List D}(h:Rows W):∀i j,i<W.length->j<W.length->cE W i j=ltD (W.getD i .non) (W.getD j .non):=fun i j hi hj=>by
 have g:∀i,i<W.length->W.getD i .non∈W:=fun i hi=>by rw[zag,zae hi];exact zaE hi
 exact(zU (h.nu _ (g i hi)) (h.nu _ (g j hj)) (h.cm _ (g i hi) _ (g j hj))).symm
noncomputable def kO(xs:List V)(p:Array Nat):List V:=p.toList.map fun i=>xs.getD i .non
noncomputable def lH(W:List D)(p:Array Nat):List D:=p.toList.map fun i=>W.getD i .non
theorem iG{W:List D}{p:Array Nat}(h:Ord W.length p):(lH W p).Perm W:=by
 have h':p.toList.Perm (List.range W.length):=by simpa using h.toList
 refine(h'.map fun i=>W.getD i .non).trans (.of_eq ?_);apply List.ext_getElem?;intro i;by_cases hi:i<W.length
 ·rw[zam,List.getElem?_range hi,zae hi]
  simp[hi]
 ·rw[List.getElem?_eq_none (by simpa using hi),List.getElem?_eq_none (by simpa using hi)]
theorem Ax{W:List D}{p:Array Nat}(h:Ord W.length p)(hs:Sg (cE W) p 0 W.length):wn (lH W p):=by
 have hz:=bh h;refine zbO.mpr fun i j hi hj hij=>?_;have hl:(lH W p).length=W.length:=(iG h).length_eq
 have at_:∀k (hk:k<(lH W p).length),(lH W p)[k]=W.getD (p.getD k 0) .non:=fun k hk=>by
  simp[lH,zaU,show k<p.size by omega]
 rw[at_ i hi,at_ j hj];exact hs i j (zbL _) (by omega) (by omega)
noncomputable def zT(K:PySem.W.Frag):List V->Hp->VK->Prop:=fun xs H Q=>∃(q:Addr)(ys:List V)(W:List D),xs=[.ref q]/\(SqL K H q ys\/SqT K H q ys)/\ao H W ys/\(2<=W.length->Rows W)/\bW W<=90 /\
 ∀p l,Ord W.length p->Sg (cE W) p 0 W.length->H l=none->Q (.ref l) (upd H l (.lst (kO ys p)))
theorem qb{X:Cx}(K:PySem.W.Frag)(hK:X.K=K)(hu:X.A.units+100<cLine):cW X (.builtin "sorted") (zT K):=by
 subst hK;intro pins s σ H xs us Q I r h;obtain⟨a,ys,W,rfl,hq,hd,hr,hdp,q⟩:=h;obtain⟨u,rfl,rx⟩:=gE r;cases rx
 obtain⟨its,ob,m,r',g,gc,gd,hz⟩:∃its ob m,ay ys its/\s.heap.get? a=some ob/\(ob.cls=.type "list"\/ob.cls=.type "tuple")/\ob.data=.seq its.toArray m/\ys.length<=sizeLine:=by
  rcases hq with hq|hq
  ·obtain⟨its,r',pl,hz⟩:=I.list hq
   obtain⟨ob,g,gc,m,gd⟩:=pl.isList;exact⟨its,ob,m,r',g,.inl gc,gd,hz⟩
  ·obtain⟨its,r',pl,hz⟩:=I.tuple hq
   obtain⟨ob,g,gc,m,gd⟩:=pl;exact⟨its,ob,m,r',g,.inr gc,gd,hz⟩
 have e1:its.length=W.length:=by rw[←r'.length,hd.length]
 have e2:ys.length=its.length:=r'.length
 have fin:∀b,(2<=its.length->∀A':Around,A'.units<=X.A.units+3->BH X.prog X.w A' s.heap s its (cE W) b)->wpAny (model X.prog X.w) X.A (call (.builtin "sorted") [.ref a]) (fun v s1=>∃x H1,Inv X pins σ H1 s1/\aB x v/\Q x H1) X.xe s:=fun b S=>by
  refine mE (c:=cE W) (b:=b) g gc gd S (Gn W) (by omega) fun p h1 h2=>?_
  obtain⟨e,he⟩:=sortedAll_at s.heap its (nD its p)
  have hv:ay (kO ys p) (p.toList.map fun i=>its.getD i Value.none):=by
   unfold kO;refine on fun i hi=>?_;have hi':=h1.mem hi;obtain⟨u,hu,ru⟩:=r'.get (zae (by omega:i<ys.length))
   rw[zag,zag,hu,zae (by omega:i<ys.length)]
   exact ru
  have hl2:(kO ys p).length<=sizeLine:=by
   have a:=bh h1;simp[kO];omega
  rw[e1] at h1 h2;exact⟨.ref (s.heap.objs.size+1),_,I.laid (t':=s.toks) (fun b o e=>sortedAll_old e) (Nat.le_succ _) (show bb X.prog X.w _ _ _ (.lst (kO ys p)) from ⟨hl2,_,e,hv,he⟩),rfl,q p _ h1 h2 (I.hok.fresh (Nat.le_succ _))⟩
 by_cases h2:2<=W.length
 ·have R:=hr h2
  rcases R.kd with hk|hk
  ·refine fin true fun _ A' hA=>?_
   exact G6 I (n:=90) (by omega) hk hdp hd r' R.cm R.at'
  ·refine fin false fun _ A' hA=>?_
   exact zP I (n:=90) (by omega) hk hdp hd r' R.cm R.at'
 ·exact fin true fun h=>absurd h (by omega)
theorem rY{H:Hp}{W:List D}{xs:List V}(h:ao H W xs){p:Array Nat}(hp:Ord W.length p):ao H (lH W p) (kO xs p):=m8 h fun i hi=>hp.mem hi
noncomputable def Co:AC:=fun xs Z Q=>∃(x:AV)(W:List D),xs=[x]/\(x=.d (.tup W)\/bo Z x=some (.lst W))/\(2<=W.length->Rows W)/\bW W<=90/\∀R,R.Perm W->wn R->Q (.d (.lst R)) Z
theorem yD(xs:List AV)(Z:Om)(Q:AV->Om->Prop):Co xs Z Q=∃(x:AV)(W:List D),xs=[x]/\(x=.d (.tup W)\/bo Z x=some (.lst W))/\(2<=W.length->Rows W)/\bW W<=90/\∀R,R.Perm W->wn R->Q (.d (.lst R)) Z:=rfl
theorem BV{F:Fs}{H:Hp}{Z:Om}{x:AV}{v:V}{W:List D}{K:PySem.W.Frag}(rp:Rep F H Z)(r:RV (cut F H Z) x v)(h:x=.d (.tup W)\/bo Z x=some (.lst W)):∃a us,v=.ref a/\(SqL K H a us\/SqT K H a us)/\ao (cut F H Z) W us:=by
 rcases h with rfl|h
 ·simp only[RV,Dat] at r
  obtain⟨a,us,rfl,z1,z2⟩:=r;exact⟨a,us,rfl,.inr (.inl (.inl (ar _ _ z1))),z2⟩
 ·obtain⟨a,us,rfl,z1,z2⟩:=ff rp r h
  exact⟨a,us,rfl,.inl (.inl (.inl z1)),z2⟩
theorem DS{K:PySem.W.Frag}:jo (zT K) Co:=⟨fun F H Z vs xs Q Q' rp rv ⟨x,W,e1,e2,e3,e4,q⟩ k=>by
 subst e1;obtain⟨v,rfl,r⟩:=i8 rv;obtain⟨a,us,rfl,z1,z2⟩:=BV (K:=K) rp r e2
 exact⟨a,us,W,rfl,z1,z2.same ar,e3,e4,fun p l h1 h2 hl=>k.lst rp (rY z2 h1) (q _ (iG h1) (Ax h1 h2)) l hl⟩⟩
end L2
namespace L2
open PySem PySem.Spec PyProof PyProof.Rows
end L2
set_option maxRecDepth 1000000
set_option maxHeartbeats 4000000
namespace L2
open PySem PySem.Spec PyProof.Rows
structure NK(prog:Program)(w:World)(K:Type)[DecidableEq K] where
 rank:Nat
 is:Heap->K->Addr->Prop
 hash:K->Int
 draws:K->Nat
 tup:∀ {h:Heap} {k:K} {b:Addr},is h k b->∃o items n,h.get? b=some o/\o.cls=.type "tuple"/\o.data=.seq items n
 inj:∀ {h:Heap} {a:Addr} {x y:K},is h x a->is h y a->x=y
 frame:∀ {h h':Heap} {k:K} {b:Addr},is h k b->(∀c o items n,h.get? c=some o->o.cls=.type "tuple"->o.data=.seq items n->h'.get? c=some o)->is h' k b
 pyHash:∀ {A:Around} {E:Value->Shared->Prop} {s:Shared} {Q:Int->Shared->Prop} {k:K} {b:Addr},A.units+rank<cLine->is s.heap k b->Q (hash k) { s with toks:=s.toks+draws k }->wpAny (model prog w) A (pyHash (.ref b)) Q E s
 eqBool:∀ {A:Around} {E:Value->Shared->Prop} {s:Shared} {Q:Bool->Shared->Prop} {k l:K} {a b:Addr},A.units+rank<cLine->is s.heap k a->is s.heap l b->Q (decide (k=l)) s->wpAny (model prog w) A (PySem.eqBool (.ref a) (.ref b)) Q E s
 quiet:∀ {A:Around} {E:Value->Shared->Prop} {s:Shared} {Q:Bool->Shared->Prop} {k:K} {b:Addr} {n:Nat},rank<=n->is s.heap k b->Q true s->wpAny (model prog w) A (eqIsQuiet n (.ref b)) Q E s
 noCl:∀ {A:Around} {E:Value->Shared->Prop} {s:Shared} {Q:Bool->Shared->Prop} {k:K} {b:Addr} {n:Nat},rank<=n->is s.heap k b->Q false s->wpAny (model prog w) A (ofAClassStatement n (.ref b)) Q E s
 byV:∀ {A:Around} {E:Value->Shared->Prop} {s:Shared} {Q:Bool->Shared->Prop} {k:K} {b:Addr} {n:Nat},rank<=n->is s.heap k b->Q true s->wpAny (model prog w) A (hashByValue n (.ref b)) Q E s
section
variable{prog:Program}{w:World}{K:Type}[DecidableEq K](knd:NK prog w K)
inductive ItN (h:Heap):List K->List Value->Prop
 |nil:ItN h [] []
 |cons {k:K} {b:Addr} {ks:List K} {vs:List Value}:knd.is h k b->ItN h ks vs->ItN h (k::ks) (.ref b::vs)
noncomputable def IsN(h:Heap)(ks:List K)(a:Addr):Prop:=∃o items n,h.get? a=some o/\o.cls=.type "tuple"/\o.data=.seq items n/\ItN knd h ks items.toList
variable{knd}
theorem ItN.inj{h:Heap}{x y:List K}{vs:List Value}(hx:ItN knd h x vs)(hy:ItN knd h y vs):x=y:=by
 induction hx generalizing y with
 |nil=>cases hy;rfl
 |cons h1 _ ih=>
  cases hy with
  |cons h2 t2=>rw[knd.inj h1 h2,ih t2]
theorem ItN.frame{h h':Heap}{ks:List K}{vs:List Value}(x:ItN knd h ks vs)(f:∀c o items n,h.get? c=some o->o.cls=.type "tuple"->o.data=.seq items n->h'.get? c=some o):ItN knd h' ks vs:=by
 induction x with
 |nil=>exact .nil
 |cons h1 _ ih=>exact .cons (knd.frame h1 f) ih
theorem IsN.typeIs{s:Shared}{ks:List K}{a:Addr}(x:IsN knd s.heap ks a):s.TypeIs (.ref a) "tuple":=let ⟨o,_,_,ho,hc,_⟩:=x;⟨o,ho,hc⟩
theorem IsN.inj{h:Heap}{a:Addr}{x y:List K}(hx:IsN knd h x a)(hy:IsN knd h y a):x=y:=by
 obtain⟨o,items,n,ho,_,hd,hi⟩:=hx;obtain⟨o',items',n',ho',_,hd',hi'⟩:=hy;obtain rfl:o=o':=zbj (ho.symm.trans ho');rw[hd] at hd';injection hd' with h1 _;subst h1;exact hi.inj hi'
theorem IsN.frame{h h':Heap}{ks:List K}{a:Addr}(x:IsN knd h ks a)(f:∀c o items n,h.get? c=some o->o.cls=.type "tuple"->o.data=.seq items n->h'.get? c=some o):IsN knd h' ks a:=by
 obtain⟨o,items,n,ho,hc,hd,hi⟩:=x;exact⟨o,items,n,f _ _ _ _ ho hc hd,hc,hd,hi.frame f⟩
noncomputable def Bd(knd:NK prog w K)(ks:List K):Int:=reduceHash (Builtin.Tuple.tupleHashOf (ks.map knd.hash))
noncomputable def qE(knd:NK prog w K)(ks:List K):Nat:=(ks.map knd.draws).sum+1
variable{A:Around}{E:Value->Shared->Prop}{s:Shared}
theorem FW{ks:List K}{a:Addr}{Q:Int->Shared->Prop}(hu:A.units+(knd.rank+1)<cLine)(hk:IsN knd s.heap ks a)(h:Q (Bd knd ks) { s with toks:=s.toks+qE knd ks }):
  wpAny (model prog w) A (pyHash (.ref a)) Q E s:=by
 have hT:=hk.typeIs;obtain⟨o,items,n,ho,_,hd,hi⟩:=hk;unfold pyHash
 first|unfold pyHashByItsType|skip
 first|refine zaa (wpAny_cRoomFor_or (.inr (by omega)) ?_)|skip
 refine zaa (zca hT zcI.lookup ?_);show wpAny _ _ (if (some (Value.builtin "tuple.__hash__") == some Value.none)=true then _ else _) Q E s
 rw[zad (by rw[beq_builtin_none];exact zat)]
 refine zaa (zca hT zcI.lookup ?_);show wpAny _ _ (callSpecialIfBoundUnlessNone? (.ref a) "__hash__" _ >>= _) Q E s;refine zaa (wpAny_callSpecialIfBoundUnlessNone?_slot hT zcI (zbt zcI hT F.entry_tuple_hash ?_ (F.args_tuple_hash_1 _)));show wpAny _ _ (Builtin.Tuple.tupleItemsOf (.ref a) >>= _) _ _ s;refine zaa (wpAny_tupleItemsOf ho hd ?_)
 refine zaa ?_;rw[←zbR]
 refine zbE _
  (fun aJ (b:Array Int) s'=>∃done left,ks=done++left/\ItN knd s.heap left aJ/\b.toList=done.map knd.hash/\s'={ s with toks:=s.toks+(done.map knd.draws).sum })
  _ ?_ ?_ _ _ ⟨[],ks,rfl,hi,rfl,rfl⟩
 ·rintro x aJ b s' ⟨done,left,rfl,hl,hb,rfl⟩
  cases hl with
  | @cons k _ ks' _ h1 hl'=>
   refine zaa (knd.pyHash (s:={ s with toks:=_ }) ?_ h1 ?_)
   ·have:A.in1.units=A.units+1:=rfl
    omega
   ·first
     |exact zab ⟨done++[k],ks',by simp,hl',by simp[hb],by simp[zcE]⟩
     |exact zaa (zab (zab ⟨done++[k],ks',by simp,hl',by simp[hb],by simp[zcE]⟩))
 ·rintro b s' ⟨done,left,rfl,hl,hb,rfl⟩
  cases hl;rw[zaM] at h;show wpAny _ _ (retInt (Builtin.Tuple.tupleHashOf b.toList)) _ _ _;rw[hb];refine wpAny_ret_mkInt ?_;show wpAny _ _ (if (decide (-(2:Int)^63<=Builtin.Tuple.tupleHashOf (done.map knd.hash)) && decide (Builtin.Tuple.tupleHashOf (done.map knd.hash)<2^63))=true then _ else _) Q E _
  unfold Bd reduceHash at h;by_cases hr:(decide (-(2:Int)^63<=Builtin.Tuple.tupleHashOf (done.map knd.hash)) && decide (Builtin.Tuple.tupleHashOf (done.map knd.hash)<2^63))=true
  ·rw[zaf hr]
   rw[zaf hr] at h;exact zab (by simpa[zcE,qE] using h)
  ·rw[zad hr]
   rw[zad hr] at h;exact zaa (zbF (zab (by simpa[zcE,qE] using h)))
theorem HZ{x y:List K}{a b:Addr}{P:Fin->Shared->Prop}(hu:A.units+knd.rank<cLine)(hx:IsN knd s.heap x a)(hy:IsN knd s.heap y b)(h:P (.done (.ret (.bool (decide (x=y))))) s):
  wpAny (model prog w) A (Builtin.«tuple.__eq__» ⟨[.ref a,.ref b],[]⟩) P E s:=by
 have hTb:=hy.typeIs;obtain⟨oa,xs,na,hoa,_,hda,hia⟩:=hx;obtain⟨ob,ys,nb,hob,_,hdb,hib⟩:=hy;show wpAny _ _ (isInstance (.ref b) (.type "tuple") >>= _) _ _ s;refine zaa (zcR hTb isSubtype_tuple_tuple ?_);simp only[zbl,zak,zaP];refine zaa (wpAny_tupleItemsOf hoa hda ?_);refine zaa (wpAny_tupleItemsOf hob hdb ?_);refine zaa ?_
 refine zbE _
  (fun aJ r s'=>r.1=none/\s'=s/\∃x' y' xs' ys',aJ=List.zip xs' ys'/\ItN knd s.heap x' xs'/\ItN knd s.heap y' ys'/\decide (x'=y')=decide (x=y)/\(xs'.length == ys'.length)=(xs.size == ys.size))
  _ ?_ ?_ _ _ ⟨rfl,rfl,x,y,xs.toList,ys.toList,rfl,hia,hib,rfl,by simp⟩
 ·rintro⟨u,v⟩ aJ r s' ⟨hr,rfl,x',y',xs',ys',hz,hx',hy',hdec,hlen⟩
  cases hx' with
  |nil=>simp at hz
  | @cons k1 u' x'' xs'' h1 hx''=>
   cases hy' with
   |nil=>simp at hz
   | @cons k2 v' y'' ys'' h2 hy''=>
    simp only[zdz,zcb,Prod.mk.injEq] at hz;obtain⟨⟨rfl,rfl⟩,rfl⟩:=hz;refine zaa (knd.eqBool (k:=k1) (l:=k2) hu h1 h2 ?_);by_cases hk:k1=k2
    ·subst hk
     rw[zbq rfl];simp only[zbl,zak,zaP];refine zab ⟨rfl,rfl,x'',y'',xs'',ys'',rfl,hx'',hy'',?_,by simpa using hlen⟩
     rw[←hdec]
     by_cases hxy:x''=y''
     ·simp[hxy]
     ·simp[hxy]
    ·rw[zaK hk]
     simp only[zdG,zaX];have hf:decide (x=y)=false:=by rw[←hdec];simp[hk]
     rw[hf] at h;exact zaa (zab (zab (zab h)))
 ·rintro⟨r1,r2⟩ s' ⟨hr,rfl,x',y',xs',ys',hz,hx',hy',hdec,hlen⟩
  simp only at hr;subst hr;refine zab ?_
  have hfin:(xs.size == ys.size)=decide (x=y):=by
   rw[←hdec,←hlen]
   cases hx' with
   |nil=>
    cases hy' with
    |nil=>simp
    |cons _ _=>simp
   |cons _ _=>
    cases hy' with
    |nil=>simp
    |cons _ _=>simp at hz
  show P (.done (.ret (.bool (xs.size == ys.size)))) s';rw[hfin];exact h
theorem J0{x y:List K}{a b:Addr}{Q:Bool->Shared->Prop}(hu:A.units+(knd.rank+1)<cLine)(hx:IsN knd s.heap x a)(hy:IsN knd s.heap y b)(h:Q (decide (x=y)) s):
  wpAny (model prog w) A (eqBool (.ref a) (.ref b)) Q E s:=by
 unfold eqBool
 try with_reducible refine zbs ?_
 show wpAny _ _ (if (Value.ref a == Value.ref b)=true then _ else _) Q E s
 by_cases hab:(Value.ref a == Value.ref b)=true
 ·rw[zaf hab]
  have e:a=b:=by have:=eq_of_beq hab;injection this
  subst e;obtain rfl:=hx.inj hy;exact zaa (zbF (zab (by simpa using h)))
 ·rw[zad hab]
  exact zaa (wpAny_richCompare_same_room (op:=.Eq) hx.typeIs hy.typeIs zcv
   (zbt zcv hx.typeIs F.entry_tuple_eq (HZ (by have:A.in1.units=A.units+1:=rfl;omega) hx hy ⟨_,rfl,(fun e=>nomatch e),zbV h⟩) (F.args_tuple_eq_2 _ _)) (by omega))
theorem C1{ks:List K}{a:Addr}{n:Nat}{Q:Bool->Shared->Prop}(hn:knd.rank+1<=n)(hk:IsN knd s.heap ks a)(h:Q true s):wpAny (model prog w) A (eqIsQuiet n (.ref a)) Q E s:=by
 obtain⟨m,rfl⟩:∃m,n=m+1:=⟨n-1,by omega⟩
 have hT:=hk.typeIs;obtain⟨o,items,n,ho,_,hd,hi⟩:=hk;unfold eqIsQuiet;refine zaa (zca hT zcv.lookup ?_);show wpAny _ _ (isInstance (.ref a) (.type "tuple") >>= _) _ _ s;refine zaa (zcR hT isSubtype_tuple_tuple ?_);simp only[zbl,zak,zaP];refine zaa (zbr ho hd ?_);refine zaa ?_;show wpAny _ _ (forIn items _ _) _ _ s
 rw[←zbR]
 refine zbE _ (fun aJ r s'=>r.1=none/\s'=s/\∃ks,ItN knd s.heap ks aJ) _ ?_ ?_ _ _ ⟨rfl,rfl,ks,hi⟩
 ·rintro v aJ r s' ⟨hr,rfl,ks,hall⟩
  cases hall with
  |cons h1 h2=>
   refine zaa (knd.quiet (by omega) h1 ?_)
   simp only[zbl,zak,zaP];exact zab ⟨rfl,rfl,_,h2⟩
 ·rintro⟨r1,r2⟩ s' ⟨hr,rfl,_⟩
  simp only at hr;subst hr;exact zab h
theorem Hq{ks:List K}{a:Addr}{n:Nat}{Q:Bool->Shared->Prop}(hn:knd.rank+1<=n)(hk:IsN knd s.heap ks a)(h:Q false s):wpAny (model prog w) A (ofAClassStatement n (.ref a)) Q E s:=by
 obtain⟨m,rfl⟩:∃m,n=m+1:=⟨n-1,by omega⟩
 have hT:=hk.typeIs;obtain⟨o,items,n,ho,_,hd,hi⟩:=hk;unfold ofAClassStatement;refine zaa (zdg hT ?_);dsimp only;rw[zaf (by decide)]
 refine zaa (zab ?_);simp only[zbl,zak,zaP];refine zaa (zbr ho hd ?_);dsimp only;refine zaa ?_;rw[←zbR]
 refine zbE _ (fun aJ r s'=>r.1=none/\s'=s/\∃ks,ItN knd s.heap ks aJ) _ ?_ ?_ _ _ ⟨rfl,rfl,ks,hi⟩
 ·rintro v aJ r s' ⟨hr,rfl,ks,hall⟩
  cases hall with
  |cons h1 h2=>
   refine zaa (knd.noCl (by omega) h1 ?_)
   simp only[zak,zaP];exact zab ⟨rfl,rfl,_,h2⟩
 ·rintro⟨r1,r2⟩ s' ⟨hr,rfl,_⟩
  simp only at hr;subst hr;exact zab h
theorem JN{ks:List K}{a:Addr}{n:Nat}{Q:Bool->Shared->Prop}(hn:knd.rank+1<=n)(hk:IsN knd s.heap ks a)(h:Q true s):wpAny (model prog w) A (hashByValue n (.ref a)) Q E s:=by
 obtain⟨m,rfl⟩:∃m,n=m+1:=⟨n-1,by omega⟩
 have hT:=hk.typeIs;obtain⟨o,items,n,ho,_,hd,hi⟩:=hk;unfold hashByValue;refine zaa (zca hT zcI.lookup ?_);dsimp only;refine zaa (zbr ho hd ?_);refine zaa ?_;show wpAny _ _ (forIn items _ _) _ _ s;rw[←zbR]
 refine zbE _ (fun aJ r s'=>r.1=none/\s'=s/\∃ks,ItN knd s.heap ks aJ) _ ?_ ?_ _ _ ⟨rfl,rfl,ks,hi⟩
 ·rintro v aJ r s' ⟨hr,rfl,ks,hall⟩
  cases hall with
  |cons h1 h2=>
   refine zaa (knd.byV (by omega) h1 ?_)
   simp only[zbl,zak,zaP];exact zab ⟨rfl,rfl,_,h2⟩
 ·rintro⟨r1,r2⟩ s' ⟨hr,rfl,_⟩
  simp only at hr;subst hr;exact zab h
end
noncomputable def J5{prog:Program}{w:World}{K:Type}[DecidableEq K](knd:NK prog w K):NK prog w (List K) where
 rank:=knd.rank+1
 is:=IsN knd
 hash:=Bd knd
 draws:=qE knd
 tup:=fun⟨o,items,n,ho,hc,hd,_⟩=>⟨o,items,n,ho,hc,hd⟩
 inj:=fun hx hy=>hx.inj hy
 frame:=fun x f=>x.frame f
 pyHash:=fun hu hk h=>FW hu hk h
 eqBool:=fun hu hx hy h=>J0 hu hx hy h
 quiet:=fun hn hk h=>C1 hn hk h
 noCl:=fun hn hk h=>Hq hn hk h
 byV:=fun hn hk h=>JN hn hk h
section
variable{prog:Program}{w:World}{A:Around}{E:Value->Shared->Prop}{s:Shared}
theorem Cn{ks:List Int}{a:Addr}{n:Nat}{Q:Bool->Shared->Prop}(hn:1<=n)(hk:IsTupleKey (intKind prog w) s.heap ks a)(h:Q true s):wpAny (model prog w) A (eqIsQuiet n (.ref a)) Q E s:=by
 obtain⟨m,rfl⟩:∃m,n=m+1:=⟨n-1,by omega⟩
 have hT:=hk.typeIs;obtain⟨o,items,n,ho,_,hd,hi⟩:=hk;unfold eqIsQuiet;refine zaa (zca hT zcv.lookup ?_);show wpAny _ _ (isInstance (.ref a) (.type "tuple") >>= _) _ _ s;refine zaa (zcR hT isSubtype_tuple_tuple ?_);simp only[zbl,zak,zaP];refine zaa (zbr ho hd ?_);refine zaa ?_;show wpAny _ _ (forIn items _ _) _ _ s
 rw[←zbR]
 refine zbE _ (fun aJ r s'=>r.1=none/\s'=s/\∀v∈aJ,carriedByValue v=true) _ ?_ ?_ _ _ ⟨rfl,rfl,hi.byValue⟩
 ·rintro v aJ r s' ⟨hr,rfl,hall⟩
  rw[eqIsQuiet_byValue _ (hall v zau)];refine zaa (zab ?_);simp only[zbl,zak,zaP];exact zab ⟨rfl,rfl,fun u hu'=>hall u (zar _ hu')⟩
 ·rintro⟨r1,r2⟩ s' ⟨hr,rfl,_⟩
  simp only at hr;subst hr;exact zab h
theorem C3{ks:List Int}{a:Addr}{n:Nat}{Q:Bool->Shared->Prop}(hn:1<=n)(hk:IsTupleKey (intKind prog w) s.heap ks a)(h:Q false s):wpAny (model prog w) A (ofAClassStatement n (.ref a)) Q E s:=by
 obtain⟨m,rfl⟩:∃m,n=m+1:=⟨n-1,by omega⟩
 have hT:=hk.typeIs;obtain⟨o,items,n,ho,_,hd,hi⟩:=hk;unfold ofAClassStatement;refine zaa (zdg hT ?_);dsimp only;rw[zaf (by decide)]
 refine zaa (zab ?_);simp only[zbl,zak,zaP];refine zaa (zbr ho hd ?_);dsimp only;refine zaa ?_;rw[←zbR]
 refine zbE _ (fun aJ r s'=>r.1=none/\s'=s/\∃ks,ItemsAre (intKind prog w) ks aJ) _ ?_ ?_ _ _ ⟨rfl,rfl,ks,hi⟩
 ·rintro v aJ r s' ⟨hr,rfl,ks,hall⟩
  cases hall with
  |cons h1 h2=>
   rw[Cc _ h1];refine zaa (zab ?_);simp only[zak,zaP];exact zab ⟨rfl,rfl,_,h2⟩
 ·rintro⟨r1,r2⟩ s' ⟨hr,rfl,_⟩
  simp only at hr;subst hr;exact zab h
theorem HG{ks:List Int}{a:Addr}{n:Nat}{Q:Bool->Shared->Prop}(hn:1<=n)(hk:IsTupleKey (intKind prog w) s.heap ks a)(h:Q true s):wpAny (model prog w) A (hashByValue n (.ref a)) Q E s:=by
 obtain⟨m,rfl⟩:∃m,n=m+1:=⟨n-1,by omega⟩
 have hT:=hk.typeIs;obtain⟨o,items,n,ho,_,hd,hi⟩:=hk;unfold hashByValue;refine zaa (zca hT zcI.lookup ?_);dsimp only;refine zaa (zbr ho hd ?_);refine zaa ?_;show wpAny _ _ (forIn items _ _) _ _ s;rw[←zbR]
 refine zbE _ (fun aJ r s'=>r.1=none/\s'=s/\∃ks,ItemsAre (intKind prog w) ks aJ) _ ?_ ?_ _ _ ⟨rfl,rfl,ks,hi⟩
 ·rintro v aJ r s' ⟨hr,rfl,ks,hall⟩
  cases hall with
  |cons h1 h2=>
   rw[DI _ h1];refine zaa (zab ?_);simp only[zbl,zak,zaP];exact zab ⟨rfl,rfl,_,h2⟩
 ·rintro⟨r1,r2⟩ s' ⟨hr,rfl,_⟩
  simp only at hr;subst hr;exact zab h
end
noncomputable def wdN(prog:Program)(w:World):NK prog w (List Int) where
 rank:=1
 is:=IsTupleKey (intKind prog w)
 hash:=tupleKeyHash (intKind prog w)
 draws:=fun ks=>ks.length+1
 tup:=fun⟨o,items,n,ho,hc,hd,_⟩=>⟨o,items,n,ho,hc,hd⟩
 inj:=fun hx hy=>hx.inj hy
 frame:=fun⟨o,items,n,ho,hc,hd,hi⟩ f=>⟨o,items,n,f _ _ _ _ ho hc hd,hc,hd,hi⟩
 pyHash:=fun hu hk h=>wpAny_pyHash_tuple (by omega) hk h
 eqBool:=fun hu hx hy h=>wpAny_eqBool_tuple (by omega) hx hy h
 quiet:=fun hn hk h=>Cn hn hk h
 noCl:=fun hn hk h=>C3 hn hk h
 byV:=fun hn hk h=>HG hn hk h
noncomputable def NK.hk{prog:Program}{w:World}{K:Type}[DecidableEq K](knd:NK prog w K)(hr:knd.rank<=8):HeapKind prog w K where
 is:=knd.is
 hash:=knd.hash
 draws:=knd.draws
 room:=fun A=>A.units+knd.rank<cLine
 inj:=fun hx hy=>knd.inj hx hy
 keeps:=fun x ho hd hs=>knd.frame x fun c oc items n h1 h2 h3=>(hs.2 c (fun e=>by
  rw[e,ho] at h1;cases h1;rw[hd] at h3
  cases h3)).trans h1
 pyHash:=fun hu hk h=>knd.pyHash hu hk h
 eqBool:=fun hu hx hy h=>knd.eqBool hu hx hy h
 quiet:=fun hk h=>knd.quiet hr hk h
noncomputable def Kn:Nat->Type
 |0=>List Int
 |n+1=>List (Kn n)
noncomputable def Fc:∀n,DecidableEq (Kn n)
 |0=>inferInstanceAs (DecidableEq (List Int))
 |n+1=>by
  have:=Fc n;exact inferInstanceAs (DecidableEq (List (Kn n)))
noncomputable instance knI (n:Nat):DecidableEq (Kn n):=Fc n
noncomputable def nkN(prog:Program)(w:World):∀n,NK prog w (Kn n)
 |0=>wdN prog w
 |n+1=>J5 (nkN prog w n)
noncomputable def kD:∀n,Kn n->D
 |0,k=>wdD k
 |n+1,k=>.tup (List.map (kD n) k)
section
variable{prog:Program}{w:World}
theorem jN:∀n,(nkN prog w n).rank=n+1
 |0=>rfl
 |n+1=>by show (nkN prog w n).rank+1=_;rw[jN n]
theorem ji{α:Type}(f:α->D):∀xs:List α,jV (xs.map f)=xs.map fun x=>cF (f x)
 | []=>rfl
 |x::xs=>by simp only[zah,jV,ji f xs]
theorem mm:∀n (k:Kn n),(nkN prog w n).hash k=cF (kD n k)
 |0,k=>by
  show tupleKeyHash (intKind prog w) k=cF (.tup (List.map D.int k));simp only[tupleKeyHash,cF];rw[show jV (List.map D.int k)=List.map (fun x=>cF (D.int x)) k from ji D.int k]
  rfl
 |n+1,k=>by
  show reduceHash (Builtin.Tuple.tupleHashOf (List.map (nkN prog w n).hash k))=cF (.tup (List.map (kD n) k));simp only[cF];rw[show jV (List.map (kD n) k)=List.map (fun x=>cF (kD n x)) k from ji (kD n) k]
  rw[show (nkN prog w n).hash=fun x=>cF (kD n x) from funext (mm n)]
theorem m6:∀n (k:Kn n),nu (kD n k)=true
 |0,k=>by
  show nus (List.map D.int k)=true
  induction (show List Int from k) with
  |nil=>rfl
  |cons i r ih=>simp only[zah,nus,nu,ih];rfl
 |n+1,k=>by
  show nus (List.map (kD n) k)=true
  induction (show List (Kn n) from k) with
  |nil=>rfl
  |cons i r ih=>simp only[zah,nus,m6 n i,ih];rfl
theorem lV{α β:Type}{f:α->β}(hf:∀a b,f a=f b->a=b):∀ {xs ys:List α},xs.map f=ys.map f->xs=ys
 | [],[],_=>rfl
 | [],_::_,h=>by cases h
 |_::_,[],h=>by cases h
 |x::xs,y::ys,h=>by
  simp only[zah,zcb] at h;rw[hf _ _ h.1,lV hf h.2]
theorem rg:∀n {a b:Kn n},kD n a=kD n b->a=b
 |0,a,b,h=>by
  have:List.map D.int a=List.map D.int b:=by
   have h:D.tup (List.map D.int a)=D.tup (List.map D.int b):=h;cases h':List.map D.int a;all_goals (injection h with h;rw[←h'];exact h)
  exact lV (fun a b e=>by cases e;rfl) this
 |n+1,a,b,h=>by
  have:List.map (kD n) a=List.map (kD n) b:=by
   have h:D.tup (List.map (kD n) a)=D.tup (List.map (kD n) b):=h;injection h
  exact lV (fun a b e=>rg n e) this
mutual
theorem w4:∀(a:D),nu a=true->eqD a a=true
 |.int i,_=>by rw[cL];simp
 |.tup xs,h=>by
  simp only[nu] at h;simp only[eqD];exact sP xs h
 |.non,h=>by simp[nu] at h
 |.bl _,h=>by simp[nu] at h
 |.str _,h=>by simp[nu] at h
 |.lst _,h=>by simp[nu] at h
 |.dk _,h=>by simp[nu] at h
 |.dt _,h=>by simp[nu] at h
theorem sP:∀(a:List D),nus a=true->db a a=true
 | [],_=>rfl
 |d::ds,h=>by
  simp only[nus,zax] at h;simp only[db,zax];exact⟨w4 d h.1,sP ds h.2⟩
end
theorem si(n:Nat)(a b:Kn n):eqD (kD n a) (kD n b)=decide (a=b):=by
 by_cases h:a=b
 ·subst h;rw[w4 _ (m6 n a),zbq rfl]
 ·rw[zaK h]
  cases e:eqD (kD n a) (kD n b) with
  |false=>rfl
  |true=>exact absurd (rg n (oZ _ _ (m6 n a) (m6 n b) e)) h
theorem uK{H:Hp}:∀ {k:List Int} {xs:List V},ao H (k.map D.int) xs->xs=k.map V.int
 | [],xs,h=>by simpa[ao] using h
 |i::k,xs,h=>by
  simp only[zah,ao] at h;obtain⟨x,r,rfl,h1,h2⟩:=h;simp only[Dat] at h1;rw[h1,uK h2];rfl
theorem lC{H:Hp}{h:Heap}(ok:HOk prog w H h):∀n {k:Kn n} {b:Addr},Dat H (kD n k) (.ref b)->(nkN prog w n).is h k b
 |0,k,b,d=>by
  have d:Dat H (.tup (List.map D.int k)) (.ref b):=d;simp only[Dat] at d;obtain⟨a,xs,e1,e2,e3⟩:=d;cases e1;rw[uK e3] at e2;obtain⟨_,its',e4,⟨o,e5,e6,n,e7⟩,_⟩:=ok b _ e2;exact⟨o,its'.toArray,n,e5,e6,e7,lm (Zs.of e4)⟩
 |n+1,k,b,d=>by
  have d:Dat H (.tup (List.map (kD n) k)) (.ref b):=d;simp only[Dat] at d;obtain⟨a,xs,e1,e2,e3⟩:=d;cases e1;obtain⟨_,its',e4,⟨o,e5,e6,m,e7⟩,_⟩:=ok b _ e2
  have go:∀(k:List (Kn n)) (xs:List V) (its:List Value),ao H (List.map (kD n) k) xs->ay xs its->ItN (nkN prog w n) h k its:=fun k=>by
   induction k with
   |nil=>
    intro xs its h1 h2;have:xs=[]:=by simpa[ao] using h1
    subst this;cases h2;exact .nil
   |cons i r ih=>
    intro xs its h1 h2;simp only[zah,ao] at h1;obtain⟨x,xr,rfl,h3,h4⟩:=h1
    cases h2 with
    |cons r1 r2=>
     have:∃c,x=.ref c:=by
      cases n with
      |zero=>obtain⟨c,_,rfl,_⟩:=eI (ds:=List.map D.int i) h3;exact⟨c,rfl⟩
      |succ n=>obtain⟨c,_,rfl,_⟩:=eI (ds:=List.map (kD n) i) h3;exact⟨c,rfl⟩
     obtain⟨c,rfl⟩:=this;cases r1;exact .cons (lC ok n h3) (ih xr _ h4 r2)
  exact⟨o,its'.toArray,m,e5,e6,e7,go k xs _ e3 e4⟩
noncomputable def gU(es:List (D×V×V))(d:D):Option V:=(es.find? fun p=>eqD p.1 d).map (·.2.2)
noncomputable def f9(es:List (D×V×V))(d:D)(kv v:V):List (D×V×V):=if (es.any fun p=>eqD p.1 d)=true then es.map fun p=>if eqD p.1 d=true then (p.1,p.2.1,v) else p else es++[(d,kv,v)]
noncomputable def RX2(n:Nat)(p:D×V×V)(x:Kn n×Addr×Value):Prop:=p.1=kD n x.1/\p.2.1=.ref x.2.1/\aB p.2.2 x.2.2
noncomputable def RX1(p:D×V×V)(q:DictEntry):Prop:=q.hash=cF p.1/\aB p.2.1 q.key/\aB p.2.2 q.val
noncomputable def KyN(n:Nat)(H:Hp)(es:List (D×V×V)):Prop:=∀p∈es,(∃k,p.1=kD n k)/\Dat H p.1 p.2.1
theorem jj{H:Hp}:∀ {n:Nat} {k:Kn n} {v:V},Dat H (kD n k) v->∃b,v=.ref b
 |0,k,v,h=>by obtain⟨c,_,rfl,_⟩:=eI (ds:=List.map D.int k) h;exact⟨c,rfl⟩
 |n+1,k,v,h=>by obtain⟨c,_,rfl,_⟩:=eI (ds:=List.map (kD n) k) h;exact⟨c,rfl⟩
theorem JK{n:Nat}(hn:n<=6):(nkN prog w n).rank<=8:=by rw[jN];omega
noncomputable abbrev hkN(prog:Program)(w:World)(n:Nat)(hn:n<=6):HeapKind prog w (Kn n):=(nkN prog w n).hk (JK hn)
theorem EZ{H:Hp}{h:Heap}(ok:HOk prog w H h){n:Nat}(hn:n<=6):∀ {es:List (D×V×V)} {qs:List DictEntry},KyN n H es->Paired RX1 es qs->∃xs:List (Kn n×Addr×Value),qs=xs.map (entryOfKey (hkN prog w n hn))/\(∀x∈xs,(hkN prog w n hn).is h x.1 x.2.1)/\Paired (RX2 n) es xs
 |_,_,_,.nil=>⟨[],rfl,(fun x hx=>by cases hx),.nil⟩
 |p::es,q::qs,ky,.cons r t=>by
  obtain⟨xs,h1,h2,h3⟩:=EZ ok hn (fun p hp=>ky p (zar _ hp)) t;obtain⟨⟨k,hk⟩,hd⟩:=ky p (zau ..);rw[hk] at hd;obtain⟨b,hb⟩:=jj hd;rw[hb] at hd;obtain⟨r1,r2,r3⟩:=r;rw[hb] at r2;refine⟨(k,b,q.val)::xs,?_,?_,.cons ⟨hk,hb,r3⟩ h3⟩
  ·rw[zah,←h1]
   congr 1
   obtain⟨qh,qk,qv⟩:=q;simp only at r1 r2 r3;have e2:qk=.ref b:=r2;simp only[entryOfKey];rw[e2,r1,hk]
   congr 1
   exact(mm n k).symm
  ·intro x hx
   rcases zay.mp hx with rfl|hx
   ·exact lC ok n hd
   ·exact h2 x hx
theorem qm{n:Nat}:∀ {es:List (D×V×V)} {xs:List (Kn n×Addr×Value)},Paired (RX2 n) es xs->es.map (·.1)=(xs.map (·.1)).map (kD n)
 |_,_,.nil=>rfl
 |_,_,.cons r t=>by simp only[zah,r.1,qm t]
noncomputable abbrev stF(l:Addr)(es:List (D×V×V))(ep:Nat):HO:=.ext fun h=>∃o es',h.get? l=some o/\o.ExactDict/\o.data=.dict es' ep/\(l == sysModules)=false/\es.length<=sizeLine/\(es.map (·.1)).Nodup /\
 Paired (fun(p:D×V×V) (q:DictEntry)=>q.hash=cF p.1/\aB p.2.1 q.key/\aB p.2.2 q.val) es es'.toList
noncomputable def StH(H:Hp)(l:Addr)(es:List (D×V×V)):Prop:=H l=some (stO l es)\/∃ep,H l=some (stF l es ep)
theorem StH.ok{H:Hp}{h:Heap}(ok:HOk prog w H h){l:Addr}{es:List (D×V×V)}(e:StH H l es):∃o es' ep,h.get? l=some o/\o.ExactDict/\o.data=.dict es' ep/\(l == sysModules)=false/\es.length<=sizeLine/\(es.map (·.1)).Nodup/\Paired RX1 es es'.toList:=by
 rcases e with e|⟨ep,e⟩
 ·exact(ok l _ e).1
 ·obtain⟨⟨o,es',r⟩,_⟩:=ok l _ e
  exact⟨o,es',ep,r⟩
theorem jp{H:Hp}{h:Heap}(ok:HOk prog w H h){n:Nat}(hn:n<=6){l:Addr}{es:List (D×V×V)}(e:StH H l es)(ky:KyN n H es):∃xs:List (Kn n×Addr×Value),h.DictOfH (hkN prog w n hn) l xs/\Paired (RX2 n) es xs/\(l == sysModules)=false/\es.length<=sizeLine:=by
 obtain⟨o,es',ep,h1,h2,h3,h4,h5,h6,h7⟩:=e.ok ok;obtain⟨xs,g1,g2,g3⟩:=EZ ok hn ky h7;refine⟨xs,⟨o,es',ep,h1,h2,h3,g1,g2,?_⟩,g3,h4,h5⟩;rw[qm g3] at h6;exact List.Pairwise.of_map (kD n) (fun a b h e=>h (by rw[e])) h6
theorem qT{n:Nat}(k:Kn n):∀ {es:List (D×V×V)} {xs:List (Kn n×Addr×Value)},Paired (RX2 n) es xs->i7 (gU es (kD n k)) ((atKey xs k).map (·.2))
 |_,_,.nil=>trivial
 |p::es,x::xs,.cons r t=>by
  have ih:=qT k t;unfold gU atKey at ih ⊢;simp only[zaR,r.1,si];by_cases hk:x.1=k
  ·simp only[hk,zdp,zcc]
   exact r.2.2
  ·simp only[zaK hk]
   exact ih
theorem Bw{n:Nat}(k:Kn n):∀ {es:List (D×V×V)} {xs:List (Kn n×Addr×Value)},Paired (RX2 n) es xs->(es.any fun p=>eqD p.1 (kD n k))=(atKey xs k).isSome
 |_,_,.nil=>rfl
 |p::es,x::xs,.cons r t=>by
  have ih:=Bw k t;unfold atKey at ih ⊢;simp only[zbz,zaR,r.1,si];by_cases hk:x.1=k
  ·simp[hk]
  ·simp only[zaK hk,zcX]
   exact ih
theorem vN{n:Nat}{k:Kn n}{a:Addr}{v:V}{u:Value}(rv:aB v u){es:List (D×V×V)}{xs:List (Kn n×Addr×Value)}(t:Paired (RX2 n) es xs):Paired (RX2 n) (f9 es (kD n k) (.ref a) v) (storedH xs k a u):=by
 unfold f9 storedH;rw[Bw k t];split
 ·have:∀ {es:List (D×V×V)} {xs:List (Kn n×Addr×Value)},Paired (RX2 n) es xs->Paired (RX2 n) (es.map fun p=>if eqD p.1 (kD n k)=true then (p.1,p.2.1,v) else p) (xs.map (putAt k u)):=fun {es xs} t=>by
   induction t with
   |nil=>exact .nil
   | @cons p x es xs r _ ih=>
    simp only[zah];refine .cons ?_ ih;rw[r.1,si];by_cases hk:x.1=k
    ·rw[zaf (zbq hk),putAt,zaf hk]
     exact⟨r.1 ▸ rfl,r.2.1,rv⟩
    ·rw[zad (by simp[hk]),putAt,zad hk]
     exact r
  exact this t
 ·exact t.snoc ⟨rfl,rfl,rv⟩
theorem rD{n:Nat}(hn:n<=6){h:Heap}{l:Addr}{es:List (D×V×V)}{xs:List (Kn n×Addr×Value)}(hm:h.DictOfH (hkN prog w n hn) l xs)(t:Paired (RX2 n) es xs)(h1:(l == sysModules)=false)(h2:es.length<=sizeLine){H:Hp}:bb prog w H h l (stO l es):=by
 obtain⟨o,es',ep,g1,g2,g3,g4,g5,g6⟩:=hm;refine⟨⟨o,es',ep,g1,g2,g3,h1,h2,?_,?_⟩,⟨o,g1⟩,?_⟩
 ·rw[qm t]
  exact List.Pairwise.map _ (fun a b hab e=>hab (rg n e)) g6
 ·rw[g4]
  clear g4 g5 g6 h2
  induction t with
  |nil=>exact .nil
  | @cons p x es xs r _ ih=>
   refine .cons ⟨?_,?_,r.2.2⟩ ih
   ·rw[r.1];exact mm n x.1
   ·rw[r.2.1];rfl
 ·rintro ha hb ⟨o,es',ep,g1,r⟩ k
  exact⟨o,es',ep,k o g1,r⟩
noncomputable def RI(p:D×V×V)(x:Int×Value):Prop:=p.1=.int x.1/\p.2.1=.int x.1/\aB p.2.2 x.2
noncomputable def KyI(es:List (D×V×V)):Prop:=∀p∈es,∃i,p.1=.int i/\p.2.1=.int i
theorem EI:∀ {es:List (D×V×V)} {qs:List DictEntry},KyI es->Paired RX1 es qs->∃xs:List (Int×Value),(∀e∈qs,∃k,(intKind prog w).is k e.key=true/\e.hash=(intKind prog w).hash k)/\Pairs (intKind prog w) qs xs/\Paired RI es xs
 |_,_,_,.nil=>⟨[],(fun x hx=>by cases hx),.nil,.nil⟩
 |p::es,q::qs,ky,.cons r t=>by
  obtain⟨xs,h1,h2,h3⟩:=EI (fun p hp=>ky p (zar _ hp)) t;obtain⟨i,hi,hv⟩:=ky p (zau ..);obtain⟨r1,r2,r3⟩:=r;rw[hv] at r2;obtain⟨t0,ht⟩:=r2;have hk:(intKind prog w).is i q.key=true:=by rw[ht];show (i == i)=true;simp
  refine⟨(i,q.val)::xs,?_,.cons hk rfl h2,.cons ⟨hi,hv,r3⟩ h3⟩;intro e he;rcases zay.mp he with rfl|he
  ·exact⟨i,hk,by rw[r1,hi];rfl⟩
  ·exact h1 e he
theorem qa:∀ {es:List (D×V×V)} {xs:List (Int×Value)},Paired RI es xs->es.map (·.1)=(xs.map (·.1)).map D.int
 |_,_,.nil=>rfl
 |_,_,.cons r t=>by simp only[zah,r.1,qa t]
theorem jS{H:Hp}{h:Heap}(ok:HOk prog w H h){l:Addr}{es:List (D×V×V)}(e:StH H l es)(ky:KyI es):∃xs:List (Int×Value),h.DictOf (intKind prog w) l xs/\Paired RI es xs/\(l == sysModules)=false/\es.length<=sizeLine:=by
 obtain⟨o,es',ep,h1,h2,h3,h4,h5,h6,h7⟩:=e.ok ok;obtain⟨xs,g1,g2,g3⟩:=EI (prog:=prog) (w:=w) ky h7;refine⟨xs,⟨o,es',ep,h1,h2,h3,fun e he=>g1 e (by simpa using he),g2,?_⟩,g3,h4,h5⟩
 rw[qa g3] at h6;exact List.Pairwise.of_map D.int (fun a b h e=>h (by rw[e])) h6
theorem rl(i j:Int):eqD (.int i) (.int j)=decide (i=j):=by rw[cL];by_cases h:i=j<;>simp[h]
theorem qo(k:Int):∀ {es:List (D×V×V)} {xs:List (Int×Value)},Paired RI es xs->i7 (gU es (.int k)) (valueAt xs k)
 |_,_,.nil=>trivial
 |p::es,x::xs,.cons r t=>by
  have ih:=qo k t;unfold gU valueAt at ih ⊢;simp only[zaR,r.1,rl];by_cases hk:x.1=k
  ·simp only[hk,zdp,zcc]
   exact r.2.2
  ·simp only[zaK hk]
   exact ih
theorem BX(k:Int):∀ {es:List (D×V×V)} {xs:List (Int×Value)},Paired RI es xs->(es.any fun p=>eqD p.1 (.int k))=xs.any fun x=>decide (x.1=k)
 |_,_,.nil=>rfl
 |p::es,x::xs,.cons r t=>by
  have ih:=BX k t;simp only[zbz,r.1,rl,ih]
theorem wg{k:Int}{v:V}{u:Value}(rv:aB v u){es:List (D×V×V)}{xs:List (Int×Value)}(t:Paired RI es xs):Paired RI (f9 es (.int k) (.int k) v) (stored xs k u):=by
 unfold f9 stored;rw[BX k t];split
 ·have:∀ {es:List (D×V×V)} {xs:List (Int×Value)},Paired RI es xs->Paired RI (es.map fun p=>if eqD p.1 (.int k)=true then (p.1,p.2.1,v) else p) (xs.map fun x=>if x.1=k then (x.1,u) else x):=fun {es xs} t=>by
   induction t with
   |nil=>exact .nil
   | @cons p x es xs r _ ih=>
    simp only[zah];refine .cons ?_ ih;rw[r.1,rl];by_cases hk:x.1=k
    ·rw[zaf (zbq hk),zaf hk]
     exact⟨r.1 ▸ rfl,r.2.1,rv⟩
    ·rw[zad (by simp[hk]),zad hk]
     exact r
  exact this t
 ·exact t.snoc ⟨rfl,rfl,rv⟩
theorem qN{h:Heap}{l:Addr}{es:List (D×V×V)}{xs:List (Int×Value)}(hm:h.DictOf (intKind prog w) l xs)(t:Paired RI es xs)(h1:(l == sysModules)=false)(h2:es.length<=sizeLine){H:Hp}:bb prog w H h l (stO l es):=by
 obtain⟨o,es',ep,g1,g2,g3,g4,g5,g6⟩:=hm;refine⟨⟨o,es',ep,g1,g2,g3,h1,h2,?_,?_⟩,⟨o,g1⟩,?_⟩
 ·rw[qa t]
  exact List.Pairwise.map _ (fun a b hab e=>hab (by injection e)) g6
 ·have go:∀ {es:List (D×V×V)} {xs:List (Int×Value)} {qs:List DictEntry},Paired RI es xs->Pairs (intKind prog w) qs xs->(∀e∈qs,∃k,(intKind prog w).is k e.key=true/\e.hash=(intKind prog w).hash k)->Paired RX1 es qs:=fun {es xs qs} t=>by
   induction t generalizing qs with
   |nil=>intro p _;cases p;exact .nil
   | @cons p x es xs r _ ih=>
    intro q hk
    cases q with
    | @cons e _ qs _ q1 q2 q3=>
     refine .cons ⟨?_,?_,?_⟩ (ih q3 fun e he=>hk e (zar _ he))
     ·obtain⟨k,h3,h4⟩:=hk e (zau ..)
      have:k=x.1:=(intKind prog w).inj _ _ _ h3 q1;rw[h4,this,r.1];rfl
     ·rw[r.2.1]
      obtain⟨t,ht⟩:=Value.isInt_shape (show Value.isInt x.1 e.key=true from q1)
      exact⟨t,ht⟩
     ·rw[q2];exact r.2.2
  exact go t g5 fun e he=>g4 e (by simpa using he)
 ·rintro ha hb ⟨o,es',ep,g1,r⟩ k
  exact⟨o,es',ep,k o g1,r⟩
noncomputable def Ky:Option Nat->D->Prop
 |none,d=>∃i,d=.int i
 |some n,d=>n<=6/\∃k,d=kD n k
noncomputable def KyE(τ:Option Nat)(H:Hp)(es:List (D×V×V)):Prop:=∀p∈es,Ky τ p.1/\Dat H p.1 p.2.1
theorem t7{H:Hp}{es:List (D×V×V)}(h:KyE none H es):KyI es:=fun p hp=>by
 obtain⟨⟨i,e⟩,d⟩:=h p hp;rw[e] at d;simp only[Dat] at d;exact⟨i,e,d⟩
theorem tR{H:Hp}{es:List (D×V×V)}{n:Nat}(h:KyE (some n) H es):KyN n H es:=fun p hp=>⟨(h p hp).1.2,(h p hp).2⟩
noncomputable def DN(H:Hp)(a:Addr)(y:V)(o:Option V):Prop:=∃es d τ,StH H a es/\Ky τ d/\Dat H d y/\KyE τ H es/\o=gU es d
noncomputable def zN(H:Hp)(a:Addr)(y v:V)(H':Hp):Prop:=∃es d τ,H a=some (stO a es)/\Ky τ d/\Dat H d y/\KyE τ H es/\es.length<sizeLine/\H'=upd H a (stO a (f9 es d y v))
end
section
variable{X:Cx}{pins:List (Addr×Obj)}{σ:St}{H:Hp}{s:Shared}{a:Addr}{y v d:V}{u r:Value}{o:Option V}{A:Around}{E:Value->Shared->Prop}
theorem im{es:List (D×V×V)}(I:Inv X pins σ H s)(e:StH H a es):s.TypeIs (.ref a) "dict"/\(∀b,Value.ref a=.ref b->∃ob,s.heap.get? b=some ob/\ob.dict=none)/\(a == sysModules)=false:=by
 obtain⟨ob,es',ep,h1,h2,h3,h4,_⟩:=e.ok I.hok;exact⟨⟨ob,h1,h2.1⟩,fun b q=>by cases q;exact⟨ob,h1,h2.2.1⟩,h4⟩
theorem we{n:Nat}{hn:n<=6}(hu:A.units+100<cLine):(hkN X.prog X.w n hn).room A.in1:=by
 show A.in1.units+(nkN X.prog X.w n).rank<cLine;have:A.in1.units=A.units+1:=rfl;rw[jN];omega
theorem no{i:Int}{u:Value}(h:aB (.int i) u):(intKind X.prog X.w).is i u=true:=by
 obtain⟨t,rfl⟩:=h;show (i == i)=true;simp
theorem uQ{Q:Value->Shared->Prop}(hu:A.units+100<cLine)(I:Inv X pins σ H s)(g:DN H a y (some v))(ry:aB y u)(h:∀w' s',Inv X pins σ H s'->aB v w'->Q w' s'):
  wpAny (model X.prog X.w) A (getItem (.ref a) u) Q E s:=by
 obtain⟨es,d,τ,e,ky,dy,kE,l⟩:=g
 cases τ with
 |none=>
  obtain⟨i,rfl⟩:=ky;simp only[Dat] at dy;subst dy;obtain⟨xs,dd,rel,hd,z⟩:=jS I.hok e (t7 kE);obtain⟨w',hw,rw'⟩:=i7.some_of (v:=v) (o:=valueAt xs i) (by rw[l];exact qo i rel)
  exact wpAny_getItem_of (no ry) dd.mapOf hw (h w' _ (I.tok _) rw')
 |some n=>
  obtain⟨hn,k,rfl⟩:=ky;obtain⟨b,rfl⟩:=jj dy;cases (show u=Value.ref b from ry)
  obtain⟨xs,dd,rel,hd,z⟩:=jp I.hok hn e (tR kE);obtain⟨w',hw,rw'⟩:=i7.some_of (v:=v) (o:=(atKey xs k).map (·.2)) (by rw[l];exact qT k rel)
  obtain⟨p,hp,hp2⟩:=zas.mp hw;refine wpAny_getItem_heap (we hu) (lC I.hok n dy) dd hp ?_;rw[hp2];exact h w' _ (I.tok _) rw'
theorem BR{Q:Value->Shared->Prop}(hu:A.units+100<cLine)(I:Inv X pins σ H s)(g:DN H a y o)(ry:aB y u)(h:∀s',Inv X pins σ H s'->Q (.bool (!o.isSome)) s'):
  wpAny (model X.prog X.w) A (compareOp .NotIn u (.ref a)) Q E s:=by
 obtain⟨es,d,τ,e,ky,dy,kE,l⟩:=g
 cases τ with
 |none=>
  obtain⟨i,rfl⟩:=ky;simp only[Dat] at dy;subst dy;obtain⟨xs,dd,rel,hd,z⟩:=jS I.hok e (t7 kE);refine wpAny_notIn_of (no ry) hd dd.mapOf ?_;rw[←(qo i rel).KG,←l]
  exact h _ (I.tok _)
 |some n=>
  obtain⟨hn,k,rfl⟩:=ky;obtain⟨b,rfl⟩:=jj dy;cases (show u=Value.ref b from ry)
  obtain⟨xs,dd,rel,hd,z⟩:=jp I.hok hn e (tR kE);refine wpAny_notIn_heap (we hu) (lC I.hok n dy) hd dd ?_;have q:=(qT k rel).KG;rw[Option.isSome_map] at q;rw[←q,←l]
  exact h _ (I.tok _)
theorem jt(es:List (D×V×V))(d:D)(y v:V):(f9 es d y v).length<=es.length+1:=by
 unfold f9;split<;>simp
theorem vA{H':Hp}{Q:Unit->Shared->Prop}(hu:A.units+100<cLine)(I:Inv X pins σ H s)(g:zN H a y v H')(ry:aB y u)(rv:aB v r)(h:∀s',Inv X pins σ H' s'->Q () s'):
  wpAny (model X.prog X.w) A (setItem (.ref a) u r) Q E s:=by
 obtain⟨es,d,τ,e,ky,dy,kE,l,eH⟩:=g;subst eH;have hlen:=jt es d y v
 cases τ with
 |none=>
  obtain⟨i,rfl⟩:=ky;simp only[Dat] at dy;subst dy;obtain⟨xs,dd,rel,hd,z⟩:=jS I.hok (.inl e) (t7 kE);have hz:xs.length<=sizeLine:=by rw[←zbb rel];exact z
  refine wpAny_setItem_pairs (hsz:=hz) (no ry) dd fun h' dd' hs=>h _ ?_;have he:∃q,h'.get? a=some q:=let ⟨q,_,_,hq,_⟩:=dd';⟨q,hq⟩
  exact dj I (by rw[e];exact True.intro) hs he (qN dd' (wg rv rel) hd (by omega))
 |some n=>
  obtain⟨hn,k,rfl⟩:=ky;obtain⟨b,rfl⟩:=jj dy;cases (show u=Value.ref b from ry)
  obtain⟨xs,dd,rel,hd,z⟩:=jp I.hok hn (.inl e) (tR kE);have hz:xs.length<=sizeLine:=by rw[←zbb rel];exact z
  refine wpAny_setItem_heap (hsz:=hz) (we hu) (lC I.hok n dy) dd fun h' dd' hs=>h _ ?_;have he:∃q,h'.get? a=some q:=let ⟨q,_,_,hq,_⟩:=dd';⟨q,hq⟩
  exact dj I (by rw[e];exact True.intro) hs he (rD hn dd' (vN rv rel) hd (by omega))
end
noncomputable def Iy(td ty:TE):TE:=fun σ H Q=>td σ H fun x H1=>ty σ H1 fun y H2=>∃a v,x=.ref a/\DN H2 a y (some v)/\Q v H2
noncomputable def Ae(ty td:TE):TE:=fun σ H Q=>ty σ H fun y H1=>td σ H1 fun x H2=>∃a o,x=.ref a/\DN H2 a y o/\Q (.bl (!o.isSome)) H2
noncomputable def An(td ty tv:TE):TS:=fun D σ H=>tv σ H fun v H1=>td σ H1 fun x H2=>ty σ H2 fun y H3=>∃a H4,x=.ref a/\zN H3 a y v H4/\D.nx σ H4
noncomputable def A3:TE:=fun _ H Q=>∀p,H p=none->Q (.ref p) (upd H p (stO p []))
section
variable{X:Cx}{o i e f value:Expr}{pos pos' tpos apos cpos:Pos}{td ty tv tx:TE}
theorem mG{P:Program}{w:World}{H:Hp}(h:Heap)(hb:sysModules<h.objs.size):bb P w H (h.push { cls:=.type "dict",data:=.dict #[] }) h.objs.size (stO h.objs.size []):=
 ⟨⟨_,#[],0,zan _ rfl,⟨rfl,rfl,rfl⟩,rfl,zdq.mpr (zbJ (zaF hb)),zbL _,List.nodup_nil,.nil⟩,⟨_,zan _ rfl⟩,fun ha hb ⟨o,es',ep,g1,r⟩ k=>⟨o,es',ep,k o g1,r⟩⟩
theorem j8(hu:X.A.units+100<cLine)(ho:PE X o td)(hi:PE X i ty)(hs:Dt i):PE X (.Subscript o i pos) (Iy td ty):=.mk <| by
 intro pins s σ H Q I h;refine qS zdu.lookup hs (thn (ho pins s σ H _ I h) fun u s1 ⟨x,H1,I1,rx,q1⟩=>thn (hi pins s1 σ H1 _ I1 q1) fun iv s2 ⟨y,H2,I2,ry,a,v,ex,g,q2⟩=>?_);subst ex;obtain rfl:u=Value.ref a:=rx
 have ht:s2.TypeIs (.ref a) "dict":=by
  obtain⟨es,_,_,e,_⟩:=g;exact(im I2 e).1
 exact⟨ht,uQ hu I2 g ry fun w' s3 I3 rw'=>⟨v,H2,I3,rw',q2⟩⟩
theorem Er(hu:X.A.units+100<cLine)(hi:PE X i ty)(ho:PE X o td):PC X .NotIn i o (Ae ty td):=by
 intro pins s σ H Q I h;refine thn (hi pins s σ H _ I h) fun iv s1 ⟨y,H1,I1,ry,q1⟩=>thn (ho pins s1 σ H1 _ I1 q1) fun u s2 ⟨x,H2,I2,rx,a,ov,ex,g,q2⟩=>?_;subst ex;obtain rfl:u=Value.ref a:=rx;exact BR hu I2 g ry fun s3 I3=>⟨.bl (!ov.isSome),H2,I3,rfl,q2⟩
theorem uh(hu:X.A.units+100<cLine)(ho:PE X o td)(hi:PE X i ty)(hv:PE X value tv)(hs:swapsWith value (some (.Subscript o i pos')) pos.line X.env=pure false):
  PS X (.Assign [.Subscript o i pos'] value pos) (An td ty tv):=.mk <| by
 intro pins s σ H D I h;refine wpAny_Assign_Subscript (thn (hv pins s σ H _ I h) fun r s1 ⟨v,H1,I1,rv,q1⟩=>thn (ho pins s1 σ H1 _ I1 q1) fun u s2 ⟨x,H2,I2,rx,q2⟩=>thn (hi pins s2 σ H2 _ I2 q2) fun iv s3 ⟨y,H3,I3,ry,a,H4,ex,g,q3⟩=>?_) hs;subst ex;obtain rfl:u=Value.ref a:=rx;exact vA hu I3 g ry rv fun s4 I4=>⟨σ,H4,I4,q3⟩
end
noncomputable def iH(kvs:List (D×AV))(d:D):Option AV:=(kvs.find? fun p=>eqD p.1 d).map (·.2)
noncomputable def kJ(kvs:List (D×AV))(d:D)(a:AV):List (D×AV):=if (kvs.any fun p=>eqD p.1 d)=true then kvs.map fun p=>if eqD p.1 d=true then (p.1,a) else p else kvs++[(d,a)]
section
variable{G:Hp}
theorem RDs.length:∀ {kvs:List (D×AV)} {es:List (D×V×V)},RDs G kvs es->es.length=kvs.length
 | [],_,h=>by cases h;rfl
 |_::_,_,⟨_,_,_,h1,_,_,h4⟩=>by subst h1;simp[h4.length]
theorem RDs.look{d:D}:∀ {kvs:List (D×AV)} {es:List (D×V×V)} {a:AV},RDs G kvs es->iH kvs d=some a->∃v,gU es d=some v/\RV G a v
 | [],_,_,_,e=>by simp[iH] at e
 |p::r,_,a,⟨kv,v,r',h1,h2,h3,h4⟩,e=>by
  subst h1;unfold iH at e;unfold gU;simp only[zaR] at e ⊢
  cases hk:eqD p.1 d with
  |true=>
   rw[hk] at e;cases e;exact⟨v,rfl,h3⟩
  |false=>
   rw[hk] at e;exact RDs.look h4 e
theorem RDs.none{d:D}:∀ {kvs:List (D×AV)} {es:List (D×V×V)},RDs G kvs es->iH kvs d=none->gU es d=none
 | [],_,h,_=>by cases h;rfl
 |p::r,_,⟨kv,v,r',h1,h2,h3,h4⟩,e=>by
  subst h1;unfold iH at e;unfold gU;simp only[zaR] at e ⊢
  cases hk:eqD p.1 d with
  |true=>rw[hk] at e;cases e
  |false=>
   rw[hk] at e;exact RDs.none h4 e
theorem RDs.K7{d:D}{kvs:List (D×AV)}{es:List (D×V×V)}(h:RDs G kvs es):(gU es d).isSome=(iH kvs d).isSome:=by
 cases e:iH kvs d with
 |none=>rw[h.none e];rfl
 |some a=>obtain⟨v,h1,_⟩:=h.look e;rw[h1];rfl
theorem RDs.any{d:D}:∀ {kvs:List (D×AV)} {es:List (D×V×V)},RDs G kvs es->(es.any fun p=>eqD p.1 d)=kvs.any fun p=>eqD p.1 d
 | [],_,h=>by cases h;rfl
 |_::_,_,⟨_,_,_,h1,_,_,h4⟩=>by subst h1;simp only[zbz,h4.any]
theorem RDs.app:∀ {kvs kvs':List (D×AV)} {es es':List (D×V×V)},RDs G kvs es->RDs G kvs' es'->RDs G (kvs++kvs') (es++es')
 | [],_,_,_,h,k=>by cases h;exact k
 |_::_,_,_,_,⟨kv,v,r,h1,h2,h3,h4⟩,k=>by subst h1;exact⟨kv,v,_,rfl,h2,h3,h4.app k⟩
theorem RDs.Ld{d:D}{a:AV}{v:V}(hv:RV G a v):∀ {kvs:List (D×AV)} {es:List (D×V×V)},RDs G kvs es->RDs G (kvs.map fun p=>if eqD p.1 d=true then (p.1,a) else p) (es.map fun p=>if eqD p.1 d=true then (p.1,p.2.1,v) else p)
 | [],_,h=>by cases h;rfl
 |p::_,_,⟨kv,u,r,h1,h2,h3,h4⟩=>by
  subst h1;simp only[zah]
  cases hk:eqD p.1 d with
  |true=>exact⟨kv,v,_,rfl,h2,hv,h4.Ld hv⟩
  |false=>exact⟨kv,u,_,rfl,h2,h3,h4.Ld hv⟩
theorem RDs.put{d:D}{a:AV}{kv v:V}(hd:Dat G d kv)(hv:RV G a v){kvs:List (D×AV)}{es:List (D×V×V)}(h:RDs G kvs es):RDs G (kJ kvs d a) (f9 es d kv v):=by
 unfold kJ f9;rw[h.any];split
 ·exact h.Ld hv
 ·exact h.app ⟨kv,v,[],rfl,hd,hv,rfl⟩
theorem RDs.ky{H:Hp}(s:bH G H){τ:Option Nat}:∀ {kvs:List (D×AV)} {es:List (D×V×V)},RDs G kvs es->(∀p∈kvs,Ky τ p.1)->KyE τ H es
 | [],_,h,_=>by cases h;exact fun p hp=>by cases hp
 |p::r,_,⟨kv,v,r',h1,h2,h3,h4⟩,hk=>by
  subst h1;intro q hq;rcases zay.mp hq with rfl|hq
  ·exact⟨hk p (zau ..),h2.same s⟩
  ·exact RDs.ky s h4 (fun p hp=>hk p (zar _ hp)) q hq
end
section
variable{F:Fs}{H:Hp}{Z:Om}
theorem va{l:Addr}{xs ys:List (D×AV)}{o:HO}(h:Z l=some (.sto xs)):cut F (upd H l o) (Z.put l (.sto ys))=cut F H Z:=by
 funext b;unfold cut Om.put
 by_cases hb:b=l
 ·subst hb;rw[zaf rfl,h];simp[ow]
 ·rw[zad hb,ah hb]
theorem Rep.KP(R:Rep F H Z){l:Addr}{xs ys:List (D×AV)}{es:List (D×V×V)}(h:Z l=some (.sto xs))(hv:RDs (cut F H Z) ys es):
  Rep F (upd H l (stO l es)) (Z.put l (.sto ys))/\Fr F H Z (upd H l (stO l es)) (Z.put l (.sto ys)):=by
 have c:=va (F:=F) (H:=H) (ys:=ys) (o:=stO l es) h;refine⟨⟨fun k zs e=>?_,fun k ds e=>?_,fun b f=>?_,fun k zs e=>?_,fun k zs e=>?_⟩,fun b o x f e=>?_,fun b f=>?_⟩
 ·have hk:k≠l:=fun z=>(by subst z;rw[Om.Kv] at e;cases e)
  rw[Om.Kw hk] at e;rw[c,ah hk];exact R.own k zs e
 ·have hk:k≠l:=fun z=>(by subst z;rw[Om.Kv] at e;cases e)
  rw[Om.Kw hk] at e;rw[c];exact R.frz k ds e
 ·obtain⟨x,o,q⟩:=R.hid b f
  have hb:b≠l:=fun z=>(by subst z;rw[h] at x;cases x)
  exact⟨by rw[Om.Kw hb];exact x,o,by rw[ah hb];exact q⟩
 ·have hk:k≠l:=fun z=>(by subst z;rw[Om.Kv] at e;cases e)
  rw[Om.Kw hk] at e;rw[c,ah hk];exact R.dic k zs e
 ·rw[c]
  by_cases hk:k=l
  ·subst hk;rw[Om.Kv] at e;cases e;exact⟨es,aN,hv⟩
  ·rw[Om.Kw hk] at e;rw[ah hk];exact R.sto k zs e
 ·have hb:b≠l:=fun z=>(by subst z;rw[h] at x;cases x)
  rw[Om.Kw hb,ah hb];exact⟨e,x⟩
 ·obtain⟨x,o,q⟩:=R.hid b f
  have hb:b≠l:=fun z=>(by subst z;rw[h] at x;cases x)
  exact ah hb
theorem Rep.mkS(R:Rep F H Z){l:Addr}{xs:List (D×AV)}{es:List (D×V×V)}(h:H l=none)(hv:RDs (cut F H Z) xs es):
  Rep F (upd H l (stO l es)) (Z.put l (.sto xs))/\Fr F H Z (upd H l (stO l es)) (Z.put l (.sto xs)):=by
 obtain⟨f1,f2⟩:=R.free h
 have c:cut F (upd H l (stO l es)) (Z.put l (.sto xs))=cut F H Z:=by
  funext b;unfold cut Om.put
  by_cases hb:b=l
  ·subst hb;rw[zaf rfl,f1,f2,h];simp[ow]
  ·rw[zad hb,ah hb]
 refine⟨⟨fun k zs e=>?_,fun k ds e=>?_,fun b f=>?_,fun k zs e=>?_,fun k zs e=>?_⟩,fun b o x f e=>?_,fun b f=>?_⟩
 ·have hk:k≠l:=fun z=>(by subst z;rw[Om.Kv] at e;cases e)
  rw[Om.Kw hk] at e;rw[c,ah hk];exact R.own k zs e
 ·have hk:k≠l:=fun z=>(by subst z;rw[Om.Kv] at e;cases e)
  rw[Om.Kw hk] at e;rw[c];exact R.frz k ds e
 ·obtain⟨x,o,q⟩:=R.hid b f
  have hb:b≠l:=av q h;exact⟨by rw[Om.Kw hb];exact x,o,by rw[ah hb];exact q⟩
 ·have hk:k≠l:=fun z=>(by subst z;rw[Om.Kv] at e;cases e)
  rw[Om.Kw hk] at e;rw[c,ah hk];exact R.dic k zs e
 ·rw[c]
  by_cases hk:k=l
  ·subst hk;rw[Om.Kv] at e;cases e;exact⟨es,aN,hv⟩
  ·rw[Om.Kw hk] at e;rw[ah hk];exact R.sto k zs e
 ·have hb:b≠l:=av e h
  rw[Om.Kw hb,ah hb];exact⟨e,x⟩
 ·obtain⟨x,o,q⟩:=R.hid b f
  exact ah (av q h)
end
noncomputable def zL:AE:=fun _ Z Q=>∀p,Z p=none->Q (.r (.ref p)) (Z.put p (.sto []))
theorem p8(ρ:SA)(Z:Om)(Q:AV->Om->Prop):zL ρ Z Q=∀p,Z p=none->Q (.r (.ref p)) (Z.put p (.sto [])):=rfl
theorem DE:aD A3 zL:=⟨fun F H Z σ ρ Q Q' rp rs h k p hp=>by
 obtain⟨rp2,fr2⟩:=rp.mkS (xs:=[]) (es:=[]) hp rfl
 exact k (.r (.ref p)) _ _ _ rp2 fr2 rfl (h p (rp.free hp).1)⟩
noncomputable def KyD(τ:Option Nat)(kvs:List (D×AV)):Prop:=∀p∈kvs,Ky τ p.1
noncomputable def ShS(l:Addr)(kvs:List (D×AV)):Hp->Prop:=fun G=>∃es ep,G l=some (stF l es ep)/\RDs G kvs es
noncomputable def shS(l:Addr)(kvs:List (D×AV)):AV:=.p (.ref l) (ShS l kvs)
noncomputable def StA(Z:Om)(x:AV)(kvs:List (D×AV)):Prop:=(∃l,x=.r (.ref l)/\Z l=some (.sto kvs))\/∃l,x=shS l kvs
theorem StA.of{F:Fs}{H:Hp}{Z:Om}{x:AV}{v:V}{kvs:List (D×AV)}(h:StA Z x kvs)(rp:Rep F H Z)(rv:RV (cut F H Z) x v):∃l es,v=.ref l/\StH H l es/\RDs (cut F H Z) kvs es:=by
 rcases h with⟨l,rfl,h⟩|⟨l,rfl⟩
 ·obtain⟨es,z1,z2⟩:=rp.sto l kvs h
  exact⟨l,es,rv,.inl z1,z2⟩
 ·obtain⟨es,ep,z1,z2⟩:=rv.2 _ (fun _ _ e=>e)
  exact⟨l,es,rv.1,.inr ⟨ep,ar _ _ z1⟩,z2⟩
noncomputable def IC(td ty:AE):AE:=fun ρ Z Q=>td ρ Z fun x Z1=>ty ρ Z1 fun y Z2=>∃kvs d τ a,StA Z2 x kvs/\y=.d d/\Ky τ d/\KyD τ kvs/\iH kvs d=some a/\Q a Z2
theorem xV(td ty:AE)(ρ:SA)(Z:Om)(Q:AV->Om->Prop):IC td ty ρ Z Q=(td ρ Z fun x Z1=>ty ρ Z1 fun y Z2=>∃kvs d τ a,StA Z2 x kvs/\y=.d d/\Ky τ d/\KyD τ kvs/\iH kvs d=some a/\Q a Z2):=rfl
theorem pG{td ty:TE}{td' ty':AE}(hd:aD td td')(hy:aD ty ty'):aD (Iy td ty) (IC td' ty'):=⟨fun F H Z σ ρ Q Q' rp rs w k=>
 hd.go rp rs w fun x Z1 v H1 rp1 fr1 rs1 rv1 q1=>hy.go rp1 rs1 q1 fun y Z2 u H2 rp2 fr2 rs2 rv2 ⟨kvs,d,τ,a,e1,e3,ky,kd,e4,q⟩=>by
  subst e3;obtain⟨l,es,rfl,z1,z2⟩:=e1.of rp2 (rv1.same fr2.same);obtain⟨vv,y1,y2⟩:=z2.look e4
  exact⟨l,vv,rfl,⟨es,d,τ,z1,ky,Dat.same ar rv2,z2.ky ar kd,y1.symm⟩,k a Z2 vv H2 rp2 (fr1.trans fr2) y2 q⟩⟩
noncomputable def FK(ty td:AE):AE:=fun ρ Z Q=>ty ρ Z fun y Z1=>td ρ Z1 fun x Z2=>∃kvs d τ,StA Z2 x kvs/\y=.d d/\Ky τ d/\KyD τ kvs/\Q (.d (.bl (!(iH kvs d).isSome))) Z2
theorem tQ(ty td:AE)(ρ:SA)(Z:Om)(Q:AV->Om->Prop):FK ty td ρ Z Q=(ty ρ Z fun y Z1=>td ρ Z1 fun x Z2=>∃kvs d τ,StA Z2 x kvs/\y=.d d/\Ky τ d/\KyD τ kvs/\Q (.d (.bl (!(iH kvs d).isSome))) Z2):=rfl
theorem CC{td ty:TE}{td' ty':AE}(hy:aD ty ty')(hd:aD td td'):aD (Ae ty td) (FK ty' td'):=⟨fun F H Z σ ρ Q Q' rp rs w k=>
 hy.go rp rs w fun y Z1 u H1 rp1 fr1 rs1 rv1 q1=>hd.go rp1 rs1 q1 fun x Z2 v H2 rp2 fr2 rs2 rv2 ⟨kvs,d,τ,e1,e3,ky,kd,q⟩=>by
  subst e3;obtain⟨l,es,rfl,z1,z2⟩:=e1.of rp2 rv2;refine⟨l,gU es d,rfl,⟨es,d,τ,z1,ky,Dat.same ar (rv1.same fr2.same),z2.ky ar kd,rfl⟩,?_⟩;rw[z2.K7]
  exact(k.fr (fr1.trans fr2)).bl rp2 q⟩
noncomputable def B1(td ty tv:AE):AS:=fun D ρ Z=>tv ρ Z fun v Z1=>td ρ Z1 fun x Z2=>ty ρ Z2 fun y Z3=>∃l kvs d τ,x=.r (.ref l)/\Z3 l=some (.sto kvs)/\y=.d d/\Ky τ d/\KyD τ kvs/\kvs.length<sizeLine/\D.nx ρ (Z3.put l (.sto (kJ kvs d v)))
theorem p7(td ty tv:AE)(D:bj)(ρ:SA)(Z:Om):B1 td ty tv D ρ Z=(tv ρ Z fun v Z1=>td ρ Z1 fun x Z2=>ty ρ Z2 fun y Z3=>∃l kvs d τ,x=.r (.ref l)/\Z3 l=some (.sto kvs)/\y=.d d/\Ky τ d/\KyD τ kvs/\kvs.length<sizeLine/\D.nx ρ (Z3.put l (.sto (kJ kvs d v)))):=rfl
theorem ya{td ty tv:TE}{td' ty' tv':AE}(hd:aD td td')(hy:aD ty ty')(hv:aD tv tv'):eB (An td ty tv) (B1 td' ty' tv'):=⟨fun F H Z σ ρ D D' rp rs w k=>
 hv.go rp rs w fun v Z1 vv H1 rp1 fr1 rs1 rv1 q1=>hd.go rp1 rs1 q1 fun x Z2 xv H2 rp2 fr2 rs2 rv2 q2=>hy.go rp2 rs2 q2 fun y Z3 yv H3 rp3 fr3 rs3 rv3 ⟨l,kvs,d,τ,e1,e2,e3,ky,kd,sz,q⟩=>by
  subst e1 e3;cases (show xv=.ref l from rv2)
  obtain⟨es,z1,z2⟩:=rp3.sto l kvs e2;have rv:RV (cut F H3 Z3) v vv:=rv1.same (fr2.trans fr3).same;obtain⟨rp4,fr4⟩:=rp3.KP e2 (z2.put (d:=d) (show Dat _ d yv from rv3) rv)
  exact⟨l,_,rfl,⟨es,d,τ,z1,ky,Dat.same ar rv3,z2.ky ar kd,by rw[z2.length];exact sz,rfl⟩,k.nx ρ _ σ _ rp4 (((fr1.trans fr2).trans fr3).trans fr4) (rs3.same fr4.same) q⟩⟩
noncomputable def iI(h:Heap)(d:Addr)(es:Array DictEntry)(ep:Nat):Prop:=∃o,h.get? d=some o/\o.ExactDict/\o.data=.dict es ep
section
variable{prog:Program}{w:World}{A:Around}{E:Value->Shared->Prop}{s:Shared}{d it:Addr}{es:Array DictEntry}{ep i:Nat}
theorem iI.typeIs(m:iI s.heap d es ep):s.TypeIs (.ref d) "dict":=let ⟨o,ho,hc,_⟩:=m;⟨o,ho,hc.1⟩
theorem iI.at'{h h':Heap}(m:iI h d es ep)(e:∀o,h.get? d=some o->h'.get? d=some o):iI h' d es ep:=let ⟨o,ho,r⟩:=m;⟨o,e _ ho,r⟩
theorem sU{Q:Value->Shared->Prop}(hd:(d == sysModules)=false)(m:iI s.heap d es ep)(q:Q (.ref s.heap.objs.size) { s with heap:=s.heap.push { cls:=.type "dict_keyiterator",data:=.fields #[.ref d,.int 0 0,.int es.size 0,.int ep 0] } }):wpAny (model prog w) A (pyIter (.ref d)) Q E s:=by
 have hT:=m.typeIs;obtain⟨o,ho,hc,hdat⟩:=m;refine wpAny_pyIter_slot hT F.slot_dict_iter (zbt F.slot_dict_iter hT F.entry_dict_iter ?_ (F.args_dict_iter_1 _));unfold Builtin.«dict.__iter__» Builtin.Dict.dictSlotNone;refine zaa (zaa (wpAny_notOrdered_dict hT (zab ?_)));show wpAny _ _ (Builtin.Dict.showsAll d >>= _) _ _ s;unfold Builtin.Dict.showsAll;rw[zad (by rw[hd];exact zat)]
 refine zaa (zab (zaa (zbY ho hdat (zaa (wpAny_dictEpoch ho hdat (zaa (zbv (zab ⟨_,rfl,"dict_keyiterator",_,⟨_,zan _ rfl,rfl⟩,zdk.lookup,?_⟩))))))));simpa[rawInt] using q
theorem jG{Q:Option Value->Shared->Prop}(hit:s.heap.IsKeyIter it d i es.size ep)(m:iI s.heap d es ep)(hi:∀x,es[i]?=some x->∀h',h'.IsKeyIter it d (i+1) es.size ep->Heap.SameBut it s.heap h'->Q (some x.key) { s with heap:=h' })(hn:es[i]?=none->A.handled=none/\∀h',Heap.ExtBut it s.heap h'->Q none { s with heap:=h' }):wpAny (model prog w) A (pyNext (.ref it)) Q E s:=by
 obtain⟨o,ho,hc,hd⟩:=id hit;obtain⟨od,hod,hcd,hdd⟩:=id m;unfold pyNext
 refine zaa (wpAny_attempt (zbx (name:=Str.ofString "__next__") hit.typeIs zdk
  (zbt zdk hit.typeIs F.entry_dict_keyiterator_next ?_ (F.args_dict_keyiterator_next_1 _))))
 refine zaa (zab (zaa (zaa ?_)))
 first|refine zaa (zdb hit.typeIs (zab ?_))|refine zaa (wpAny_typeNameOf_keyiter hit.typeIs (zab ?_))
 refine zaa (wpAny_fieldsOf ho hd ?_);simp only[show Builtin.Dict_items.ownsTuple "dict_keyiterator"=false by decide,zak,zaP]
 show wpAny _ _ (if (Value.ref d == Value.none)=true then _ else _) _ _ s
 rw[zad (show ¬ ((Value.ref d == Value.none)=true) from zat)]
 refine zaa (zab (zaa (zbY hod hdd ?_)));rw[zad (by simp)]
 refine zaa (zab (zaa (wpAny_dictEpoch hod hdd ?_)));rw[zad (by simp)]
 refine zab ?_;simp only[show ¬ ((i:Int)<0) from by omega,zaP,zba]
 cases hx:es[i]? with
 |some x=>
  refine zaa ?_
  first|refine zaa (zdb hit.typeIs (zab ?_))|refine zaa (wpAny_typeNameOf_keyiter hit.typeIs (zab ?_))
  refine zaa (wpAny_isOneOf_keyiter hit.typeIs ?_);show wpAny _ _ (setField (.ref it) 1 (rawInt ((i:Int)+1)) >>= _) _ _ s;refine zaa (wpAny_setField ho hd (by simp) ?_)
  have hit':(s.heap.update it (Obj.mapFields (·.setIfInBounds 1 (rawInt ((i:Int)+1))))).IsKeyIter it d (i+1) es.size ep:=
   ⟨_,zbP _ ho (Obj.isFreed_of_fields (Obj.data_mapFields hd _)),(Obj.cls_mapFields ..).trans hc,by rw[Obj.data_mapFields hd];simp[rawInt]⟩
  refine zaa (zbs ?_);refine zaa (wpAny_isOneOf_keyiter (s:={ s with heap:=s.heap.update it (Obj.mapFields (·.setIfInBounds 1 (rawInt ((i:Int)+1)))) }) hit'.typeIs ?_)
  show wpAny _ _ (pure x.key) _ _ _;exact zab (zab ⟨_,rfl,zab (hi x hx _ hit' (zcg ..))⟩)
 |none=>
  obtain⟨hh,hq⟩:=hn hx;refine zaa ?_
  first|refine zaa (zdb hit.typeIs (zab ?_))|refine zaa (wpAny_typeNameOf_keyiter hit.typeIs (zab ?_))
  show wpAny _ _ (setField (.ref it) 0 .none >>= _) _ _ s;refine zaa (wpAny_setField ho hd (by simp) ?_)
  show wpAny _ _ (newExc (.type "StopIteration") [] >>= _) _ _ _;refine zaa ?_;simp only[newExc,newTuple];refine zaa (zbv ?_ (by size_fits))
  refine zaa (m:=firstArgMember _ _) (zco (a:=Value.none) (by first|rfl|(simp only[firstArgMember];rfl)) ?_)
  refine zbv ?_ (by size_fits)
  simp only[raiseNew];refine zaa (wpAny_handled ?_);rw[show A.in1.handled=none from hh]
  refine zaa (zab (wpAny_throw ?_));refine zaa (zcR (T:="StopIteration") (b:=true) ⟨_,zan _ rfl,rfl⟩ isSubtype_stop ?_);exact zab (hq _ (((zcg ..).extBut.push _).push _))
theorem y9(hh:A.handled=none)(hne:d≠it):Walks prog w A it [it,d] [it] es.size (fun i v=>∃x,es[i]?=some x/\v=x.key) (fun i h=>h.IsKeyIter it d i es.size ep/\iI h d es ep) where
 sub:=fun b hb=>by simp at hb;simp[hb]
 frame:=fun _ _ _ st hk=>⟨st.1.at fun o e=>hk it (by simp) o e,st.2.at' fun o e=>hk d (by simp) o e⟩
 item:=fun i s Q E hi st hQ=>by
  refine jG st.1 st.2 (fun x hx h' hit' hs'=>?_) fun hx=>by simp[zbN hi] at hx
  exact hQ x.key h' s.toks ⟨x,hx,rfl⟩ ⟨hit',st.2.at' fun o e=>(hs'.2 d hne).trans e⟩ fun b o hb e=>hs'.extBut b o (fun h=>hb (by simp[h])) e
 done:=fun s Q E st hQ=>jG st.1 st.2 (fun x hx=>by simp at hx) fun _=>⟨hh,fun h' he'=>hQ h' s.toks fun b o hb e=>he' b o (fun h=>hb (by simp[h])) e⟩
 self:=fun _ _ _ _ st hQ=>wpAny_pyIter_keyiter st.1 hQ
theorem iI.lt{h:Heap}(m:iI h d es ep):d<h.objs.size:=let ⟨_,ho,_⟩:=m;zaq ho
theorem zF(lo:(d == sysModules)=false):W.KdlSrc prog w "dict" d d es.size (fun i v=>∃x,es[i]?=some x/\v=x.key) (fun h=>iI h d es ep) where
 type:=fun _ hm=>hm.typeIs
 there:=fun _ hm=>⟨hm.lt,hm.lt⟩
 keep:=fun _ _ hm hk=>hm.at' fun o e=>hk d (.inl rfl) o e
 notList:=by decide
 notTuple:=by decide
 hint:=fun _ _ _ _ hm hq=>W.kdl_hint_dict hm.typeIs hq
 iter:=fun _ _ hh hm=>⟨_,_,(fun _ _ hq=>sU lo hm hq),y9 hh (zaF hm.lt),⟨⟨_,zan _ rfl,rfl,rfl⟩,hm.at' fun o e=>zac _ e⟩⟩
end
section
variable{X:Cx}{pins:List (Addr×Obj)}{σ:St}{H:Hp}{s:Shared}
theorem qt{a:Addr}{es:List (D×V×V)}(I:Inv X pins σ H s)(e:StH H a es):∃qs ep,iI s.heap a qs ep/\(a == sysModules)=false/\es.length<=sizeLine/\Paired RX1 es qs.toList:=by
 obtain⟨ob,es',ep,h1,h2,h3,h4,h5,h6,h7⟩:=e.ok I.hok;exact⟨es',ep,⟨ob,h1,h2,h3⟩,h4,h5,h7⟩
theorem oA{f:DictEntry->Value}{g:D×V×V->V}(hf:∀p q,RX1 p q->aB (g p) (f q)){es:List (D×V×V)}{qs:Array DictEntry}(t:Paired RX1 es qs.toList){acc:Array Value}(hi:ItemsOf (fun i v=>∃x,qs[i]?=some x/\v=f x) acc qs.size):ay (es.map g) acc.toList:=by
 have e:acc.toList=qs.toList.map f:=by
  refine List.ext_getElem? fun i=>?_;rw[zam,zcl,zcl];by_cases h:i<acc.size
  ·obtain⟨x,h1,h2⟩:=hi.2 i _ (zbN h)
   rw[h1,zbN h,h2];rfl
  ·have h5:=hi.1
   rw[zbB (by omega),zbB (by omega)]
   rfl
 rw[e];clear e hi;generalize qs.toList=l at t
 induction t with
 |nil=>exact .nil
 |cons r _ ih=>exact .cons (hf _ _ r) ih
theorem li(hc:X.calm=true):cW X (.type "list") (fun xs H Q=>∃p es,xs=[.ref p]/\StH H p es/\∀l,H l=none->Q (.ref l) (upd H l (.lst (es.map (·.2.1))))):=by
 intro pins s σ H xs us Q I r h;obtain⟨p,es,rfl,e,q⟩:=h;obtain⟨u,rfl,rx⟩:=gE r;cases rx;obtain⟨qs,ep,m,lo,hz,t⟩:=qt I e;have hlen:es.length=qs.size:=by rw[←zaY];exact zbb t
 refine W.kdl_call (zF lo) (I.ok.hd hc) m (by omega) fun h' tk acc' c' kp g hi=>?_
 exact⟨.ref s.heap.objs.size,_,I.laid (t':=tk) kp (zaj _) (show bb X.prog X.w _ h' _ (.lst (es.map (·.2.1))) from ⟨by rw[zaA];exact hz,acc'.toList,c',oA (fun _ _ r=>r.2.1) t hi,by rw[Array.toArray_toList];exact g⟩),rfl,q _ (I.hok.fresh (zaj _))⟩
end
end L2
namespace L2
open PySem PySem.Spec PyProof PyProof.Rows
section
variable{G:Hp}
theorem RDs.keys:∀ {kvs:List (D×AV)} {es:List (D×V×V)},RDs G kvs es->ao G (kvs.map (·.1)) (es.map (·.2.1))
 | [],_,h=>by cases h;simp[ao]
 |p::r,_,⟨kv,v,r',h1,h2,h3,h4⟩=>by
  subst h1;simp only[zah,ao];exact⟨kv,_,rfl,h2,h4.keys⟩
end
noncomputable def DF:List V->Hp->VK->Prop:=fun xs H Q=>∃p es,xs=[.ref p]/\StH H p es/\∀l,H l=none->Q (.ref l) (upd H l (.lst (es.map (·.2.1))))
noncomputable def xI:AC:=fun xs Z Q=>∃x kvs,xs=[x]/\StA Z x kvs/\Q (.d (.lst (kvs.map (·.1)))) Z
theorem nR(xs:List AV)(Z:Om)(Q:AV->Om->Prop):xI xs Z Q=∃x kvs,xs=[x]/\StA Z x kvs/\Q (.d (.lst (kvs.map (·.1)))) Z:=rfl
theorem sq:jo DF xI:=⟨fun F H Z vs xs Q Q' rp rv ⟨x,kvs,e1,e2,q⟩ k=>by
 subst e1;obtain⟨v,rfl,r⟩:=i8 rv;obtain⟨l,es,rfl,z1,z2⟩:=e2.of rp r
 exact⟨l,es,rfl,z1,k.lst rp z2.keys q⟩⟩
section
variable{prog:Program}{w:World}{K:Type}[DecidableEq K]{knd:HeapKind prog w K}{A:Around}{E:Value->Shared->Prop}{s:Shared}
theorem nP{d a:Addr}{xs:List (K×Addr×Value)}{k:K}{v:Value}{Q:Unit->Shared->Prop}(hu:knd.room A)(hkey:knd.is s.heap k a)(hm:s.heap.DictOfH knd d xs)(hQ:∀h',h'.DictOfH knd d (storedH xs k a v)->Heap.SameBut d s.heap h'->Q () { s with heap:=h' })(hsz:xs.length<=sizeLine):wpAny (model prog w) A (dictSetHashed d (.ref a) (knd.hash k) v) Q E s:=by
 obtain⟨o,es,ep,ho,hc,hd,he,his,hn⟩:=hm;unfold dictSetHashed
 try with_reducible refine zbs ?_
 refine zaa (wpAny_dictFind_heap hu hkey ho hd he his hn (fun hno=>?_) fun j p hj=>?_)
 ·have hnot:k ∉ xs.map (·.1):=not_mem_keys_of_get hno
  have sb:Heap.SameBut d s.heap (s.heap.update d (Obj.mapDictKeys (·.push ⟨knd.hash k,.ref a,v⟩))):=zcg ..
  refine zaa (zbF (wpAny_updateDictKeys (hz:=by have e:=size_of_entries he;omega) ho hd (hQ _ ⟨_,_,ep+1,zbP _ ho (zcV (zcq hd _)),hc.mapDictKeys _,zcq hd _,?_,?_,?_⟩ sb)))
  ·rw[storedH_new (atKey_none_of_get hno)]
   simp[he,entryOfKey]
  ·rw[storedH_new (atKey_none_of_get hno)]
   intro x hx;rcases zaL.mp hx with hx|hx
   ·exact knd.keeps (his x hx) ho hd sb
   ·rw[zaT] at hx
    subst hx;exact knd.keeps hkey ho hd sb
  ·rw[storedH_new (atKey_none_of_get hno),zaQ,zcH]
   refine⟨hn,by simp,fun x hx y hy e=>?_⟩
   rw[zah,zbQ,zaT] at hy;rw[e,hy] at hx;exact hnot hx
 ·have sb:Heap.SameBut d s.heap (s.heap.update d (Obj.mapDict (·.modify j fun e=>{ e with val:=v }))):=zcg ..
  refine zaa (zbF (zaa (wpAny_updateDict ho hd (wpAny_point (hQ _ ⟨_,_,ep,zbP _ ho (zcV (Obj.data_mapDict hd _)),hc.mapDict _,Obj.data_mapDict hd _,?_,?_,?_⟩ sb)))))
  ·rw[storedH_old (atKey_of_get hn hj)]
   have:=modify_map_putAt (entryOfKey knd) (fun e:DictEntry=>{ e with val:=v }) k v (fun _ _=>rfl) hn hj;rw[←he] at this
   obtain⟨l⟩:=es;simpa using this
  ·rw[storedH_old (atKey_of_get hn hj)]
   intro x hx;obtain⟨y,hy,rfl⟩:=zal.mp hx;unfold putAt;split<;>exact knd.keeps (his y hy) ho hd sb
  ·rw[storedH_old (atKey_of_get hn hj),keys_map_putAt]
   exact hn
end
section
variable{X:Cx}{pins:List (Addr×Obj)}{σ:St}{H:Hp}{s:Shared}{a b:Addr}{y v:V}{u r:Value}{A:Around}{E:Value->Shared->Prop}
theorem qI{es:List (D×V×V)}{d:D}{τ:Option Nat}{Q:Unit->Shared->Prop}(hu:A.units+100<cLine)(I:Inv X pins σ H s)(e:H a=some (stO a es))(ky:Ky τ d)(dy:Dat H d y)(kE:KyE τ H es)(l:es.length<sizeLine)(ry:aB y u)(rv:aB v r)(h:∀s',Inv X pins σ (upd H a (stO a (f9 es d y v))) s'->(∀c o,c≠a->s.heap.get? c=some o->s'.heap.get? c=some o)->Q () s'):wpAny (model X.prog X.w) A (dictSetHashed a u (cF d) r) Q E s:=by
 have hlen:=jt es d y v
 cases τ with
 |none=>
  obtain⟨i,rfl⟩:=ky;simp only[Dat] at dy;subst dy;obtain⟨xs,dd,rel,hd,z⟩:=jS I.hok (.inl e) (t7 kE);have hz:xs.length<=sizeLine:=by rw[←zbb rel];exact z
  refine wpAny_dictSetHashed_pairs (knd:=intKind X.prog X.w) (k:=i) (hsz:=hz) (no ry) dd fun h' dd' hs=>h _ ?_ fun c o hc e=>(hs.2 c hc).trans e;have he:∃q,h'.get? a=some q:=let ⟨q,_,_,hq,_⟩:=dd';⟨q,hq⟩
  exact dj (t':=s.toks) I (by rw[e];exact True.intro) hs he (qN dd' (wg rv rel) hd (by omega))
 |some n=>
  obtain⟨hn,k,rfl⟩:=ky;obtain⟨b,rfl⟩:=jj dy;cases (show u=Value.ref b from ry)
  obtain⟨xs,dd,rel,hd,z⟩:=jp I.hok hn (.inl e) (tR kE);have hz:xs.length<=sizeLine:=by rw[←zbb rel];exact z
  rw[←mm (prog:=X.prog) (w:=X.w) n k]
  refine nP (knd:=hkN X.prog X.w n hn) (by show A.units+(nkN X.prog X.w n).rank<cLine;rw[jN];omega) (lC I.hok n dy) dd (fun h' dd' hs=>h _ ?_ fun c o hc e=>(hs.2 c hc).trans e) hz
  have he:∃q,h'.get? a=some q:=let ⟨q,_,_,hq,_⟩:=dd';⟨q,hq⟩
  exact dj (t':=s.toks) I (by rw[e];exact True.intro) hs he (rD hn dd' (vN rv rel) hd (by omega))
noncomputable def bJ(es fs:List (D×V×V)):List (D×V×V):=fs.foldl (fun acc p=>f9 acc p.1 p.2.1 p.2.2) es
theorem wr(fs:List (D×V×V)):∀es:List (D×V×V),(bJ es fs).length<=es.length+fs.length:=by
 induction fs with
 |nil=>intro es;exact zaj _
 |cons p fs ih=>
  intro es;have h1:=ih (f9 es p.1 p.2.1 p.2.2);have h2:=jt es p.1 p.2.1 p.2.2;show (bJ (f9 es p.1 p.2.1 p.2.2) fs).length<=_;rw[zaJ];omega
theorem zw:∀(n:Nat)(k:Kn n),noL (kD n k)=true
 |0,k=>by
  show KA (List.map D.int k)=true
  induction (show List Int from k) with
  |nil=>rfl
  |cons i r ih=>simp only[zah,KA,noL,ih];rfl
 |n+1,k=>by
  show KA (List.map (kD n) k)=true
  induction (show List (Kn n) from k) with
  |nil=>rfl
  |cons i r ih=>simp only[zah,KA,zw n i,ih];rfl
theorem Ky.noL:∀ {τ:Option Nat} {d:D},Ky τ d->noL d=true
 |none,_,⟨_,e⟩=>by rw[e];rfl
 |some n,_,⟨_,k,e⟩=>by rw[e];exact zw n k
theorem AB{es:List (D×V×V)}{o:HO}(e:H a=some (stO a es)):Bt H (upd H a o):=fun c xs ec=>by
 rw[ah (fun z=>by subst z;rw[e] at ec;cases ec)]
 exact ec
theorem KyE.upd{τ:Option Nat}{es fs:List (D×V×V)}{o:HO}(e:H a=some (stO a es))(k:KyE τ H fs):KyE τ (L2.upd H a o) fs:=fun p hp=>⟨(k p hp).1,Dat.t (AB e) (k p hp).1.noL (k p hp).2⟩
theorem KyE.put{τ:Option Nat}{es:List (D×V×V)}{d:D}(k:KyE τ H es)(kd:Ky τ d)(dy:Dat H d y):KyE τ H (f9 es d y v):=fun p hp=>by
 unfold f9 at hp;split at hp
 ·obtain⟨q,hq,rfl⟩:=zal.mp hp
  split
  ·exact k q hq
  ·exact k q hq
 ·rcases zaL.mp hp with hp|hp
  ·exact k p hp
  ·rw[zaT.mp hp];exact⟨kd,dy⟩
theorem kZ{es fs:List (D×V×V)}{i:Nat}{p:D×V×V}(h:fs[i]?=some p):bJ es (fs.take (i+1))=f9 (bJ es (fs.take i)) p.1 p.2.1 p.2.2:=by
 unfold bJ;rw[zbU,h,List.foldl_append];rfl
theorem gi{α β:Type}{R:α->β->Prop}:∀ {l:List α} {m:List β},Paired R l m->∀ {i:Nat} {y:β},m[i]?=some y->∃x,l[i]?=some x/\R x y
 |_,_,.nil,i,y,h=>by simp at h
 |_,_,.cons r t,0,y,h=>by cases h;exact⟨_,rfl,r⟩
 |_,_,.cons r t,i+1,y,h=>gi t (by simpa using h)
theorem EA{nm:String}{es fs:List (D×V×V)}{qs:Array DictEntry}{ep:Nat}{τ:Option Nat}{Q:Unit->Shared->Prop}(hu:A.units+100<cLine)(I:Inv X pins σ H s)(e1:H a=some (stO a es))(e2:H b=some (stO b fs))(hab:a≠b)(m:iI s.heap b qs ep)(t:Paired RX1 fs qs.toList)(k1:KyE τ H es)(k2:KyE τ H fs)(hz:es.length+fs.length<=sizeLine)(h:∀s',Inv X pins σ (upd H a (stO a (bJ es fs))) s'->Q () s'):wpAny (model X.prog X.w) A (do
   let epoch ← dictEpoch b
   let l ← dictEntries b
   forIn [:l.size] PUnit.unit fun i (_:PUnit)=>(do
     let l' ← dictEntries b
     match l'[i]? with
      |some e=>do
       holding [e.key,e.val] (dictSetHashed a e.key e.hash e.val)
       let ep' ← dictEpoch b
       if (ep' != epoch)=true then do
         (unsupported (toString nm++toString ":source-changed-during-callback"):Sem PUnit)
         pure (ForInStep.yield PUnit.unit)
        else pure (ForInStep.yield PUnit.unit)
      |_=>do
       (unsupported "internal:dict-merge":Sem PUnit)
       pure (ForInStep.yield PUnit.unit):Sem (ForInStep PUnit))
   pure ()) Q E s:=by
 have hlen:fs.length=qs.size:=by rw[←zaY];exact zbb t
 obtain⟨ob,hob,hcb,hdb⟩:=id m
 have euu:upd H a (stO a es)=H:=by
  funext c
  by_cases z:c=a
  ·subst z;rw[aN,e1]
  ·rw[ah z]
 refine zaa (wpAny_dictEpoch hob hdb (zaa (zbY hob hdb (zaa ?_))));rw[Std.Legacy.Range.forIn_eq_forIn_range'];simp only[Std.Legacy.Range.size,Nat.sub_zero,Nat.add_sub_cancel,Nat.div_one];refine zbE _ (fun aJ _ s'=>∃i,aJ=List.range' i (qs.size-i)/\i<=qs.size/\Inv X pins σ (upd H a (stO a (bJ es (fs.take i)))) s'/\KyE τ (upd H a (stO a (bJ es (fs.take i)))) (bJ es (fs.take i))/\s'.heap.get? b=some ob) _ ?_ ?_ _ _ ⟨0,by simp,zbL _,by rw[zdi];show Inv X pins σ (upd H a (stO a es)) s;rw[euu];exact I,by rw[zdi];show KyE τ (upd H a (stO a es)) es;rw[euu];exact k1,hob⟩
 ·rintro x aJ _ s' ⟨i,hr,hi,I',k',hb'⟩
  have hlt:i<qs.size:=by
   rcases Nat.lt_or_ge i qs.size with h|h
   ·exact h
   ·rw[Nat.sub_eq_zero_of_le h] at hr;simp at hr
  obtain⟨rfl,hrest⟩:x=i/\aJ=List.range' (i+1) (qs.size-(i+1)):=by
   have e:qs.size-i=(qs.size-(i+1))+1:=by omega
   rw[e,List.range'_succ] at hr;injection hr with h1 h2;exact⟨h1,h2⟩
  refine zaa (zbY hb' hdb ?_);rw[zbN hlt];obtain⟨p,hp,r1,r2,r3⟩:=gi t (show qs.toList[x]?=some qs[x] by simp[hlt])
  show wpAny _ _ (holding [qs[x].key,qs[x].val] (dictSetHashed a qs[x].key qs[x].hash qs[x].val) >>= _) _ _ _;rw[r1]
  have hl:(bJ es (fs.take x)).length<sizeLine:=by
   have q1:=wr (fs.take x) es;rw[zbh] at q1;omega
  have kp:=k2 p (zaz hp);have dp:Dat (upd H a (stO a (bJ es (fs.take x)))) p.1 p.2.1:=Dat.t (AB e1) kp.1.noL kp.2;refine zaa (zbs (qI hu I' aN kp.1 dp k' hl r2 r3 fun s'' I'' kk=>?_));rw[wG,←kZ hp] at I''
  have hb'':=kk b ob (zbJ hab) hb';refine zaa (wpAny_dictEpoch hb'' hdb ?_);rw[zad (by simp)]
  refine zab ⟨x+1,hrest,hlt,I'',?_,hb''⟩;have k3:=(k'.put (v:=p.2.2) kp.1 dp).upd (o:=stO a (bJ es (fs.take (x+1)))) (aN (H:=H) (a:=a));rw[wG,←kZ hp] at k3
  exact k3
 ·rintro _ s' ⟨i,hr,hi,I',k',hb'⟩
  have hin:i=qs.size:=by
   rcases Nat.lt_or_ge i qs.size with h|h
   ·have e:qs.size-i=(qs.size-(i+1))+1:=by omega
    rw[e,List.range'_succ] at hr;exact nomatch hr
   ·exact Nat.le_antisymm hi h
  rw[hin,←hlen,zbC] at I'
  exact zab (h s' I')
end
section
variable{X:Cx}{pins:List (Addr×Obj)}{σ:St}{H:Hp}{s:Shared}{a b:Addr}{y v:V}{u r:Value}{A:Around}{E:Value->Shared->Prop}
set_option tactic.hygienic true in
theorem sY{α:Type}{f:α->Int}:∀ {l:List α},(l.map f).Nodup->∀x∈l,(l.filter fun q=>f q == f x).length<=1
 | [],_,x,hx=>by cases hx
 |y::l,nd,x,hx=>by
  rw[zah,zbZ] at nd;rw[List.filter_cons];split
  ·rename_i hy
   have e:f y=f x:=by simpa using hy
   have:(l.filter fun q=>f q == f x)=[]:=by
    rw[List.filter_eq_nil_iff];intro q hq hqx;have:f q=f x:=by simpa using hqx
    exact nd.1 (by rw[e,←this];exact zal.mpr ⟨q,hq,rfl⟩)
   rw[this];simp
  ·rename_i hy
   rcases zay.mp hx with rfl|hx
   ·simp at hy
   ·exact sY nd.2 x hx
theorem y7{fs:List (D×V×V)}{qs:List DictEntry}(t:Paired RX1 fs qs):qs.map (·.hash)=fs.map fun p=>cF p.1:=by
 induction t with
 |nil=>rfl
 |cons r _ ih=>simp only[zah,ih,r.1]
theorem Hh{nm:String}{fs:List (D×V×V)}{qs:Array DictEntry}{ep:Nat}{τ:Option Nat}{Q:Array DictEntry->Shared->Prop}(I:Inv X pins σ H s)(m:iI s.heap b qs ep)(t:Paired RX1 fs qs.toList)(k2:KyE τ H fs)(hn:(fs.map fun p=>cF p.1).Nodup)(h:Q qs s):
  wpAny (model X.prog X.w) A (Builtin.Dict.entriesForEmpty nm b) Q E s:=by
 obtain⟨ob,hob,hcb,hdb⟩:=id m;have nd:(qs.toList.map (·.hash)).Nodup:=by rw[y7 t];exact hn
 unfold Builtin.Dict.entriesForEmpty;refine zaa (zbY hob hdb (zaa ?_));rw[←zbR]
 refine zbE _ (fun aJ _ s'=>s'=s/\∀x∈aJ,x∈qs.toList) _ ?_ ?_ _ _ ⟨rfl,fun _ h=>h⟩
 ·rintro x aJ _ s' ⟨rfl,hm⟩
  have hx:=hm x (zau ..)
  have hq:∀ {Q2:Bool->Shared->Prop},(∀c,Q2 c s')->wpAny (model X.prog X.w) A (Builtin.Dict.quietEq x.key) Q2 E s':=fun {Q2} hq2=>by
   obtain⟨i,hi⟩:=List.mem_iff_getElem?.mp hx;obtain⟨p,hp,r1,r2,r3⟩:=gi t hi;have kp:=k2 p (zaz hp)
   cases τ with
   |none=>
    obtain⟨j,hj⟩:=kp.1;have dp:=kp.2;rw[hj] at dp;simp only[Dat] at dp;rw[dp] at r2;obtain⟨t0,ht⟩:=r2;rw[ht];exact zab (hq2 _)
   |some n=>
    obtain⟨hn,k,hk⟩:=kp.1;have dp:=kp.2;rw[hk] at dp;obtain⟨c,hc⟩:=jj dp;rw[hc] at r2 dp;have e:x.key=.ref c:=r2;rw[e];obtain⟨o,its,m,g1,g2,g3⟩:=(nkN X.prog X.w n).tup (lC I.hok n dp);unfold Builtin.Dict.quietEq;refine zaa (zca (T:="tuple") ⟨o,g1,g2⟩ zcv.lookup ?_);exact zab (hq2 _)
  refine zaa (hq fun c=>?_)
  have hsz:¬ ((qs.filter fun q=>q.hash == x.hash).size>1):=by
   have:=sY nd x hx
   have e:(qs.filter fun q=>q.hash == x.hash).size=(qs.toList.filter fun q=>q.hash == x.hash).length:=by
    rw[←zaY,Array.toList_filter]
   omega
  cases c with
  |true=>exact zab ⟨rfl,fun y hy=>hm y (zar _ hy)⟩
  |false=>
   rw[zaf (by decide),zad hsz]
   exact zab ⟨rfl,fun y hy=>hm y (zar _ hy)⟩
 ·rintro _ s' ⟨rfl,_⟩
  exact zab h
theorem uM{τ:Option Nat}{fs:List (D×V×V)}(k2:KyE τ H fs)(hn:(fs.map (·.1)).Nodup):bJ [] fs=fs:=by
 have key:∀(fs acc:List (D×V×V)),KyE τ H acc->KyE τ H fs->((acc++fs).map (·.1)).Nodup->bJ acc fs=acc++fs:=by
  intro fs
  induction fs with
  |nil=>intro acc _ _ _;simp[bJ]
  |cons p fs ih=>
   intro acc ka kf hn;show bJ (f9 acc p.1 p.2.1 p.2.2) fs=_;have hp:=kf p (zau ..)
   have e:f9 acc p.1 p.2.1 p.2.2=acc++[p]:=by
    unfold f9;rw[zad];rw[List.any_eq_true];rintro⟨q,hq,he⟩;have hqk:=ka q hq
    have:q.1=p.1:=by
     cases τ with
     |none=>
      obtain⟨i,hi⟩:=hqk.1;obtain⟨j,hj⟩:=hp.1;rw[hi,hj] at he ⊢;rw[rl] at he;rw[zdd he]
     |some n=>
      obtain⟨_,i,hi⟩:=hqk.1;obtain⟨_,j,hj⟩:=hp.1;rw[hi,hj] at he ⊢;rw[si] at he;rw[zdd he]
    rw[zaQ,zcH] at hn;exact hn.2.2 q.1 (zal.mpr ⟨q,hq,rfl⟩) p.1 (by simp) this
   rw[e,ih (acc++[p]) ?_ (fun q hq=>kf q (zar _ hq)) (by simpa using hn)]
   ·simp
   ·intro q hq
    rcases zaL.mp hq with hq|hq
    ·exact ka q hq
    ·rw[zaT.mp hq];exact hp
 simpa using key fs [] (fun p hp=>by cases hp) k2 (by simpa using hn)
set_option tactic.hygienic true in
theorem zA{nm:String}{es fs:List (D×V×V)}{τ:Option Nat}{Q:Unit->Shared->Prop}(hu:A.units+100<cLine)(I:Inv X pins σ H s)(e1:H a=some (stO a es))(e2:H b=some (stO b fs))(hab:a≠b)(k1:KyE τ H es)(k2:KyE τ H fs)(hz:es.length+fs.length<=sizeLine)(hn:es=[]->(fs.map fun p=>cF p.1).Nodup)(h:∀s',Inv X pins σ (upd H a (stO a (bJ es fs))) s'->Q () s'):wpAny (model X.prog X.w) A (Builtin.Dict.mergeDict nm a b) Q E s:=by
 obtain⟨qs,ep,m,lo,hz2,t⟩:=qt I (.inl e2);obtain⟨ps,epa,ma,loa,hza,ta⟩:=qt I (.inl e1);have hlen:fs.length=qs.size:=by rw[←zaY];exact zbb t
 have hlena:es.length=ps.size:=by rw[←zaY];exact zbb ta
 obtain⟨ob,hob,hcb,hdb⟩:=id m;obtain⟨oa,hoa,hca,hda⟩:=id ma
 have ndk:(fs.map (·.1)).Nodup:=by
  obtain⟨⟨_,_,_,_,_,_,_,_,h6,_⟩,_⟩:=I.hok b _ e2;exact h6
 have loop:=EA (nm:=nm) (E:=E) hu I e1 e2 hab m t k1 k2 hz h;unfold Builtin.Dict.mergeDict;rw[zad (by simpa using hab)]
 unfold Builtin.Dict.showsAll;rw[zad (by rw[lo];exact zat)]
 refine zaa (zab (zaa (zbY hob hdb ?_)));dsimp only;split
 ·refine zaa (zbY hoa hda ?_)
  split
  ·rename_i hemp
   have he0:es=[]:=by
    have h0:ps=#[]:=Array.isEmpty_iff.mp hemp;rw[h0] at hlena;exact zbw.mp hlena
   subst he0;rw[uM k2 ndk] at h;refine zaa (Hh I m t k2 (hn rfl) ?_);split
   ·have hto:qs.size<=sizeLine+1:=by omega
    refine zaa (wpAny_updateDictKeysTo hoa hda (zab (h _ ?_)) hto);refine dj (t':=s.toks) I (by rw[e1];exact True.intro) (zcg ..) ⟨_,zbP _ hoa (zcV (zcq hda _))⟩ ?_
    refine⟨⟨_,qs,_,zbP _ hoa (zcV (zcq hda _)),hca.mapDictKeys _,zcq hda _,loa,hz2,ndk,t⟩,⟨_,zbP _ hoa (zcV (zcq hda _))⟩,?_⟩;rintro ha hb ⟨o,es',ep,g1,r⟩ k;exact⟨o,es',ep,k o g1,r⟩
   ·rename_i hne
    have h0:qs=#[]:=Array.isEmpty_iff.mp (by simpa using hne)
    have hm0:fs=[]:=zbw.mp (by rw[hlen,h0];rfl)
    subst hm0
    have euu:upd H a (stO a [])=H:=by
     funext c
     by_cases z:c=a
     ·subst z;rw[aN,e1]
     ·rw[ah z]
    exact zab (h s (by rw[euu];exact I))
  ·exact loop
 ·exact loop
theorem yP{es fs:List (D×V×V)}{τ:Option Nat}{Q:Value->Shared->Prop}(hu:A.units+101<cLine)(I:Inv X pins σ H s)(e1:H a=some (stO a es))(e2:H b=some (stO b fs))(hab:a≠b)(k1:KyE τ H es)(k2:KyE τ H fs)(hz:es.length+fs.length<=sizeLine)(hn:es=[]->(fs.map fun p=>cF p.1).Nodup)(h:∀s',Inv X pins σ (upd H a (stO a (bJ es fs))) s'->Q .none s'):wpAny (model X.prog X.w) A (call (.builtin "dict.update") [.ref a,.ref b]) Q E s:=by
 obtain⟨t1,t2,t3⟩:=im I (.inl e1);obtain⟨u1,u2,u3⟩:=im I (.inl e2);refine zbt PySem.F.slot_dict_update t1 PySem.F.entry_dict_update ?_ (PySem.F.args_dict_update_2 _ _);unfold Builtin.«dict.update»;refine zaa ?_;unfold Builtin.Dict.selfAndRest;refine zaa (wpAny_notOrdered_dict t1 ?_);show wpAny _ _ (pure (a,[Value.ref b])) _ _ s;refine zab ?_;show wpAny _ _ (Builtin.Dict.updateFrom "dict.update" a (.ref b) [] .none) _ _ s
 unfold Builtin.Dict.updateFrom;refine zaa (zdg u1 ?_);rw[zad (by decide)]
 refine zaa ?_;unfold Builtin.Dict.merge;refine zaa ?_;unfold Builtin.Dict.readDirectly;refine zaa (zcR u1 isSubtype_dict_dict ?_);simp only[zbl,zak,zaP];refine zaa (zca u1 PySem.F.slot_dict_iter.lookup (zab ?_));simp only[beq_self_eq_true,zaX];refine zaa (zab ?_);refine zA (by have:A.in1.units=A.units+1:=rfl;omega) I e1 e2 hab k1 k2 hz hn fun s' I'=>?_
 show wpAny _ _ (Builtin.Dict.addKeywords a [] >>= _) _ _ _;exact zaa (zab (zab ⟨.none,rfl,h s' I'⟩))
end
noncomputable def BY(td te:TE):TE:=fun σ H Q=>td σ H fun x H1=>∃a es0,x=.ref a/\H1 a=some (stO a es0)/\te σ H1 fun y H2=>∃b es fs τ,y=.ref b/\H2 a=some (stO a es)/\H2 b=some (stO b fs)/\a≠b/\KyE τ H2 es/\KyE τ H2 fs/\es.length+fs.length<=sizeLine/\(es=[]->(fs.map fun p=>cF p.1).Nodup)/\Q .non (upd H2 a (stO a (bJ es fs)))
theorem B7{X:Cx}{o e:Expr}{apos cpos:Pos}{td te:TE}(hu:X.A.units+130<cLine)(ho:PE X o td)(he:PE X e te)(m:M1 X o "update" apos e cpos):PE X (.Call (.Attribute o "update" apos) [e] [] cpos) (BY td te):=.mk <| by
 intro pins s σ H Q I h;refine wpAny_Call_method m.base m.few m.line PySem.F.plainAttrs_dict PySem.F.slot_dict_update PySem.F.type_dict_update (thn (ho pins s σ H _ I h) fun u s1 ⟨x,H1,I1,rx,a,es0,ex,d,q1⟩=>?_);subst ex;obtain rfl:u=Value.ref a:=rx;obtain⟨t1,t2,_⟩:=im I1 (.inl d);refine⟨t1,t2,?_⟩;rw[m.trees];refine Calls.callWith_builtin rfl (Calls.evalArgs_plain (Calls.spliced_cons (thn (he pins s1 σ H1 _ I1 q1) fun iv s2 ⟨y,H2,I2,ry,b,es,fs,τ,ey,e1,e2,hab,k1,k2,hz,hn,q2⟩=>Calls.spliced_nil ?_)))
 subst ey;obtain rfl:iv=Value.ref b:=ry;exact yP (by omega) I2 e1 e2 hab k1 k2 hz hn fun s3 I3=>⟨.non,_,I3,rfl,q2⟩
noncomputable def jh(kvs more:List (D×AV)):List (D×AV):=more.foldl (fun acc p=>kJ acc p.1 p.2) kvs
theorem RDs.merge{G:Hp}:∀ {more:List (D×AV)} {fs:List (D×V×V)} {kvs:List (D×AV)} {es:List (D×V×V)},RDs G kvs es->RDs G more fs->RDs G (jh kvs more) (bJ es fs)
 | [],_,_,_,h,k=>by cases k;exact h
 |p::r,_,kvs,es,h,⟨kv,v,r',h1,h2,h3,h4⟩=>by
  subst h1;show RDs G (jh (kJ kvs p.1 p.2) r) (bJ (f9 es p.1 kv v) r');exact RDs.merge (h.put (d:=p.1) h2 h3) h4
noncomputable def Bx(td te:AE):AE:=fun ρ Z Q=>td ρ Z fun x Z1=>∃l kvs0,x=.r (.ref l)/\Z1 l=some (.sto kvs0)/\te ρ Z1 fun y Z2=>∃p kvs more τ,y=.r (.ref p)/\Z2 l=some (.sto kvs)/\Z2 p=some (.sto more)/\l≠p/\KyD τ kvs/\KyD τ more/\kvs.length+more.length<=sizeLine/\(kvs=[]->(more.map fun p=>cF p.1).Nodup)/\Q (.d .non) (Z2.put l (.sto (jh kvs more)))
theorem pX(td te:AE)(ρ:SA)(Z:Om)(Q:AV->Om->Prop):Bx td te ρ Z Q=(td ρ Z fun x Z1=>∃l kvs0,x=.r (.ref l)/\Z1 l=some (.sto kvs0)/\te ρ Z1 fun y Z2=>∃p kvs more τ,y=.r (.ref p)/\Z2 l=some (.sto kvs)/\Z2 p=some (.sto more)/\l≠p/\KyD τ kvs/\KyD τ more/\kvs.length+more.length<=sizeLine/\(kvs=[]->(more.map fun p=>cF p.1).Nodup)/\Q (.d .non) (Z2.put l (.sto (jh kvs more)))):=rfl
theorem RDs.La{G:Hp}{f:D->Int}:∀ {kvs:List (D×AV)} {es:List (D×V×V)},RDs G kvs es->(es.map fun p=>f p.1)=kvs.map fun p=>f p.1
 | [],_,h=>by cases h;rfl
 |p::r,_,⟨kv,v,r',h1,h2,h3,h4⟩=>by subst h1;simp only[zah,h4.La]
theorem DY{td te:TE}{td' te':AE}(hd:aD td td')(he:aD te te'):aD (BY td te) (Bx td' te'):=⟨fun F H Z σ ρ Q Q' rp rs w k=>
 hd.go rp rs w fun x Z1 v H1 rp1 fr1 rs1 rv1 ⟨l,kvs0,e1,e2,q1⟩=>by
  subst e1;cases (show v=.ref l from rv1)
  obtain⟨es0,z0,_⟩:=rp1.sto l kvs0 e2
  exact⟨l,es0,rfl,z0,he.go rp1 rs1 q1 fun y Z2 u H2 rp2 fr2 rs2 rv2 ⟨p,kvs,more,τ,e3,e4,e5,hlp,k1,k2,hz,hn,q⟩=>by
   subst e3;cases (show u=.ref p from rv2)
   obtain⟨es,z1,z2⟩:=rp2.sto l kvs e4;obtain⟨fs,y1,y2⟩:=rp2.sto p more e5;obtain⟨rp4,fr4⟩:=rp2.KP e4 (z2.merge y2);refine⟨p,es,fs,τ,rfl,z1,y1,hlp,z2.ky ar k1,y2.ky ar k2,by rw[z2.length,y2.length];exact hz,fun h0=>?_,?_⟩
   ·rw[y2.La]
    refine hn ?_;have:=z2.length;rw[h0] at this;exact zbw.mp this.symm
   ·exact k (.d .non) _ .non _ rp4 (((fr1.trans fr2)).trans fr4) (by simp[RV,Dat]) q⟩⟩
section
variable{X:Cx}{pins:List (Addr×Obj)}{σ:St}{H:Hp}{s:Shared}{a:Addr}{y v:V}{u r:Value}{A:Around}{E:Value->Shared->Prop}
theorem mJ{H':Hp}{Q:Unit->Shared->Prop}(hu:A.units+100<cLine)(I:Inv X pins σ H s)(g:zN H a y v H')(ry:aB y u)(rv:aB v r)(h:∀s',Inv X pins σ H' s'->Q () s'):wpAny (model X.prog X.w) A (dictSet a u r) Q E s:=by
 obtain⟨es,d,τ,e,ky,dy,kE,l,eH⟩:=g;subst eH;have hlen:=jt es d y v
 cases τ with
 |none=>
  obtain⟨i,rfl⟩:=ky;simp only[Dat] at dy;subst dy;obtain⟨xs,dd,rel,hd,z⟩:=jS I.hok (.inl e) (t7 kE);have hz:xs.length<=sizeLine:=by rw[←zbb rel];exact z
  refine wpAny_dictSet_pairs (hsz:=hz) (no ry) dd fun h' dd' hs=>h _ ?_;have he:∃q,h'.get? a=some q:=let ⟨q,_,_,hq,_⟩:=dd';⟨q,hq⟩
  exact dj I (by rw[e];exact True.intro) hs he (qN dd' (wg rv rel) hd (by omega))
 |some n=>
  obtain⟨hn,k,rfl⟩:=ky;obtain⟨b,rfl⟩:=jj dy;cases (show u=Value.ref b from ry)
  obtain⟨xs,dd,rel,hd,z⟩:=jp I.hok hn (.inl e) (tR kE);have hz:xs.length<=sizeLine:=by rw[←zbb rel];exact z
  refine wpAny_dictSet_heap (knd:=hkN X.prog X.w n hn) (hsz:=hz) (by show A.units+(nkN X.prog X.w n).rank<cLine;rw[jN];omega) (lC I.hok n dy) dd fun h' dd' hs=>h _ ?_
  have he:∃q,h'.get? a=some q:=let ⟨q,_,_,hq,_⟩:=dd';⟨q,hq⟩
  exact dj I (by rw[e];exact True.intro) hs he (rD hn dd' (vN rv rel) hd (by omega))
end
noncomputable def Bl(tk tv:TE):TL:=fun acc σ H K=>tk σ H fun y H1=>tv σ H1 fun v H2=>∃H3,zN H2 acc y v H3/\K σ H3
section
variable{prog:Program}{w:World}{A:Around}{E:Value->Shared->Prop}{R:Result->Shared->Prop}{s:Shared}
theorem zd{k v target iter:Expr}{scope:Scope}{pos:Pos}{it:Value}{acc:Addr}{env:Env}(I:Nat->Shared->Prop)
  (turn:∀n s,I n s->wpAny (model prog w) A (pyNext it) (fun r s₁=>match r with
   |none=>R (.ok .next) s₁
   | some x=>wpAny (model prog w) A (letOwnedTupleGo target it x) (fun _ s₂=>wpAny (model prog w) A (assign target env x) (fun _ s₃ =>
     wpAny (model prog w) A (eval k env) (fun kv s₄=>wpAny (model prog w) A (eval v env) (fun vv s₅=>wpAny (model prog w) A (dictSet acc kv vv) (fun _ s₆=>∃m,m<n/\I m s₆) (fun _ _=>False) s₅) (fun _ _=>False) s₄) (fun _ _=>False) s₃) (fun _ _=>False) s₂) (fun _ _=>False) s₁) (fun _ _=>False) s)
  (n:Nat) (h:I n s):codeAny (model prog w) A (.compLoop (.DictComp k v [⟨target,iter,[],0⟩] scope pos) 0 it (.ref acc) env) R s:=by
 refine codeAny_loop rfl I (fun n s hI=>?_) n h;show wpAny _ A ((compTurn (.DictComp k v [⟨target,iter,[],0⟩] scope pos) 0 it (.ref acc) env).onRaise (fun x=>do noteFrame x env;theTreesLotGoes x)) _ _ s
 refine wpAny_noted ?_;unfold compTurn;simp only[zcW];refine zaa (zcC (zaa (zbi (turn n s hI) (fun r s₁ h₁=>?_) fun _ _ x=>x.elim)))
 cases r with
 |none=>exact zab h₁
 |some x=>
  refine zaa (zbi h₁ (fun _ s₂ h₂=>zaa (zbi h₂ (fun _ s₃ h₃=>?_) fun _ _ x=>x.elim)) fun _ _ x=>x.elim);refine zaa (zab ?_);rw[zaf rfl];refine zaa ?_;show wpAny _ _ (eval k env >>= _) _ _ _;refine zaa (zbi h₃ (fun kv s₄ h₄=>?_) fun _ _ x=>x.elim);refine zaa (zbs (zbi h₄ (fun vv s₅ h₅=>?_) fun _ _ x=>x.elim))
  refine zaa (zcC (zbs (zbi h₅ (fun _ s₆ h₆=>zab ⟨rfl,h₆⟩) fun _ _ x=>x.elim)))
theorem uO{k v target iter:Expr}{scope:Scope}{pos:Pos}{it acc:Value}{env:Env}(h0:codeAny (model prog w) A (.compLoop (.DictComp k v [⟨target,iter,[],0⟩] scope pos) 0 it acc env) R s)(h:wpAny (model prog w) A (pyIter it) (fun it' s'=>codeAny (model prog w) A (.compLoop (.DictComp k v [⟨target,iter,[],0⟩] scope pos) 0 it' acc env) R s') (fun _ _=>False) s):
  codeAny (model prog w) A (.compStart (.DictComp k v [⟨target,iter,[],0⟩] scope pos) 0 it acc env) R s:=by
 refine codeAny_of_tree ?_;show wpAny _ _ ((compStart (.DictComp k v [⟨target,iter,[],0⟩] scope pos) 0 it acc env).onRaise (fun x=>do noteFrame x env;standAt theWindowsPlace)) _ _ s
 refine wpAny_notedAt ?_;unfold compStart;have hcl:clausesOf (.DictComp k v [⟨target,iter,[],0⟩] scope pos)=[⟨target,iter,[],0⟩]:=rfl;simp only[hcl,zcW,Option.elim];refine wpAny_ite ?_;rw[zad (by decide)]
 refine zaa (wpAny_askSetting (wpAny_ite ?_));split
 ·first
   |exact zaa (zab (zab (And.intro rfl h0)))
   |exact zab (And.intro rfl h0)
 ·exact zaa (zbF (zaa (zcC (zaa (zbi h (fun it' s' h'=>zab (And.intro rfl h')) fun _ _ x=>x.elim)))))
end
section
variable{X:Cx}{k v:Expr}{scope:Scope}{pos:Pos}{tk tv:TE}{tg iter:Expr}{wi:TI}{g:TG}{N:List Str}{src:List (Option Nat)}
theorem vW(hx:X.xe=fun _ _=>False)(hc:X.calm=true)(hu:X.A.units+100<cLine)(hg:PG X tg g)(hk:PE X k tk)(hv:PE X v tv){pins:List (Addr×Obj)}{s:Shared}{σ:St}{H:Hp}{acc it:Addr}{fp:List Addr}{tn:Nat->Heap->Prop}{J:It}{K:St->Hp->Prop}{R:Result->Shared->Prop}(I:Inv X pins σ H s)(T:um X.prog X.w X.K tg J fp it tn)(st:tn 0 s.heap)(f2:∀b∈fp,fM X pins H b)(h:nn J g iE (Bl tk tv) acc σ H K)(hR:∀σ' H' s',Inv X pins σ' H' s'->K σ' H'->R (.ok .next) s'):
  codeAny (model X.prog X.w) X.A (.compLoop (.DictComp k v [⟨tg,iter,[],0⟩] scope pos) 0 (.ref it) (.ref acc) X.env) R s:=by
 obtain⟨W,⟨m0,w0⟩,turn⟩:=h;have stat:∀ {H':Hp},(∀b∈fp,H' b=none)->∀b∈fp,fM X pins H' b:=fun hn b hb=>⟨hn b hb,(f2 b hb).2⟩;refine zd (fun n s'=>∃i σ' H',Inv X pins σ' H' s'/\tn i s'.heap/\(∀b∈fp,H' b=none)/\W i n σ' H') ?_ m0 ⟨0,σ,H,I,st,fun b hb=>(f2 b hb).1,w0⟩;rintro n s3 ⟨i,σ3,H3,I3,st3,fr3,w3⟩;rcases turn i n σ3 H3 w3 with⟨stop,qn⟩|⟨go,step⟩
 ·refine thn (T.done X rfl rfl rfl hc i pins s3 σ3 H3 _ I3 (stat fr3) st3 stop) fun r s4 ⟨hr,I4⟩=>?_
  subst hr;exact hR σ3 H3 s4 I4 qn
 ·refine thn (T.item X rfl rfl rfl hc i pins s3 σ3 H3 _ I3 (stat fr3) st3 go) fun r s4 ⟨u,hr,h4⟩=>?_
  subst hr;refine thn h4 fun _ s5 ⟨x,H5,I5,r5,y5,st5,fr5⟩=>?_;have I5':=I5.pinned (stat fr5) (T.obj _ _ st5)
  have again:∀ {σ7:St} {H7:Hp} {s7:Shared} {m':Nat},Inv X (pins++ku fp s5.heap) σ7 H7 s7->m'<n->W (i+1) m' σ7 H7->∃m,m<n/\∃i σ' H',Inv X pins σ' H' s7/\tn i s7.heap/\(∀b∈fp,H' b=none)/\W i m σ' H':=fun {σ7 H7 s7 m'} I7 hm w7=>by
   refine⟨m',hm,i+1,σ7,H7,I7.unpinned,T.keep _ _ _ st5 fun b hb o e=>(I7.pin (b,o) (zaC _ (zaC _ (dM hb e)))).1,fun b hb=>?_,w7⟩;obtain⟨o,e,d⟩:=T.obj _ _ st5 b hb;exact(I7.pin (b,o) (zaC _ (zaC _ (dM hb e)))).2.1
  have hg':=hg _ s5 σ3 H5 x u _ I5' r5 (step x H5 y5);rw[hx] at hg';refine thn hg' fun _ s6 ⟨σ6,H6,I6,q6⟩=>?_
  have q6':Bl tk tv acc σ6 H6 (fun σ3 H4=>∃m',m'<n/\W (i+1) m' σ3 H4):=by
   unfold iE at q6;simpa only[zaX] using q6
  have hk':=hk _ s6 σ6 H6 _ I6 q6';rw[hx] at hk';refine thn hk' fun kv s7 ⟨y,H7,I7,ry,q7⟩=>?_;have hv':=hv _ s7 σ6 H7 _ I7 q7;rw[hx] at hv';refine thn hv' fun vv s8 ⟨z,H8,I8,rz,H9,sp,q8⟩=>?_;refine mJ hu I8 sp ry rz fun s9 I9=>?_;obtain⟨m',hm,w9⟩:=q8;exact again I9 hm w9
noncomputable def CQ(src:List (Option Nat))(wi:TI)(g:TG)(tk tv:TE):TE:=fun σ H Q=>wi σ H fun J H1=>∀acc,H1 acc=none->nn J g iE (Bl tk tv) acc (pP src σ) (upd H1 acc (stO acc [])) fun _ H'=>Q (.ref acc) H'
theorem zz(hc:X.calm=true)(hu:X.A.units+100<cLine)(hb:cf scope X.env.scope N src X.N=true)(hi:PI X tg iter wi)(hg:∀cs C s H ex pn,PG (X.blk scope N cs C s H ex pn) tg g)(hk:∀cs C s H ex pn,PE (X.blk scope N cs C s H ex pn) k tk)(hv:∀cs C s H ex pn,PE (X.blk scope N cs C s H ex pn) v tv)(hs:∀x,foldedSetIterable iter X.env x=pure x:=by intro _;rfl):PE X (.DictComp k v [⟨tg,iter,[],0⟩] scope pos) (CQ src wi g tk tv):=.mk <| by
 intro pins s σ H Q I h;obtain⟨hkk,hok,hlen,hnd,hfr,hsrc⟩:=kl hb;rw[arm_eval_DictComp];dsimp only;refine wpAny_comprehension_free (g:=⟨tg,iter,[],0⟩) (gs:=[]) rfl hs (mP fun y hy e=>I.ok.has y.1 (.inl (hfr y hy e))) hkk (fun y hy e=>by have:=hnd y hy;rw[e] at this;exact this) ?_
 refine thn (hi pins s σ H _ I h) fun v0 s1 h1=>thn h1 fun itv s2 h2=>?_;obtain⟨it,fp,tn,J,H2,e,I2,T,st2,f2,q⟩:=h2;subst e;have hfresh:H2 s2.heap.objs.size=none:=I2.hok.fresh (zaj _);refine zbv (lG ?_);dsimp only;have old:∀b o,s2.heap.get? b=some o->(s2.heap.push { cls:=.type "dict",data:=.dict #[] }).get? b=some o:=fun b o e=>zac _ e
 have I3:Inv X pins σ (upd H2 s2.heap.objs.size (stO s2.heap.objs.size [])) { s2 with heap:=s2.heap.push { cls:=.type "dict",data:=.dict #[] } }:=
  I2.laid (t':=s2.toks) old (zaj _) (mG s2.heap I2.big)
 have f3:∀b∈fp,fM X pins (upd H2 s2.heap.objs.size (stO s2.heap.objs.size [])) b:=fun b hb=>by
  obtain⟨o,ho,_⟩:=T.obj _ _ st2 b hb;exact⟨by rw[ah (zaF (zaq ho))];exact(f2 b hb).1,(f2 b hb).2⟩
 have fo3:∀b∈fp,∃o,({ s2 with heap:=s2.heap.push { cls:=.type "dict",data:=.dict #[] } }:Shared).heap.get? b=some o:=fun b hb=>by
  obtain⟨o,ho,_⟩:=T.obj _ _ st2 b hb;exact⟨o,old b o ho⟩
 generalize hs3:({ s2 with heap:=s2.heap.push { cls:=.type "dict",data:=.dict #[] } }:Shared)=s3 at I3 fo3 ⊢
 have st3:tn 0 s3.heap:=by
  rw[←hs3]
  exact T.keep _ _ _ st2 fun b _ o e=>old b o e
 have IB:=pO (t:=s3.toks) I3 hb f3 fo3;have stB:tn 0 (pushCells (s3.heap.push { cls:=.type "dict",data:=.dict #[] }) scope.names):=T.keep _ _ _ st3 fun b _ o e=>zdv _ _ b o (zac _ e)
 have fB:∀b∈fp,fM (X.blk scope N (cellsFrom (s3.heap.objs.size+1) scope.names (fw X.env scope.names [])) s3.heap.objs.size s3 (upd H2 s2.heap.objs.size (stO s2.heap.objs.size [])) fp (X.pn++pins)) [] (upd H2 s2.heap.objs.size (stO s2.heap.objs.size [])) b:=fun b hb=>by
  obtain⟨n0,n1,n2,n3,n4,n5⟩:=f3 b hb;refine⟨n0,(IB.ok.exf b hb).1,IB.ok.exfs b hb,.inl hb,(IB.ok.exf b hb).2,fun p hp=>?_⟩;rw[zaM] at hp;exact n5 p hp
 have loop:codeAny (model X.prog X.w) X.A (.compLoop (.DictComp k v [⟨tg,iter,[],0⟩] scope pos) 0 (.ref it) (.ref s2.heap.objs.size) (compEnvC scope (cellsFrom (s3.heap.objs.size+1) scope.names (fw X.env scope.names [])) s3.heap.objs.size X.env))
   (compPost (model X.prog X.w) X.A X.xe none (EP X pins σ Q) (.ref s2.heap.objs.size) s3.heap.objs.size) { s3 with heap:=pushCells (s3.heap.push { cls:=.type "dict",data:=.dict #[] }) scope.names }:=by
  refine vW (X:=X.blk scope N (cellsFrom (s3.heap.objs.size+1) scope.names (fw X.env scope.names [])) s3.heap.objs.size s3 (upd H2 s2.heap.objs.size (stO s2.heap.objs.size [])) fp (X.pn++pins)) rfl hc hu (hg _ _ _ _ _ _) (hk _ _ _ _ _ _) (hv _ _ _ _ _ _) IB T stB fB (q _ hfresh) fun σ' H' s' I' k'=>?_;obtain⟨m,hn,_⟩:=I'.loc;refine⟨m,hn,fun h' hs'=>⟨.ref _,H',nB (xn I3 f3 I') I'.free ?_ I3.sz ?_ ?_ hs',rfl,k'⟩⟩
  ·exact zdf I3.lt
  ·intro x c e
   obtain⟨v,o,ho,_⟩:=I3.cell x c e;exact zaF (zaq ho)
  ·intro p hp
   exact zaF (zaq (I3.pin p hp).1)
 subst hs3;exact uO loop (T.self X.A 0 _ _ _ stB loop)
end
noncomputable def kt(g:AG)(tk tv:AE)(p:Addr)(K:Om->Prop):List AV->SA->Om->Prop
 | [],_,Z=>K Z
 |a::as,ρ,Z=>g a ρ Z fun ρ1 Z1=>tk ρ1 Z1 fun y Z2=>tv ρ1 Z2 fun v Z3=>∃kvs d τ,Z3 p=some (.sto kvs)/\y=.d d/\Ky τ d/\KyD τ kvs/\kvs.length<sizeLine/\kt g tk tv p K as ρ1 (Z3.put p (.sto (kJ kvs d v)))
noncomputable def Av(src:List (Option Nat))(wi:AI)(g:AG)(tk tv:AE):AE:=fun ρ Z Q=>wi ρ Z fun as Z1=>∀p,Z1 p=none->kt g tk tv p (fun Z'=>Q (.r (.ref p)) Z') as (kb src ρ) (Z1.put p (.sto []))
theorem o8(src:List (Option Nat))(wi:AI)(g:AG)(tk tv:AE)(ρ:SA)(Z:Om)(Q:AV->Om->Prop):Av src wi g tk tv ρ Z Q=(wi ρ Z fun as Z1=>∀p,Z1 p=none->kt g tk tv p (fun Z'=>Q (.r (.ref p)) Z') as (kb src ρ) (Z1.put p (.sto []))):=rfl
theorem C0{src:List (Option Nat)}{wi:TI}{wi':AI}{g:TG}{g':AG}{tk tv:TE}{tk' tv':AE}(hi:oo wi wi')(hg:jK g g')(hk:aD tk tk')(hv:aD tv tv'):aD (CQ src wi g tk tv) (Av src wi' g' tk' tv'):=⟨fun F H Z σ ρ Q Q' rp rs w k=>by
 refine hi.go rp rs w fun as Z1 J H1 rp1 fr1 rs1 it q=>fun acc hacc=>?_;obtain⟨rp2,fr2⟩:=rp1.mkS (xs:=[]) (es:=[]) hacc rfl;have q:=q acc (rp1.free hacc).1;refine⟨fun i m σ2 H2=>m+i=as.length/\∃ρ2 Z2,Rep F H2 Z2/\RS (cut F H2 Z2) ρ2 σ2/\Fr F H1 Z1 H2 Z2/\kt g' tk' tv' acc (fun Z'=>Q' (.r (.ref acc)) Z') (as.drop i) ρ2 Z2,⟨as.length,rfl,kb src ρ,_,rp2,rs1.blk.same fr2.same,fr2,q⟩,?_⟩;rintro i m σ2 H2 ⟨hm,ρ2,Z2,rp3,rs3,fr3,q3⟩
 obtain⟨stop,go⟩:=it F H2 Z2 rp3 fr3.same;by_cases hl:i<as.length
 ·obtain⟨a,ha,hd⟩:=dE hl
  rw[hd] at q3;obtain⟨g1,y1⟩:=go i a ha;refine .inr ⟨g1,fun x H' hy=>?_⟩;obtain⟨rp4,fr4,rv4⟩:=y1 x H' hy;refine hg.run F H' Z2 σ2 ρ2 x a _ _ rp4 (rs3.same fr4.same) rv4 q3 fun ρ5 Z5 σ5 H5 rp5 fr5 rs5 q5=>?_;unfold iE;simp only[zaX];refine hk.go rp5 rs5 q5 fun y Z6 u H6 rp6 fr6 rs6 rv6 q6=>hv.go rp6 rs6 q6 fun v Z7 vv H7 rp7 fr7 rs7 rv7 ⟨kvs,d,τ,e1,e2,ky,kd,sz,q7⟩=>?_;subst e2;obtain⟨es,z1,z2⟩:=rp7.sto acc kvs e1
  have rv6':Dat (cut F H7 Z7) d u:=Dat.same fr7.same rv6;obtain⟨rp8,fr8⟩:=rp7.KP e1 (z2.put (d:=d) rv6' rv7);refine⟨_,⟨es,d,τ,z1,ky,Dat.same ar rv6',z2.ky ar kd,by rw[z2.length];exact sz,rfl⟩,m-1,by omega,by omega,ρ5,_,rp8,rs7.same fr8.same,(((((fr3.trans fr4).trans fr5).trans fr6).trans fr7).trans fr8),q7⟩
 ·have hi:i=as.length:=by omega
  subst hi;rw[zcS] at q3
  exact .inl ⟨stop,k (.r (.ref acc)) Z2 (.ref acc) H2 rp3 (fr1.trans fr3) rfl q3⟩⟩
theorem CJ{g:AG}{tk tv:AE}{p:Addr}{K:Om->Prop}{as:List AV}{ρ:SA}{Z:Om}(I:Nat->SA->Om->Prop)(h0:I 0 ρ Z)(hs:∀(i:Nat)(a:AV)(ρ:SA)(Z:Om)(N:SA->Om->Prop),as[i]?=some a->I i ρ Z->(∀ρ' Z',I (i+1) ρ' Z'->N ρ' Z')->g a ρ Z fun ρ1 Z1=>tk ρ1 Z1 fun y Z2=>tv ρ1 Z2 fun v Z3=>∃kvs d τ,Z3 p=some (.sto kvs)/\y=.d d/\Ky τ d/\KyD τ kvs/\kvs.length<sizeLine/\N ρ1 (Z3.put p (.sto (kJ kvs d v))))(hd:∀ρ Z,I as.length ρ Z->K Z):kt g tk tv p K as ρ Z:=by
 have key:∀(n i:Nat)(ρ:SA)(Z:Om),i+n=as.length->I i ρ Z->kt g tk tv p K (as.drop i) ρ Z:=by
  intro n
  induction n with
  |zero=>intro i ρ Z hi h;rw[zcw (by omega)];exact hd ρ Z (by rw[←hi];exact h)
  |succ n ih=>
   intro i ρ Z hi h;obtain⟨a,ha,hdr⟩:=dE (as:=as) (i:=i) (by omega)
   rw[hdr];exact hs i a ρ Z _ ha h fun ρ' Z' h'=>ih (i+1) ρ' Z' (by omega) h'
 simpa using key as.length 0 ρ Z (by omega) h0
section
variable{X:Cx}{pos:Pos}
theorem zQ:PE X (.Dict [] [] pos) A3:=.mk <| fun pins s σ H Q I h=>
 wpAny_Dict_empty ⟨.ref s.heap.objs.size,_,I.laid (a:=s.heap.objs.size) (t':=s.toks) (fun _ _ q=>zac _ q) (zaj _) (mG s.heap I.big),rfl,h _ (I.hok.fresh (zaj _))⟩
end
section
variable{X:Cx}{i o:Expr}{pos:Pos}{ty td:TE}
theorem xB(hu:X.A.units+100<cLine)(hi:PE X i ty)(ho:PE X o td)(hm:behindInMarks .NotIn o=false):PT X (.Compare i [.NotIn] [o] pos) (xq (Ae ty td)):=Hn (Er hu hi ho) hm
end
section
variable{prog:Program}{w:World}{A:Around}{E:Value->Shared->Prop}{s:Shared}{d:Addr}
theorem Dd(hd:(d == sysModules)=false):MeetsIn prog w (Builtin.«dict.__len__» ⟨[.ref d],[]⟩) (fun _ R s=>∃es ep,iI s.heap d es ep/\R (.ok (.ret (.int es.size s.toks))) { s with toks:=s.toks+1 }):=
 .of_wp fun A R s ⟨es,ep,⟨o,ho,hc,hdat⟩,h⟩=>by
  show wpAny _ _ (dictSize d >>= _) _ _ s;unfold dictSize;refine zaa (zaa (zbY ho hdat (zab ?_)));show wpAny _ _ (Builtin.Dict.pendingCount d >>= _) _ _ s;refine zaa (wpAny_pendingCount_other hd ?_);refine wpAny_ret_mkInt ?_;rw[zcz];exact h
theorem Cy{es:Array DictEntry}{ep:Nat}{Q:Value->Shared->Prop}(hd:(d == sysModules)=false)(m:iI s.heap d es ep)(hfit:(es.size:Int)<2^63)(h:Q (.int es.size (s.toks+1)) { s with toks:=s.toks+1+1 }):wpAny (model prog w) A (Builtin.«len» ⟨[.ref d],[]⟩) (fun fin s'=>∃r,fin=.done (.ret r)/\Q r s') E s:=by
 unfold Builtin.«len»;refine zaa (m:=oneArg "len" _) (zab ?_)
 refine zaa (m:=callSpecial? (.ref d) (Str.ofString "__len__")) (zbx (name:=Str.ofString "__len__") m.typeIs PySem.F.slot_dict_len
  (call_meetsIn PySem.F.slot_dict_len m.typeIs PySem.F.entry_dict_len (PySem.F.args_dict_len_1 _) (Dd hd) ⟨es,ep,m,?_⟩))
 show wpAny _ _ _ _ _ { s with toks:=s.toks+1 };refine zaa (zbs (zab ?_));refine zaa (wpAny_letGo ?_);show wpAny _ _ (if ((es.size:Nat):Int)<0 then _ else _) _ _ _
 rw[zad (by omega)]
 show wpAny _ _ (if ((es.size:Nat):Int) ≥ 2^63 then _ else _) _ _ _
 rw[zad (by omega)]
 exact zaa (wpAny_mkInt (zab ⟨_,rfl,h⟩))
end
noncomputable def BJ:List V->Hp->VK->Prop:=fun xs H Q=>∃p es,xs=[.ref p]/\StH H p es/\Q (.int es.length) H
theorem vX{X:Cx}:cW X (.builtin "len") BJ:=by
 intro pins s σ H xs us Q I r h;obtain⟨p,es,rfl,e,q⟩:=h;obtain⟨u,rfl,rx⟩:=gE r;cases rx;obtain⟨qs,ep,m,lo,hz,t⟩:=qt I e;have hlen:es.length=qs.size:=by rw[←zaY];exact zbb t
 have z:sizeLine<2^62:=by decide
 refine Calls.call_function_entry kind_len plain_len entry_len (args_len1 _) (Cy lo m (by omega) ⟨.int es.length,H,I.tok _,⟨_,by rw[hlen]⟩,q⟩)
noncomputable def AU:AC:=fun xs Z Q=>∃x kvs,xs=[x]/\StA Z x kvs/\Q (.d (.int (kvs.length:Nat))) Z
theorem p5(xs:List AV)(Z:Om)(Q:AV->Om->Prop):AU xs Z Q=∃x kvs,xs=[x]/\StA Z x kvs/\Q (.d (.int (kvs.length:Nat))) Z:=rfl
theorem Ds:jo BJ AU:=⟨fun F H Z vs xs Q Q' rp rv ⟨x,kvs,e1,e2,q⟩ k=>by
 subst e1;obtain⟨v,rfl,r⟩:=i8 rv;obtain⟨l,es,rfl,z1,z2⟩:=e2.of rp r
 exact⟨l,es,rfl,z1,by rw[z2.length];exact k.int rp q⟩⟩
end L2
namespace L2
open PySem PySem.Spec PyProof.Rows
section
variable{X:Cx}{tg l:Expr}{td:TE}{t:TS}{st:Stmt}
noncomputable def FH(i:Nat)(t:TS):TS:=fun D σ H=>∃a es,σ[i]?=some (some (.ref a))/\H a=some (stO a es)/\∀ep,t D σ (upd H a (stF a es ep))
theorem Eh(i:Nat)(h:PS X st t):PS X st (FH i t):=.mk <| by
 intro pins s σ H D I q;obtain⟨a,es,e1,e2,q⟩:=q;obtain⟨⟨o,es',ep,g1,g2,g3,r⟩,_⟩:=I.hok a _ e2;have I2:Inv X pins σ (upd H a (stF a es ep)) s:=dj (t':=s.toks) (h':=s.heap) I (by rw[e2];exact True.intro) ⟨rfl,fun _ _=>rfl⟩ ⟨o,g1⟩ ⟨⟨o,es',g1,g2,g3,r⟩,⟨o,g1⟩,fun ha hb ⟨o,es',g1,r⟩ k=>⟨o,es',k o g1,r⟩⟩
 exact h.run pins s σ _ D I2 (q ep)
noncomputable def JH(a:Addr)(es:List (D×V×V))(ep:Nat):It:=⟨fun i H=>H a=some (stF a es ep)/\i<es.length,fun i H v H'=>H'=H/\∃x,es[i]?=some x/\v=x.2.1,fun i H=>H a=some (stF a es ep)/\es.length<=i⟩
theorem Ew{P:Program}{w:World}{K:W.Frag}(a it:Addr)(es:List (D×V×V))(ep:Nat):um P w K tg (JH a es ep) [it] it (fun i h=>h.IsKeyIter it a i es.length ep) where
 mem:=by simp
 obj:=fun i h st b hb=>by
  have e:b=it:=by simpa using hb
  subst e;obtain⟨o,e,c,d⟩:=st;exact⟨o,e,fun v z=>by rw[d] at z;cases z⟩
 keep:=fun i h h' st k=>st.at fun o e=>k it (by simp) o e
 item:=by
  intro X hP hw hK hc i pins s σ H E I hf st hg;subst hP hw hK;obtain⟨e1,hi⟩:=hg;obtain⟨⟨o,es',g1,g2,g3,g4,g5,g6,g7⟩,_⟩:=I.hok a _ e1;have hn:es.length=es'.size:=by rw[←zaY];exact zbb g7
  obtain⟨f0,f1,f2,f3,f4,f5⟩:=hf it (by simp)
  refine jG (by rw[←hn];exact st) ⟨o,g1,g2,g3⟩ (fun x hx h' st' sb=>?_) fun hx=>by simp[zbN (show i<es'.size by omega)] at hx
  have I1:Inv X pins σ H { s with heap:=h' }:=I.turned (t':=s.toks) (fun b o hb e=>(sb.2 b hb).trans e) f0 f1 f3 f4 f5;obtain⟨o2,e,c,d⟩:=id st';obtain⟨y,y1,y2⟩:=gi g7 (by rw[zcl];exact hx)
  exact⟨x.key,rfl,wZ (s:={ s with heap:=h' }) e c d (by decide) ⟨y.2.1,H,I1,y2.2.1,⟨rfl,y,y1,rfl⟩,by rw[hn];exact st',fun b hb=>(hf b hb).1⟩⟩
 done:=by
  intro X hP hw hK hc i pins s σ H E I hf st hg;subst hP hw hK;obtain⟨e1,hi⟩:=hg;obtain⟨⟨o,es',g1,g2,g3,g4,g5,g6,g7⟩,_⟩:=I.hok a _ e1;have hn:es.length=es'.size:=by rw[←zaY];exact zbb g7
  obtain⟨f0,f1,f2,f3,f4,f5⟩:=hf it (by simp)
  exact jG (by rw[←hn];exact st) ⟨o,g1,g2,g3⟩ (fun x hx=>by simp[zbB (show es'.size<=i by omega)] at hx) fun _=>⟨I.ok.hd hc,fun h' eb=>⟨rfl,I.turned (t':=s.toks) (fun b o hb e=>eb b o hb e) f0 f1 f3 f4 f5⟩⟩
 self:=fun _ _ _ _ _ st h=>wpAny_pyIter_keyiter st h
noncomputable def iSt(td:TE):TI:=fun σ H R=>td σ H fun x H1=>∃a es ep,x=.ref a/\H1 a=some (stF a es ep)/\R (JH a es ep) H1
theorem HX(hl:PE X l td):PI X tg l (iSt td):=by
 intro pins s σ H R I h;refine thn (hl pins s σ H _ I h) fun v s1 ⟨x,H1,I1,r1,a,es,ep,e,q1,q⟩=>?_;subst e;cases r1;obtain⟨⟨o,es',g1,g2,g3,g4,g5,g6,g7⟩,_⟩:=I1.hok a _ q1;have hn:es.length=es'.size:=by rw[←zaY];exact zbb g7
 refine sU g4 ⟨o,g1,g2,g3⟩ ?_;refine⟨s1.heap.objs.size,[s1.heap.objs.size],_,_,H1,rfl,I1.kept (t':=s1.toks) fun b o e=>zac _ e,Ew a _ es ep,⟨_,zan _ rfl,rfl,by rw[hn];rfl⟩,fun b hb=>?_,q⟩
 have e:b=s1.heap.objs.size:=by simpa using hb
 subst e;exact I1.KY (zaj _) (I1.hok.fresh (zaj _))
end
noncomputable def z9(i:Nat)(t:AS):AS:=fun D ρ Z=>∃l kvs,ρ[i]?=some (some (.r (.ref l)))/\Z l=some (.sto kvs)/\t D (ρ.set i (some (shS l kvs))) (Z.del l)
theorem pk(i:Nat)(t:AS)(D:bj)(ρ:SA)(Z:Om):z9 i t D ρ Z=∃l kvs,ρ[i]?=some (some (.r (.ref l)))/\Z l=some (.sto kvs)/\t D (ρ.set i (some (shS l kvs))) (Z.del l):=rfl
theorem DK{i:Nat}{t:TS}{t':AS}(h:eB t t'):eB (FH i t) (z9 i t'):=⟨fun F H Z σ ρ D D' rp rs ⟨l,kvs,e1,e2,w⟩ k=>by
 obtain⟨es,z1,z2⟩:=rp.sto l kvs e2;obtain⟨v,q1,q2⟩:=rs.2 i _ e1;cases (show v=.ref l from q2)
 refine⟨l,es,q1,z1,fun ep=>?_⟩;obtain⟨rp2,fr2,hc⟩:=rp.give (l:=l) (o:=stF l es ep) (by rw[e2];rfl)
 refine h.run F _ (Z.del l) σ _ D D' rp2 ?_ w (k.fr fr2);have rs2:=rs.same fr2.same;refine⟨by rw[List.length_set];exact rs2.1,fun j a ha=>?_⟩
 by_cases hj:i=j
 ·subst hj
  rw[List.getElem?_set_self (zav.mp e1).1] at ha;cases ha;exact⟨_,q1,rfl,fun G' s=>⟨es,ep,s _ _ hc,(z2.same fr2.same).same s⟩⟩
 ·rw[zcJ hj] at ha
  exact rs2.2 j a ha⟩
noncomputable def IZ(td:AE):AI:=fun ρ Z R=>td ρ Z fun x Z1=>∃l kvs,x=shS l kvs/\R (kvs.map fun p=>.d p.1) Z1
theorem yq(td:AE)(ρ:SA)(Z:Om)(R:List AV->Om->Prop):IZ td ρ Z R=td ρ Z fun x Z1=>∃l kvs,x=shS l kvs/\R (kvs.map fun p=>.d p.1) Z1:=rfl
theorem RDs.Lb{G:Hp}:∀ {kvs:List (D×AV)} {es:List (D×V×V)} {i:Nat} {p:D×AV},RDs G kvs es->kvs[i]?=some p->∃x,es[i]?=some x/\Dat G p.1 x.2.1
 | [],_,_,_,_,h=>by simp at h
 |q::kvs,_,0,p,⟨k,v,r,e,h1,_,_⟩,h=>by subst e;cases h;exact⟨_,rfl,h1⟩
 |q::kvs,_,i+1,p,⟨k,v,r,e,_,_,h3⟩,h=>by subst e;exact h3.Lb (by simpa using h)
theorem J6{td:TE}{td':AE}(h:aD td td'):oo (iSt td) (IZ td'):=⟨fun F H Z σ ρ R R' rp rs w k=>h.go rp rs w fun x Z1 v H1 rp1 fr1 rs1 rv ⟨l,kvs,e,q⟩=>by
 subst e;obtain⟨es,ep,z1,z2⟩:=rv.2 _ (fun _ _ e=>e);refine⟨l,es,ep,rv.1,ar _ _ z1,k _ Z1 _ H1 rp1 fr1 (fun F H Z rp s=>?_) q⟩;have y1:=s _ _ z1;refine⟨⟨ar _ _ y1,by rw[z2.length,zaA];exact zaj _⟩,fun i a ha=>?_⟩
 rw[zam] at ha;obtain⟨p,hp,rfl⟩:=zas.mp ha;obtain⟨x,hx,dx⟩:=z2.Lb hp;refine⟨⟨ar _ _ y1,(zav.mp hx).1⟩,fun v H' ⟨e1,x',e2,e3⟩=>?_⟩;subst e1 e3;rw[hx] at e2;cases e2
 exact⟨rp,.refl,Dat.same s dx⟩⟩
end L2
set_option maxRecDepth 100000
set_option maxHeartbeats 1000000
namespace L2
open PySem PySem.Spec PySem.Calls PyProof PyProof.Rows PySem.SeqAt
noncomputable def hdD:D->D
 |.tup (k::_)=>k
 |_=>.non
structure jv(W:List D):Prop where
 row:∀d∈W,∃ds r,d=.tup (.tup ds::r)/\nus ds=true
 cm:∀d∈W,∀e∈W,cmD (hdD d) (hdD e)=true
 df:(W.map hdD).Nodup
noncomputable def AF(R:List D):Prop:=R.Pairwise fun a b=>bU (enc (hdD b)) (enc (hdD a))=false
noncomputable def cH(W:List D):Nat->Nat->Bool:=fun i j=>bU (enc (hdD (W.getD i .non))) (enc (hdD (W.getD j .non)))
theorem Hk(W:List D):cQ (cH W):=⟨fun i j h=>qy _ _ h,fun i j k h1 h2=>vL _ _ _ h1 h2⟩
theorem B6(x:List Int):bU x x=false:=by
 cases h:bU x x with
 |false=>rfl
 |true=>rw[qy _ _ h] at h;cases h
theorem tF:∀xs:List D,fA xs xs=true
 | []=>rfl
 |x::xs=>by simp only[fA,dg,zaX];exact tF xs
theorem tU:∀xs:List D,gq xs xs=false
 | []=>rfl
 |x::xs=>by simp only[gq,dg,zaX];exact tU xs
theorem Fu{W:List D}(h:(W.map hdD).Nodup){i j:Nat}(hi:i<W.length)(hj:j<W.length)(e:hdD W[i]=hdD W[j]):i=j:=by
 have p:=zbO.mp h;rcases Nat.lt_trichotomy i j with g|g|g
 ·exact absurd (by rw[zcu,zcu];exact e) (p i j (by simpa using hi) (by simpa using hj) g)
 ·exact g
 ·exact absurd (by rw[zcu,zcu];exact e.symm) (p j i (by simpa using hj) (by simpa using hi) g)
theorem jv.dif{W:List D}(h:jv W){d e:D}(hd:d∈W)(he:e∈W)(hne:hdD d≠hdD e):cmD d e=true/\ltD d e=bU (enc (hdD d)) (enc (hdD e)):=by
 have hc:=h.cm d hd e he;obtain⟨ds,r,rfl,n1⟩:=h.row d hd;obtain⟨es,q,rfl,n2⟩:=h.row e he;simp only[hdD] at hne hc ⊢;have n1':nu (.tup ds)=true:=by simp only[nu];exact n1
 have n2':nu (.tup es)=true:=by simp only[nu];exact n2
 have hq:eqD (.tup ds) (.tup es)=false:=by
  cases e:eqD (.tup ds) (.tup es) with
  |false=>rfl
  |true=>exact absurd (oZ _ _ n1' n2' e) hne
 constructor
 ·simp only[cmD,fA,hq]
  simpa[cmD] using hc
 ·rw[←zU n1' n2' hc]
  simp only[ltD,gq,hq];rfl
theorem jv.Lj{W:List D}(h:jv W):∀d∈W,∀e∈W,cmD d e=true:=fun d hd e he=>by
 by_cases hne:hdD d=hdD e
 ·have:d=e:=by
   obtain⟨i,hi,rfl⟩:=zcf hd;obtain⟨j,hj,rfl⟩:=zcf he;have:=Fu h.df hi hj hne;subst this;rfl
  subst this;obtain⟨ds,r,rfl,_⟩:=h.row d hd;simp only[cmD];exact tF _
 ·exact(h.dif hd he hne).1
theorem jv.at'{W:List D}(h:jv W):∀i j,i<W.length->j<W.length->cH W i j=ltD (W.getD i .non) (W.getD j .non):=fun i j hi hj=>by
 have g:∀i,(hi:i<W.length)->W.getD i .non=W[i]:=fun i hi=>by rw[zag,zae hi];rfl
 unfold cH;by_cases hij:i=j
 ·subst hij
  rw[B6,g i hi];obtain⟨ds,r,e,_⟩:=h.row _ (zaE hi);rw[e];simp only[ltD];exact(tU _).symm
 ·rw[g i hi,g j hj]
  refine(h.dif (zaE hi) (zaE hj) fun e=>hij (Fu h.df hi hj e)).2.symm
theorem yH{W:List D}{p:Array Nat}(h:Ord W.length p)(hs:Sg (cH W) p 0 W.length):AF (lH W p):=by
 have hz:=bh h;refine zbO.mpr fun i j hi hj hij=>?_;have hl:(lH W p).length=W.length:=(iG h).length_eq
 have at_:∀k (hk:k<(lH W p).length),(lH W p)[k]=W.getD (p.getD k 0) .non:=fun k hk=>by
  simp[lH,zaU,show k<p.size by omega]
 rw[at_ i hi,at_ j hj];exact hs i j (zbL _) (by omega) (by omega)
noncomputable def Cp(K:PySem.W.Frag):List V->Hp->VK->Prop:=fun xs H Q=>∃(q:Addr)(ys:List V)(W:List D),xs=[.ref q]/\(SqL K H q ys\/SqT K H q ys)/\ao H W ys/\jv W/\bW W<=90 /\
 ∀p l,Ord W.length p->Sg (cH W) p 0 W.length->H l=none->Q (.ref l) (upd H l (.lst (kO ys p)))
theorem rL{X:Cx}(K:PySem.W.Frag)(hK:X.K=K)(hu:X.A.units+100<cLine):cW X (.builtin "sorted") (Cp K):=by
 subst hK;intro pins s σ H xs us Q I r h;obtain⟨a,ys,W,rfl,hq,hd,R,hdp,q⟩:=h;obtain⟨u,rfl,rx⟩:=gE r;cases rx
 obtain⟨its,ob,m,r',g,gc,gd,hz⟩:∃its ob m,ay ys its/\s.heap.get? a=some ob/\(ob.cls=.type "list"\/ob.cls=.type "tuple")/\ob.data=.seq its.toArray m/\ys.length<=sizeLine:=by
  rcases hq with hq|hq
  ·obtain⟨its,r',pl,hz⟩:=I.list hq
   obtain⟨ob,g,gc,m,gd⟩:=pl.isList;exact⟨its,ob,m,r',g,.inl gc,gd,hz⟩
  ·obtain⟨its,r',pl,hz⟩:=I.tuple hq
   obtain⟨ob,g,gc,m,gd⟩:=pl;exact⟨its,ob,m,r',g,.inr gc,gd,hz⟩
 have e1:its.length=W.length:=by rw[←r'.length,hd.length]
 have e2:ys.length=its.length:=r'.length;have hk:∀d∈W,Eo d:=fun d hd=>by obtain⟨ds,r,e,_⟩:=R.row d hd;exact⟨ds,r,e⟩
 refine mE (c:=cH W) (b:=false) g gc gd (fun _ A' hA=>zP I (n:=90) (by omega) hk hdp hd r' R.Lj R.at') (Hk W) (by omega) fun p h1 h2=>?_
 obtain⟨e,he⟩:=sortedAll_at s.heap its (nD its p)
 have hv:ay (kO ys p) (p.toList.map fun i=>its.getD i Value.none):=by
  unfold kO;refine on fun i hi=>?_;have hi':=h1.mem hi;obtain⟨u,hu,ru⟩:=r'.get (zae (by omega:i<ys.length))
  rw[zag,zag,hu,zae (by omega:i<ys.length)]
  exact ru
 have hl2:(kO ys p).length<=sizeLine:=by
  have a:=bh h1;simp[kO];omega
 rw[e1] at h1 h2;exact⟨.ref (s.heap.objs.size+1),_,I.laid (t':=s.toks) (fun b o e=>sortedAll_old e) (Nat.le_succ _) (show bb X.prog X.w _ _ _ (.lst (kO ys p)) from ⟨hl2,_,e,hv,he⟩),rfl,q p _ h1 h2 (I.hok.fresh (Nat.le_succ _))⟩
noncomputable def xZ:AC:=fun xs Z Q=>∃(x:AV)(W:List D),xs=[x]/\(x=.d (.tup W)\/bo Z x=some (.lst W))/\jv W/\bW W<=90/\∀R l,R.Perm W->AF R->Z l=none->Q (.r (.ref l)) (Z.put l (.own (R.map AV.d)))
theorem ww(xs:List AV)(Z:Om)(Q:AV->Om->Prop):xZ xs Z Q=∃(x:AV)(W:List D),xs=[x]/\(x=.d (.tup W)\/bo Z x=some (.lst W))/\jv W/\bW W<=90/\∀R l,R.Perm W->AF R->Z l=none->Q (.r (.ref l)) (Z.put l (.own (R.map AV.d))):=rfl
theorem BN{K:PySem.W.Frag}:jo (Cp K) xZ:=⟨fun F H Z vs xs Q Q' rp rv ⟨x,W,e1,e2,e3,e4,q⟩ k=>by
 subst e1;obtain⟨v,rfl,r⟩:=i8 rv;obtain⟨a,us,rfl,z1,z2⟩:=BV (K:=K) rp r e2
 exact⟨a,us,W,rfl,z1,z2.same ar,e3,e4,fun p l h1 h2 hl=>k.own rp (RVs.dats.mpr (rY z2 h1)) (fun l hl=>q _ l (iG h1) (yH h1 h2) hl) l hl⟩⟩
end L2
set_option maxRecDepth 1000000
set_option maxHeartbeats 4000000
namespace L2
open PySem PySem.Spec PyProof PyProof.Rows
noncomputable def sW(tk tv:TE):TE:=fun σ H Q=>∀p,H p=none->tk σ (upd H p (stO p [])) fun x H1=>tv σ H1 fun y H2=>∃H3,zN H2 p x y H3/\Q (.ref p) H3
theorem uZ{X:Cx}{pos:Pos}{k v:Expr}{tk tv:TE}(hu:X.A.units+100<cLine)(hk:PE X k tk)(hv:PE X v tv):PE X (.Dict [some k] [v] pos) (sW tk tv):=.mk <| by
 intro pins s σ H Q I q;have hn:=I.hok.fresh (zaj s.heap.objs.size);have I1:=I.laid (a:=s.heap.objs.size) (o:=stO s.heap.objs.size []) (h':=s.heap.push { cls:=.type "dict",data:=.dict #[] }) (t':=s.toks) (fun _ _ q=>zac _ q) (zaj _) (mG s.heap I.big);have hl:(pairTrees [some k] [v] X.env pos).length=1:=(pairTrees_length [some k] [v] X.env pos rfl rfl);rw[arm_eval_Dict,zip_pairTrees [some k] [v] X.env pos rfl rfl,dictDisplay_pairs _ (fun e=>by rw[e] at hl;cases hl) (by rw[hl];decide)]
 refine zaa (zcC (zaa ?_));unfold subDict;refine zaa (wpAny_alloc (zaa (zbs ?_)));rw[zaf (by rw[hl];decide)]
 refine zaa (pairTrees_cons_walk (thn (hk pins _ σ _ _ I1 (q _ hn)) fun u s1 ⟨x,H1,I2,rx,q1⟩=>thn (hv pins s1 σ H1 _ I2 q1) fun u2 s2 ⟨y,H2,I3,ry,H3,sp,q2⟩=>pairTrees_nil_walk ?_));refine zbs ?_;simp only[List.forIn_cons,List.forIn_nil];refine zaa (zaa (zaa (mJ hu I3 sp rx ry fun s' I'=>?_)));exact zab (zab (zab (zab (zab ⟨.ref s.heap.objs.size,_,I',rfl,q2⟩))))
noncomputable def sT(tk te:AE):AE:=fun ρ Z Q=>∀p,Z p=none->tk ρ (Z.put p (.sto [])) fun kx Z0=>∃d,kx=.d d/\te ρ Z0 fun x Z1=>∃τ,Ky τ d/\Z1 p=some (.sto [])/\Q (.r (.ref p)) (Z1.put p (.sto [(d,x)]))
theorem kS(tk te:AE)(ρ:SA)(Z:Om)(Q:AV->Om->Prop):sT tk te ρ Z Q=∀p,Z p=none->tk ρ (Z.put p (.sto [])) fun kx Z0=>∃d,kx=.d d/\te ρ Z0 fun x Z1=>∃τ,Ky τ d/\Z1 p=some (.sto [])/\Q (.r (.ref p)) (Z1.put p (.sto [(d,x)])):=rfl
theorem yR{tk te:TE}{tk' te':AE}(hk:aD tk tk')(he:aD te te'):aD (sW tk te) (sT tk' te'):=⟨fun F H Z σ ρ Q Q' rp rs h k p hp=>by
 obtain⟨rp1,fr1⟩:=rp.mkS (xs:=[]) (es:=[]) hp rfl;refine hk.go rp1 (rs.same fr1.same) (h p (rp.free hp).1) fun kx Z0 kv H0 rp0 fr0 rs0 rv0 ⟨d,ek,h0⟩=>?_;subst ek;refine he.go rp0 rs0 h0 fun x Z1 v H1 rp2 fr2 rs2 rv2 ⟨τ,ky,e1,q⟩=>?_;obtain⟨es,z1,z2⟩:=rp2.sto p [] e1;cases z2;have dk:Dat (cut F H1 Z1) d kv:=rv0.same fr2.same;obtain⟨rp3,fr3⟩:=rp2.KP (ys:=[(d,x)]) (es:=[(d,kv,v)]) e1 ⟨kv,v,[],rfl,dk,rv2,rfl⟩
 exact⟨_,⟨[],d,τ,z1,ky,Dat.same ar dk,(fun _ hp=>by cases hp),by decide,rfl⟩,k (.r (.ref p)) _ _ _ rp3 (((fr1.trans fr0).trans fr2).trans fr3) rfl q⟩⟩
noncomputable def FJ(te:TE)(g h:TG):TS:=fun D σ H=>te σ H fun x H1=>g x σ H1 fun σ1 H2=>h x σ1 H2 D.nx
theorem Ef{X:Cx}{t1 t2 e:Expr}{te:TE}{g h:TG}{pos:Pos}(he:PE X e te)(hg:PG X t1 g)(hh:PG X t2 h)(h1:(assignEach [t1,t2] X.env).map (·.2)=[assign t1 X.env,assign t2 X.env]:=by rfl)(hw:swappedStores [t1,t2] e X.env=pure none:=by rfl):PS X (.Assign [t1,t2] e pos) (FJ te g h):=.mk <| by
 intro pins s σ H D I q;refine wpAny_Assign_two (thn (he pins s σ H _ I q) fun v s1 ⟨x,H1,I1,r1,q1⟩=>thn (hg pins s1 σ H1 x v _ I1 r1 q1) fun _ s2 ⟨σ2,H2,I2,q2⟩=>?_) h1 hw;exact thn (hh pins s2 σ2 H2 x v _ I2 r1 q2) fun _ s3 q=>q
noncomputable def E4(te:AE)(g h:AG):AS:=fun D ρ Z=>te ρ Z fun x Z1=>g x ρ Z1 fun ρ2 Z2=>h x ρ2 Z2 D.nx
theorem rO(te:AE)(g h:AG)(D:bj)(ρ:SA)(Z:Om):E4 te g h D ρ Z=te ρ Z fun x Z1=>g x ρ Z1 fun ρ2 Z2=>h x ρ2 Z2 D.nx:=rfl
theorem GH{te:TE}{te':AE}{g h:TG}{g' h':AG}(he:aD te te')(hg:jK g g')(hh:jK h h'):eB (FJ te g h) (E4 te' g' h'):=⟨fun F H Z σ ρ D D' rp rs w k=>he.go rp rs w fun a Z1 v H1 rp1 fr1 rs1 rv q=>
 hg.run F H1 Z1 σ ρ v a _ _ rp1 rs1 rv q fun ρ2 Z2 σ2 H2 rp2 fr2 rs2 q2=>hh.run F H2 Z2 σ2 ρ2 v a _ _ rp2 rs2 (rv.same fr2.same) q2 (k.nx.fr (fr1.trans fr2))⟩
end L2
set_option maxRecDepth 100000
set_option maxHeartbeats 1000000
namespace L2
open PySem PySem.Spec PyProof.Rows
section
variable{te:TE}{te':AE}{tc:TT}{tc':AT}{g:TG}{g':AG}{l:TL}{l':AL}{src:List (Option Nat)}{F:Fs}{H:Hp}{Z:Om}
theorem EB(hg:jK g g')(hc:fS tc tc')(hl:tP l l'){as:List AV}{J:It}{σ:St}{ρ:SA}{acc:Addr}{vs:List V}{xs:List AV}{K:St->Hp->Prop}{K':List AV->SA->Om->Prop}(it:∀H2 Z2,Rep F H2 Z2->Fa acc F H Z H2 Z2->J.stop as.length H2/\∀(i:Nat)(a:AV),as[i]?=some a->J.go i H2/\∀x H',J.yld i H2 x H'->Rep F H' Z2/\Fr F H2 Z2 H' Z2/\RV (cut F H' Z2) a x)(rp:Rep F H Z)(rs:RS (cut F H Z) ρ σ)(fa:F acc=true)(ha:H acc=some (.lst vs))(rx:RVs (cut F H Z) xs vs)(w:bK g' tc' l' as xs ρ Z K')(k:LL acc F H Z K' K):nn J g tc l acc σ H K:=by
 refine⟨fun i m σ2 H2=>m+i=as.length/\∃ρ2 Z2 vs2 xs2,Rep F H2 Z2/\RS (cut F H2 Z2) ρ2 σ2/\Fa acc F H Z H2 Z2/\H2 acc=some (.lst vs2)/\RVs (cut F H2 Z2) xs2 vs2/\bK g' tc' l' (as.drop i) xs2 ρ2 Z2 K',
  ⟨as.length,rfl,ρ,Z,vs,xs,rp,rs,Fr.refl.fa,ha,rx,w⟩,?_⟩
 rintro i m σ2 H2 ⟨hm,ρ2,Z2,vs2,xs2,rp2,rs2,fr2,ha2,rx2,q2⟩;obtain⟨stop,go⟩:=it H2 Z2 rp2 fr2;by_cases hl':i<as.length
 ·obtain⟨a,hai,hd⟩:=dE hl'
  rw[hd] at q2;obtain⟨g1,y1⟩:=go i a hai;refine .inr ⟨g1,fun x H' hy=>?_⟩;obtain⟨rp3,fr3,rv3⟩:=y1 x H' hy;refine hg.run F H' Z2 σ2 ρ2 x a _ _ rp3 (rs2.same fr3.same) rv3 q2 fun ρ4 Z4 σ4 H4 rp4 fr4 rs4 q4=>?_;refine hc.go rp4 rs4 q4 fun b Z5 b' H5 rp5 fr5 rs5 rb q5=>?_;cases (show b=b' from rb)
  have fr25:Fr F H2 Z2 H5 Z5:=(fr3.trans fr4).trans fr5;have ha5:H5 acc=some (.lst vs2):=(fr25.hd acc fa).trans ha2;have rx5:=rx2.same fr25.same
  cases b with
  |true=>
   rw[zaf rfl] at q5 ⊢;refine hl.run F H5 Z5 σ4 ρ4 acc vs2 xs2 _ _ rp5 rs5 fa ha5 rx5 q5 fun xs6 vs6 ρ6 Z6 σ6 H6 e1 e2 e3 e4 e5 e6=>?_;exact⟨m-1,by omega,by omega,ρ6,Z6,vs6,xs6,e1,e3,(fr2.trans fr25.fa).trans e2,e4,e5,e6⟩
  |false=>
   rw[zad zat] at q5 ⊢;exact⟨m-1,by omega,by omega,ρ4,Z5,vs2,xs2,rp5,rs5,fr2.trans fr25.fa,ha5,rx5,q5⟩
 ·have hi:i=as.length:=by omega
  subst hi;rw[zcS] at q2;exact .inl ⟨stop,k xs2 vs2 ρ2 Z2 σ2 H2 rp2 fr2 rs2 ha2 rx2 q2⟩
theorem Om.K8{Z:Om}{q:Addr}{c:OC}:(Z.del q).put q c=Z.put q c:=by
 funext b
 unfold Om.put Om.del;split<;>rfl
theorem Rep.K9(R:Rep F H Z){q:Addr}{xs:List AV}(h:Z q=some (.own xs)):Rep (F.add q) H (Z.del q)/\cut (F.add q) H (Z.del q)=cut F H Z:=by
 have c:cut (F.add q) H (Z.del q)=cut F H Z:=by
  funext b
  unfold cut Fs.add Om.del;by_cases hb:b=q
  ·subst hb;rw[h];simp[ow]
  ·simp[hb]
 have dn:∀ {b:Addr} {o:OC},Z.del q b=some o->Z b=some o:=fun {b o} e=>by
  unfold Om.del at e;split at e
  ·cases e
  ·exact e
 refine⟨⟨fun k zs e=>by rw[c];exact R.own k zs (dn e),fun k ds e=>by rw[c];exact R.frz k ds (dn e),fun b f=>?_,fun k ks e=>by rw[c];exact R.dic k ks (dn e),fun k ks e=>by rw[c];exact R.sto k ks (dn e)⟩,c⟩
 by_cases hb:b=q
 ·subst hb
  obtain⟨vs,z,_⟩:=R.own b xs h;exact⟨by unfold Om.del;rw[zaf rfl],vs,z⟩
 ·have f':F b=true:=by simpa[Fs.add,hb] using f
  obtain⟨z1,z2⟩:=R.hid b f';exact⟨by unfold Om.del;rw[zad hb];exact z1,z2⟩
noncomputable def B0(src:List (Option Nat))(te:AE)(g:AG)(tc:AT)(l:AL):AE:=fun ρ Z Q=>te ρ Z fun x Z1=>∃q xs,x=.r (.ref q)/\Z1 q=some (.own xs)/\bK g tc l xs [] (kb src ρ) (Z1.del q) fun ys _ Z2=>∃ds,und ys=some ds/\Q (.d (.lst ds)) (Z2.put q (.own xs))
theorem pi(src:List (Option Nat))(te:AE)(g:AG)(tc:AT)(l:AL)(ρ:SA)(Z:Om)(Q:AV->Om->Prop):B0 src te g tc l ρ Z Q=te ρ Z fun x Z1=>∃q xs,x=.r (.ref q)/\Z1 q=some (.own xs)/\bK g tc l xs [] (kb src ρ) (Z1.del q) fun ys _ Z2=>∃ds,und ys=some ds/\Q (.d (.lst ds)) (Z2.put q (.own xs)):=rfl
theorem qu{K:W.Frag}(h:aD te te')(hg:jK g g')(hc:fS tc tc')(hl:tP l l'):aD (pc src (Hr K te) g tc l) (B0 src te' g' tc' l'):=⟨fun F H Z σ ρ Q Q' rp rs w k=>
 h.go rp rs w fun x Z1 v H1 rp1 fr1 rs1 rv ⟨q,xs,e1,e2,w1⟩=>by
  subst e1;cases (show v=.ref q from rv)
  obtain⟨vs,z1,z2⟩:=rp1.own q xs e2;obtain⟨rp2,c2⟩:=rp1.K9 e2
  have hFq:F q=false:=by
   cases e:F q with
   |false=>rfl
   |true=>have:=(rp1.hid q e).1;rw[e2] at this;cases this
  refine .inl ⟨q,rfl,⟨vs,.inl (.inl z1)⟩,fun acc hacc=>?_⟩;obtain⟨rp3,c3⟩:=rp2.hide (vs:=[]) hacc;obtain⟨f1,f2⟩:=rp1.free hacc;have hqa:q≠acc:=av z1 hacc;have fq:((F.add q).add acc) q=true:=by simp[Fs.add]
  have at':∀H2 Z2,Fa acc ((F.add q).add acc) (upd H1 acc (.lst [])) (Z1.del q) H2 Z2->H2 q=some (.lst vs):=fun H2 Z2 fr2=>by rw[fr2.hd q fq hqa,ah hqa];exact z1
  refine EB (xs:=[]) (as:=xs) hg hc hl (fun H2 Z2 r2 fr2=>?_) rp3 (by rw[c3,c2];exact rs1.blk) (by simp[Fs.add]) aN rfl w1 fun ys us ρ' Z' σ' H' e1 e2' e3 e4 e5 e6=>?_
  ·have hq:=at' H2 Z2 fr2
   refine⟨⟨vs,.inl (.inl hq),by rw[z2.length];exact zaj _⟩,fun i a ha=>?_⟩
   obtain⟨u,hu,ru⟩:=z2.get ha;refine⟨⟨vs,u,.inl (.inl hq),hu⟩,fun x H' ⟨eH,hy⟩=>?_⟩;subst eH;have:=hy vs (.inl (.inl hq));rw[hu] at this;cases this;refine⟨r2,.refl,ru.same fun b o e=>fr2.same b o ?_⟩;rw[c3,c2];exact e
  ·obtain⟨ds,hu,q6⟩:=e6
   cases dP hu;have hFa:(F.add q) acc=false:=by simp[Fs.add,f2,zbJ hqa]
   obtain⟨rp4,sm4,hp4⟩:=e1.unhide hFa e4;have hq:=at' H' Z' e2';have sm0:bH (cut F H1 Z1) (cut (F.add q) H' Z'):=fun b o e=>sm4 b o (e2'.same b o (by rw[c3,c2];exact e))
   obtain⟨rp5,sm5⟩:=rp4.K6 (xs:=xs) hFq hq (z2.same sm0);refine k (.d (.lst ds)) (Z'.put q (.own xs)) _ H' rp5 ⟨fun b o h f e=>?_,fun b f=>?_⟩ ?_ q6
   ·obtain⟨x,y⟩:=fr1.st b o h f e
    have hb:b≠q:=fun z=>by subst z;rw[e2] at y;cases y
    have hba:b≠acc:=av x hacc;obtain⟨x2,y2⟩:=e2'.st b o (by unfold Om.del;rw[zad hb];exact y) (by simp[Fs.add,hb,hba,f]) (by rw[ah hba];exact x)
    exact⟨x2,by rw[Om.Kw hb];exact y2⟩
   ·have hb:b≠q:=fun z=>by subst z;rw[hFq] at f;cases f
    have hba:b≠acc:=fun z=>by subst z;rw[f2] at f;cases f
    rw[e2'.hd b (by simp[Fs.add,f]) hba,ah hba,fr1.hd b f]
   ·simp only[RV,Dat]
    exact⟨acc,us,rfl,sm5 _ _ hp4,RVs.dats.mp ((e5.same sm4).same sm5)⟩⟩
end
end L2
set_option maxRecDepth 1000000
set_option maxHeartbeats 4000000
namespace L2
open PySem PySem.Spec PyProof PyProof.Rows
end L2
namespace L2
open PySem PySem.Spec PyProof.Rows
section
open PySem.Calls PySem.SeqAt PyProof
variable{prog:Program}{w:World}{A:Around}{E:Value->Shared->Prop}{s:Shared}
end
end L2
namespace My
open PySem PySem.Spec L2
noncomputable def top(i:Nat):Stmt:=PySem.Challenge.pw_unlikeplace_k43_catalogues_told.main.body.getD i (.Pass ⟨0,0,0,0⟩)
noncomputable abbrev fg:Stmt:=top 1
noncomputable abbrev nE:Stmt:=top 3
noncomputable abbrev m4:Stmt:=top 4
noncomputable abbrev eK:Stmt:=top 7
noncomputable abbrev fh:Stmt:=top 9
noncomputable abbrev gv:Stmt:=top 10
noncomputable abbrev dQ:Stmt:=top 12
noncomputable abbrev dZ:Stmt:=top 13
noncomputable abbrev g0:Stmt:=top 14
noncomputable abbrev fi:Stmt:=top 15
noncomputable abbrev cj:Stmt:=top 16
noncomputable abbrev rE:Stmt:=top 18
noncomputable abbrev nK:Stmt:=top 19
noncomputable abbrev kI:Stmt:=top 20
noncomputable abbrev nA:Stmt:=top 21
noncomputable abbrev mH:Stmt:=top 22
noncomputable abbrev fk:Stmt:=top 23
noncomputable abbrev kg:Stmt:=top 24
noncomputable abbrev gC:Stmt:=top 25
noncomputable abbrev g8:Stmt:=top 26
noncomputable abbrev cG:Stmt:=top 27
noncomputable abbrev iQ:Stmt:=top 28
theorem ee:aK ["places","words","place"] ["places"] (defScope fg):=fsc rfl rfl rfl (by decide +kernel)
theorem iF:aK ["tree","leaf","waiting","downward","part"] ["tree","leaf"] (defScope nE):=fsc rfl rfl rfl (by decide +kernel)
theorem fU:aK ["tree","leaf","of_leaf","of_fork","done","part","second","first"] ["tree","leaf","of_leaf","of_fork"] (defScope m4):=fsc rfl rfl rfl (by decide +kernel)
theorem lL:aK ["by","one","other"] ["by","one","other"] (defScope eK):=fsc rfl rfl rfl (by decide +kernel)
theorem Cd:aK ["saying","word"] ["saying","word"] (defScope fh):=fsc rfl rfl rfl (by decide +kernel)
theorem rS:aK ["places","saying"] ["places","saying"] (defScope gv):=fsc rfl rfl rfl (by decide +kernel)
theorem bC:aK ["places","rule","by","number","top","found","levels","fresh"] ["places","rule","by"] (defScope dQ):=fsc rfl rfl rfl (by decide +kernel)
theorem iO:aK ["places","rule","bits"] ["places","rule"] (defScope dZ):=fsc rfl rfl rfl (by decide +kernel)
theorem zp:aK ["by","number"] ["by","number"] (defScope g0):=fsc rfl rfl rfl (by decide +kernel)
theorem bg:aK ["found","levels","ways","fresh","low","high","one","other","join","table"] ["found","levels","ways"] (defScope fi):=fsc rfl rfl rfl (by decide +kernel)
theorem lK:aK ["join","one","other"] ["join","one","other"] (defScope cj):=fsc rfl rfl rfl (by decide +kernel)
theorem AN:aK ["_law_script"] ["_law_script"] (defScope rE):=fsc rfl rfl rfl (by decide +kernel)
theorem cZ:aK ["_law_pen_here","_law_many","_law_digit","_law_script","_law_at","_law_cell","_law_number"] ["_law_pen_here","_law_many"] (defScope nK):=fsc rfl rfl rfl (by decide +kernel)
theorem u6:aK ["_law_thing"] ["_law_thing"] (defScope kI):=fsc rfl rfl rfl (by decide +kernel)
theorem dH:aK ["_law_places","_law_saying","_law_join","_law_one","_law_other","_law_found","_law_k"] ["_law_places","_law_saying"] (defScope nA):=fsc rfl rfl rfl (by decide +kernel)
theorem cT:aK ["_law_saying","_law_waiting","_law_most","_law_many","_law_here","_law_far"] ["_law_saying"] (defScope mH):=fsc rfl rfl rfl (by decide +kernel)
theorem eR:aK ["_law_places","_law_thing","_law_waiting","_law_here"] ["_law_places","_law_thing"] (defScope fk):=fsc rfl rfl rfl (by decide +kernel)
theorem jc:aK ["_law_places","_law_bits","_law_number","_law_k"] ["_law_places","_law_bits"] (defScope kg):=fsc rfl rfl rfl (by decide +kernel)
theorem gS:aK ["_law_places","_law_rule","_law_found","_law_bits"] ["_law_places","_law_rule"] (defScope gC):=fsc rfl rfl rfl (by decide +kernel)
theorem d0:aK ["_law_saying","_law_join","_law_one","_law_other"] ["_law_saying"] (defScope g8):=fsc rfl rfl rfl (by decide +kernel)
theorem di:aK ["_law_places","_law_rule","_law_by","_law_row","_law_table","_law_number","_law_saying"] ["_law_places","_law_rule","_law_by","_law_row"] (defScope cG):=fsc rfl rfl rfl (by decide +kernel)
theorem gZ:aK ["_law_script","_law_pen_here","_law_turn","_law_places","_law_rule","_law_by","_law_found","_law_due"] ["_law_script"] (defScope iQ):=fsc rfl rfl rfl (by decide +kernel)
set_option genInjectivity false in
structure Adr where
 cg:Addr
 gW:FuncData
 fb:Addr
 mK:FuncData
 dR:Addr
 jw:FuncData
 bx:Addr
 eT:FuncData
 dN:Addr
 lZ:FuncData
 cR:Addr
 iV:FuncData
 ce:Addr
 hJ:FuncData
 bS:Addr
 gy:FuncData
 eX:Addr
 nk:FuncData
 bI:Addr
 fC:FuncData
 bu:Addr
 eW:FuncData
 gg:Addr
 rj:FuncData
 eJ:Addr
 mY:FuncData
 dI:Addr
 jU:FuncData
 da:Addr
 gH:FuncData
 eS:Addr
 mU:FuncData
 bG:Addr
 fj:FuncData
 dw:Addr
 kB:FuncData
 cM:Addr
 i6:FuncData
 bD:Addr
 dS:FuncData
 bE:Addr
 ft:FuncData
 iT:Addr
 uA:FuncData
 wo:World
 dG:Addr
 iq:Addr
 qj:Addr
structure Txt(K:W.Frag)(mg:Str->Option Value)(t:Adr):Prop where
 uc:mg "all_words"=some (.ref t.cg)
 rR:Fun K "all_words" "all_words" fg t.cg t.gW
 sB:W.keepIn K (.ref t.cg)=true
 ug:bq K t.gW ["places"] []
 Cz:mg "upward"=some (.ref t.fb)
 B9:Fun K "upward" "upward" nE t.fb t.mK
 Bp:W.keepIn K (.ref t.fb)=true
 Cl:bq K t.mK ["tree","leaf"] []
 Bb:mg "folded"=some (.ref t.dR)
 AK:Fun K "folded" "folded" m4 t.dR t.jw
 BL:W.keepIn K (.ref t.dR)=true
 BG:bq K t.jw ["tree","leaf","of_leaf","of_fork"] []
 oh:mg "put_together"=some (.ref t.bx)
 om:Fun K "put_together" "put_together" eK t.bx t.eT
 mX:W.keepIn K (.ref t.bx)=true
 mL:bq K t.eT ["by","one","other"] []
 Eb:mg "value"=some (.ref t.dN)
 JO:Fun K "value" "value" fh t.dN t.lZ
 Dl:W.keepIn K (.ref t.dN)=true
 qj:bq K t.lZ ["saying","word"] []
 wk:mg "table_by"=some (.ref t.cR)
 vd:Fun K "table_by" "table_by" gv t.cR t.iV
 uY:W.keepIn K (.ref t.cR)=true
 vB:bq K t.iV ["places","saying"] []
 kX:mg "catalogue"=some (.ref t.ce)
 tK:Fun K "catalogue" "catalogue" dQ t.ce t.hJ
 k6:W.keepIn K (.ref t.ce)=true
 lD:bq K t.hJ ["places","rule","by"] []
 qR:mg "all_leaves"=some (.ref t.bS)
 re:Fun K "all_leaves" "all_leaves" dZ t.bS t.gy
 rH:W.keepIn K (.ref t.bS)=true
 qG:bq K t.gy ["places","rule"] []
 A9:mg "splits"=some (.ref t.eX)
 A5:Fun K "splits" "splits" g0 t.eX t.nk
 CL:W.keepIn K (.ref t.eX)=true
 Aj:bq K t.nk ["by","number"] []
 oK:mg "put_in_twos"=some (.ref t.bI)
 oO:Fun K "put_in_twos" "put_in_twos" fi t.bI t.fC
 oG:W.keepIn K (.ref t.bI)=true
 oM:bq K t.fC ["found","levels","ways"] []
 m5:mg "joined_table"=some (.ref t.bu)
 mM:Fun K "joined_table" "joined_table" cj t.bu t.eW
 n9:W.keepIn K (.ref t.bu)=true
 mC:bq K t.eW ["join","one","other"] []
 D0:mg "_law_pen"=some (.ref t.gg)
 EC:Fun K "_law_pen" "_law_pen" rE t.gg t.rj
 Ev:W.keepIn K (.ref t.gg)=true
 D7:bq K t.rj ["_law_script"] []
 nz:mg "_law_draw"=some (.ref t.eJ)
 CD:Fun K "_law_draw" "_law_draw" nK t.eJ t.mY
 og:W.keepIn K (.ref t.eJ)=true
 mR:bq K t.mY ["_law_pen_here","_law_many"] []
 ic:mg "_law_whole"=some (.ref t.dI)
 yJ:Fun K "_law_whole" "_law_whole" kI t.dI t.jU
 ix:W.keepIn K (.ref t.dI)=true
 iy:bq K t.jU ["_law_thing"] []
 gY:mg "_law_mask"=some (.ref t.da)
 Al:Fun K "_law_mask" "_law_mask" nA t.da t.gH
 hV:W.keepIn K (.ref t.da)=true
 gT:bq K t.gH ["_law_places","_law_saying"] []
 AJ:mg "_law_size"=some (.ref t.eS)
 Cm:Fun K "_law_size" "_law_size" mH t.eS t.mU
 CT:W.keepIn K (.ref t.eS)=true
 A6:bq K t.mU ["_law_saying"] []
 ou:mg "_law_is_saying"=some (.ref t.bG)
 oV:Fun K "_law_is_saying" "_law_is_saying" fk t.bG t.fj
 oD:W.keepIn K (.ref t.bG)=true
 oq:bq K t.fj ["_law_places","_law_thing"] []
 yV:mg "_law_grows"=some (.ref t.dw)
 y8:Fun K "_law_grows" "_law_grows" kg t.dw t.kB
 zh:W.keepIn K (.ref t.dw)=true
 zo:bq K t.kB ["_law_places","_law_bits"] []
 vk:mg "_law_tables"=some (.ref t.cM)
 vf:Fun K "_law_tables" "_law_tables" gC t.cM t.i6
 vR:W.keepIn K (.ref t.cM)=true
 wz:bq K t.i6 ["_law_places","_law_rule"] []
 gG:mg "_law_is_bare"=some (.ref t.bD)
 sV:Fun K "_law_is_bare" "_law_is_bare" g8 t.bD t.dS
 gI:W.keepIn K (.ref t.bD)=true
 gO:bq K t.dS ["_law_saying"] []
 oB:mg "_law_row_right"=some (.ref t.bE)
 oH:Fun K "_law_row_right" "_law_row_right" cG t.bE t.ft
 oQ:W.keepIn K (.ref t.bE)=true
 oU:bq K t.ft ["_law_places","_law_rule","_law_by","_law_row"] []
 Jr:mg "law"=some (.ref t.iT)
 I0:Fun K "law" "law" iQ t.iT t.uA
 Ko:W.keepIn K (.ref t.iT)=true
 Kp:bq K t.uA ["_law_script"] []
 G0:∀(s:Shared)(v:Value),BindsTo s t.uA ⟨[v],[]⟩ [("_law_script",v)]
 zC:mg "abs"=none
 Fh:mg "all"=none
 FV:mg "bool"=none
 BI:mg "int"=none
 cn:mg "isinstance"=none
 pS:mg "len"=none
 uS:mg "list"=none
 AH:mg "max"=none
 IV:mg "min"=none
 dm:mg "range"=none
 tq:mg "sorted"=none
 JA:mg "str"=none
 Jj:mg "sum"=none
 ig:mg "tuple"=none
 Fe:mg "zip"=none
 yC:mg "AT_ONCE"=some (.ref t.dG)
 yy:StD t.wo K t.dG [("leaves",V.int 1),("depth",V.int 0)]
 gP:zg K "value" "value" fh t.dN t.lZ t.iq t.qj
set_option hygiene false
local macro_rules | `(tactic| walk_at $s:str)=>do
  let k:=s.getString
  let f (t : String) := (t.splitOn " ").toArray.map fun w => (Lean.mkIdent ((w.splitOn ".").foldl Lean.Name.mkStr .anonymous))
  let b:="mN gj tz xO xE wN iB sh p9 wI iW nF tW yj FB BM wH sk xG wR sF tX tM sS sD su sN pB mz xx tL uJ xa CM w5 Ar wU wE Ap Fz xF BD zV yu yp Aq Br xK o6 pz px sM o7 pD mq mB tO kY gw ln xR pQ sQ sr uL tE xV tQ p7 p8 nR pX kS rO yq pi pk o8 p5 yt ue uC zS tV sg xH xU qw yf xP wO tY zu xl Bm CY wy Am AX mS wm zG Cw Bv tG yb be Ab Bz BQ pM wp gN kb Om.Kv Om.Kz sz1 sz2 sz3 zba EQ E3 EO cL mh xz ml xA zbL AV.d.injEq AV.r.injEq D.int.injEq D.bl.injEq D.str.injEq D.tup.injEq D.lst.injEq OC.own.injEq V.ref.injEq V.ty.injEq zah zbQ zbD zcp zaJ zdt zaA zaw List.replicate zcW zdJ List.set_cons_zero List.set_cons_succ zaH zcc Option.join_some exists_eq' exists_eq_left' exists_eq_right zcb and_true true_and and_assoc exists_and_left exists_and_right zdB Nat.reduceAdd Nat.reduceSub Nat.reduceLeDiff Int.reduceLT Int.reduceToNat Nat.reduceLT zaZ zbl zdG zaX zaP zak reduceCtorEq false_and and_false or_false false_or beq_iff_eq bne_iff_ne ne_eq Bool.true_eq_false"
  if k=="ab" then let l:=f b;return(<-`(tactic| simp only[$[$l:term],*]))
  if k=="a1" then let n:=f "gj wp";let l:=(f b).filter fun w => !n.contains w;return(<-`(tactic| simp only[$[$l:term],*]))
  Lean.Macro.throwUnsupported
local macro_rules | `(tactic| walk_at "s1")=>`(tactic| (try walk_at "a1");(first|rw[gj]|rw[A7]);walk_at "a1")
set_option hygiene true
section
variable{P:Program}{w:World}{K:W.Frag}{mg:Str->Option Value}{base:Heap}{t:Adr}
noncomputable def pdO(K:W.Frag)(c:Pq):OC:=.dic [(("script":Str),g9 K c.a c.ns),(("at":Str),.d (.int c.i)),(("left":Str),.d (.int c.f))]
noncomputable def yA(K:W.Frag)(Z:Om)(p:Addr):Prop:=∃c,Z p=some (pdO K c)
theorem jE{K:W.Frag}{Z:Om}{p:Addr}{c:Pq}:yA K (Z.put p (pdO K c)) p:=⟨c,Om.Kv⟩
noncomputable def FP(K:W.Frag):ASp:=fun xs Z Q=>∃(a:Addr)(ns:List Int),xs=[g9 K a ns]/\ns.length<=63/\∀p c,Z p=none->Q (.r (.ref p)) (Z.put p (pdO K c))
theorem F4(T:Txt K mg t):a7 P w K mg base CX0 1 t.gg t.rj ["_law_script"] (c9 (FP K)):=by
 refine T.EC.okA AN (fun xs Z Q h=>by obtain⟨a,ns,rfl,_⟩:=h;rfl) (fun cdv A outer s H E hr=>⟨_,_,(ak (aG (Da (nv aQ (pv 0) (nv aQ ai (nv aQ ai DV))) rfl rfl (by simp) (by decide)))),(a0 (HF (iM.cons aa (iM.cons ap (iM.cons ap iM.nil))))),fun xs Z Q h=>?_⟩)
 obtain⟨a,ns,rfl,hn,k⟩:=h;walk_at "a1";exact⟨by decide +kernel,fun p hp=>k p ⟨a,ns,0,0,Int.le_refl _,Int.le_refl _,hn⟩ hp⟩
noncomputable abbrev pd3(a b c:AV):List (Str×AV):=[(("script":Str),a),(("at":Str),b),(("left":Str),c)]
theorem B8{a b c:AV}:ndK (pd3 a b c):=by unfold ndK;show [("script":Str),"at","left"].Nodup;decide +kernel
theorem Cg{a b c x:AV}:lM (pd3 a b c) "left"=some c/\oS (pd3 a b c) "left" x=pd3 a b x:=by
 refine⟨?_,?_⟩
 ·simp only[lM,zaR,show decide (("script":Str)="left")=false from by decide +kernel,show decide (("at":Str)="left")=false from by decide +kernel,zdp];rfl
 ·simp only[oS,zad (show ¬ ("script":Str)="left" from by decide +kernel),zad (show ¬ ("at":Str)="left" from by decide +kernel),zaX]
theorem Jp{a b c x:AV}:lM (pd3 a b c) "at"=some b/\oS (pd3 a b c) "at" x=pd3 a x c:=by
 refine⟨?_,?_⟩
 ·simp only[lM,zaR,show decide (("script":Str)="at")=false from by decide +kernel,zdp];rfl
 ·simp only[oS,zad (show ¬ ("script":Str)="at" from by decide +kernel),zaX]
theorem JZ{a b c:AV}:lM (pd3 a b c) "script"=some a:=by
 simp only[lM,zaR,zdp];rfl
theorem vG{a b c:AV}:((pd3 a b c).any fun p=>decide (p.1=("left":Str)))=true/\((pd3 a b c).any fun p=>decide (p.1=("at":Str)))=true:=by
 simp
noncomputable def Ek(K:W.Frag):ASp:=fun xs Z Q=>∃(p:Addr)(m:Int),xs=[.r (.ref p),.d (.int m)]/\yA K Z p/\0<m/\m<1073741824/\∀(r:Int)(c:Pq),0<=r->r<m->Q (.d (.int r)) (Z.put p (pdO K c))
theorem Dq(T:Txt K mg t):a7 P w K mg base CX0 1 t.eJ t.mY ["_law_pen_here","_law_many"] (c9 (Ek K)):=by
 refine T.CD.okA cZ (fun xs Z Q h=>by obtain⟨p,m,rfl,_⟩:=h;rfl) (fun cdv A outer s H E hr=>⟨_,_,(ag (bM (aF EG (jF (kT hr) (pv 0) aQ (fun _ _=>rfl)) ai (aR _)) (ag (aO (i:=2) cZ.nd rfl (Or.inl rfl) (aE jb (jF (kT hr) (pv 0) aQ (fun _ _=>rfl)) (pv 1)))
   (ag (qc (kT hr) (pv 0) aQ (aE mf (jF (kT hr) (pv 0) aQ (fun _ _=>rfl)) (pv 1)) rfl)
   (ak (aG (pv 2))))) a9)
   (ag (aO (i:=3) cZ.nd rfl (Or.inl rfl) (jF (kT hr) (pv 0) aQ (fun _ _=>rfl)))
   (ag (aO (i:=4) cZ.nd rfl (Or.inl rfl) (jF (kT hr) (pv 0) aQ (fun _ _=>rfl)))
   (ag (qc (kT hr) (pv 0) aQ (aE (aT dh (aT ca de)) (pv 4) ai) rfl)
   (ag (aO (i:=5) cZ.nd rfl (Or.inl rfl) (aE (aT dh (aT ca de)) (aE (aT nh nL) ai (pv 4)) ai))
   (ag (bM (aF (j3 K rfl hr.Kx) (pv 3) (du af) (aR _)) (ak (aO (i:=5) cZ.nd rfl (Or.inl rfl) (bL (aP K rfl) (pv 3) (aE jb (pv 4) (aM (fR K rfl) (by rfl) T.pS (by kernel_rfl) (ab (pv 3) af))) (fun _ _=>rfl)))) a9)
   (ag (bM (PW.pt (kC (aF ye (pv 4) (aM (fR K rfl) (by rfl) T.pS (by kernel_rfl) (ab (pv 3) af)) (aR _)) (lX (aF Jh (aM nw (by rfl) T.zC (by kernel_rfl) (ab (pv 5) af)) (aE Gx ai ai) (aR _))))) (ag (qc (kT hr) (pv 0) aQ (aE mf (aM nw (by rfl) T.zC (by kernel_rfl) (ab (pv 5) af)) (pv 1)) rfl)
   (ak (aG (aE jb (aM nw (by rfl) T.zC (by kernel_rfl) (ab (pv 5) af)) (pv 1))))) a9)
   (ag (aO (i:=6) cZ.nd rfl (Or.inl rfl) (aE jb (aE (aT nh nL) (aE (aT dh (aT ca de)) (aE (aT dh (aT ca de)) (aE jb (pv 5) ai) (aE (aT nh nL) ai (pv 4))) ai) ai) ai))
   (ag (aO (i:=6) cZ.nd rfl (Or.inl rfl) (aE jb (aE (aT dh (aT ca de)) (aE (aT dh (aT ca de)) (aE (aT nh nL) (pv 6) (pv 6)) (aE (aT nh nL) ai (pv 6))) (pv 4)) ai))
   (ak (aG (aE jb (aE mf (pv 6) ai) (pv 1))))))))))))),(aw (dC (aL (aq jB (n8 aa bz) ap)) (aw (aZ (aq er (n8 aa bz) aa) am)
   (aw (u7 aa bz (aq er (n8 aa bz) aa))
   (a0 aa))) bw)
   (aw (aZ (n8 aa bz) am)
   (aw (aZ (n8 aa bz) am)
   (aw (u7 aa bz (aq fe aa ap))
   (aw (aZ (aq fe (aq tu ap aa) ap) am)
   (aw (dC (aL (aq Bg aa (kU aj))) (aZ (aq JG aa (aq er aa (cI Aw (ae aa aj)))) am) bw)
   (aw (dC (pA (aL (aq jB aa (cI Aw (ae aa aj)))) (aL (aq jB (cI GL (ae aa aj)) (aq er ap ap)))) (aw (u7 aa bz (aq er (cI GL (ae aa aj)) aa))
   (a0 (aq er (cI GL (ae aa aj)) aa))) bw)
   (aw (aZ (aq er (aq tu (aq fe (aq fe (aq er aa ap) (aq tu ap aa)) ap) ap) ap) am)
   (aw (aZ (aq er (aq fe (aq fe (aq tu aa aa) (aq tu ap aa)) aa) ap) am)
   (a0 (aq er (aq er aa ap) aa))))))))))),fun xs Z Q h=>?_⟩)
 obtain⟨p,m,rfl,⟨c,hp⟩,hm,hm2,k⟩:=h;have fin:∀(r:Int)(c:Pq),Q (.d (.int (r%m))) (Z.put p (pdO K c)):=fun r c=>k _ c (Int.emod_nonneg _ (by omega)) (Int.emod_lt_of_pos _ hm)
 unfold pdO at hp;walk_at "s1";refine⟨_,hp,_,(Cg (x:=.d .non)).1,_,rfl,fc (fun h1=>?_) (fun h1=>?_)⟩
 ·walk_at "s1"
  refine⟨_,hp,_,(Cg (x:=.d .non)).1,_,rfl,hm,?_⟩;walk_at "s1";refine⟨_,hp,_,(Cg (x:=.d .non)).1,_,rfl,⟨hm,hm2⟩,_,hp,B8,vG.1,by simp[sizeLine],?_⟩
  rw[Cg.2];exact fin _ ⟨c.a,c.ns,c.i,c.f / m,c.h0,Int.ediv_nonneg c.hf (by omega),c.hn⟩
 ·walk_at "s1"
  refine⟨_,hp,_,JZ,?_⟩;walk_at "s1";refine⟨_,hp,_,(Jp (x:=.d .non)).1,?_⟩;walk_at "s1";refine⟨_,hp,B8,vG.2,by simp[sizeLine],?_⟩
  rw[Jp.2];walk_at "s1";refine⟨vF (by decide),?_⟩
  have absn:∀z:Int,0<=(if z<0 then -z else z):=fun z=>by split<;>omega
  refine jx (fun ρ' Z'=>Z'=Z.put p (.dic (pd3 (g9 K c.a c.ns) (.d (.int (c.i+1))) (.d (.int c.f))))/\∃x:Int,ρ'=[some (AV.r (V.ref p)),some (AV.d (D.int m)),none,some (g9 K c.a c.ns),some (AV.d (D.int c.i)),some (AV.d (D.int x)),none]) (fun M kM=>?_) ?_
  ·walk_at "a1"
   refine⟨c.a,c.ns,rfl,fc (fun h2=>?_) (fun h2=>kM _ _ ⟨rfl,_,rfl⟩)⟩
   have h2':0<(c.ns.length:Int):=by cases hc:c.ns with
    |nil=>simp[hc] at h2
    |cons y ys=>simp only[zaJ];omega
   have hx1:0<=c.i%(c.ns.length:Int):=Int.emod_nonneg _ (by omega)
   have hx2:c.i%(c.ns.length:Int)<(c.ns.length:Int):=Int.emod_lt_of_pos _ h2'
   obtain⟨y,ey⟩:∃y,atI c.ns (c.i%(c.ns.length:Int))=some y:=by
    obtain⟨j,ej⟩:=zdI hx1;rw[ej] at hx2 ⊢;have hj:j<c.ns.length:=Int.ofNat_lt.mp hx2;exact⟨_,Di (zae hj)⟩
   exact⟨c.a,c.ns,rfl,h2',c.a,c.ns,rfl,y,ey,kM _ _ ⟨rfl,_,rfl⟩⟩
  rintro ρ Z' ⟨rfl,x,rfl⟩;refine jx (fun ρ' Z'=>Z'=Z.put p (.dic (pd3 (g9 K c.a c.ns) (.d (.int (c.i+1))) (.d (.int c.f))))/\ρ'=[some (AV.r (V.ref p)),some (AV.d (D.int m)),none,some (g9 K c.a c.ns),some (AV.d (D.int c.i)),some (AV.d (D.int x)),none]) (fun M kM=>?_) ?_
  ·walk_at "a1"
   refine⟨c.a,c.ns,rfl,fc (fun h2=>⟨⟨by decide,by decide,by decide⟩,fc (fun h3=>?_) (fun h3=>kM _ _ ⟨rfl,rfl⟩)⟩) (fun h2=>kM _ _ ⟨rfl,rfl⟩)⟩
   walk_at "s1";refine⟨⟨hm,hm2⟩,_,rfl,B8,vG.1,by simp[sizeLine],hm,?_⟩
   rw[Cg.2];exact fin _ ⟨c.a,c.ns,c.i+1,(if x<0 then -x else x) / m,by have:=c.h0;omega,Int.ediv_nonneg (absn x) (by omega),c.hn⟩
  rintro ρ Z' ⟨rfl,rfl⟩;walk_at "ab";exact⟨vF (by decide),F6 (by decide),Aa (by decide) (by decide),vF (by decide),⟨by decide,by decide⟩,hm,fin _ ⟨c.a,c.ns,c.i+1,c.f,by have:=c.h0;omega,c.hf,c.hn⟩⟩
noncomputable def El(K:W.Frag):ASp:=fun xs Z Q=>∃(a:Addr)(ns:List Int),xs=[g9 K a ns]/\ns.length<=63/\Z=(fun _=>none)/\∀Z',Q (.d (.bl true)) Z'
noncomputable def qM(K:W.Frag):Sp:=c9 (El K)
theorem yS{K:W.Frag}{H:Hp}{a:Addr}{ns:List Int}(hl:ns.length<=63)(hO:IX H)(hS:SqL K H a (ns.map V.int)):qM K [.ref a] H (fun v _=>v=.bl true) fun _ _ _=>False:=
 ⟨fun _=>false,[g9 K a ns],fun _=>none,fun a _=>a=.d (.bl true),Eg,⟨_,_,rfl,vV hS,rfl⟩,⟨a,ns,rfl,hl,rfl,fun _=>rfl⟩,fun a Z' v H' _ _ rv q=>by subst q;exact Ce rv⟩
noncomputable def lfB:Tr->Bool
 |.lf _=>true
 |.nd _ _ _=>false
theorem xt{u:Tr}{lw:Str}(ho:u.ok lw):∃(ds:List D)(z:Str),u.d=.tup ds/\atI (ds.map AV.d) 0=some (.d (.str z))/\(z=lw↔lfB u=true):=by
 cases u with
 |lf x=>
  refine⟨x,lw,rfl,jm 0 rfl (by rw[zam,ho.1];rfl),by simp[lfB]⟩
 |nd x l r=>
  obtain⟨⟨w0,hw0,hw0n⟩,_⟩:=ho;refine⟨x++[l.d,r.d],w0,rfl,jm 0 rfl ?_,by simp[lfB,hw0n]⟩
  rw[zam,zbo (zav.mp hw0).1,hw0];rfl
theorem Hf{α:Type}{xs:List α}{a b:α}:atI (xs++[a,b]) (-1)=some b/\atI (xs++[a,b]) (-2)=some a:=by
 constructor
 ·have e:xs++[a,b]=(xs++[a])++[b]:=by simp
  rw[e];exact yT
 ·unfold atI ixN
  rw[zad (by decide),zaf (by simp;omega)]
  show (xs++[a,b])[((-2:Int)+((xs++[a,b]).length:Nat)).toNat]?=some a;have:((-2:Int)+((xs++[a,b]).length:Nat)).toNat=xs.length:=by simp;omega
  rw[this];simp
noncomputable def trs:List Tr->Nat
 | []=>0
 |e::r=>e.size+trs r
theorem bA:∀a b:List Tr,trs (a++b)=trs a+trs b
 | [],b=>by simp[trs]
 |e::a,b=>by simp only[zbD,trs,bA a b];omega
theorem l8:∀a:List Tr,a.length<=trs a
 | []=>by simp[trs]
 |e::a=>by
  have:=l8 a;have:=Tr.sZ e;simp only[trs,zaJ];omega
theorem jd{n:Nat}(h:n<=200000):n<sizeLine:=zbp h (by decide)
theorem vq{a b:Prop}(h:a):if true=true then a else b:=by rw[zaf rfl];exact h
theorem dU{a b:Prop}(h:b):if false=true then a else b:=by rw[zad (by decide)];exact h
theorem IR{i:Nat}{ρ:SA}{Z:Om}{Q:Bool->Om->Prop}{l:Addr}{xs:List AV}(h1:ρ[i]?=some (some (.r (.ref l))))(h2:Z l=some (.own xs))(q:Q (!xs.isEmpty) Z):Gm (eO i) ρ Z Q:=
 ⟨_,h1,_,by rw[Gs,mS,h2];rfl,q⟩
theorem x5{i j:Nat}{R:AS}{D:bj}{ρ:SA}{Z:Om}{l:Addr}{xs:List AV}{y:AV}(h1:ρ[i]?=some (some (.r (.ref l))))(h2:Z l=some (.own (xs++[y])))(q:R D (ρ.set j (some y)) (Z.put l (.own xs))):DW (Ha (C7 (eO i)) (eV j)) R D ρ Z:=
 ⟨_,h1,l,xs++[y],y,rfl,h2,by simp,by rw[gw];exact q⟩
theorem HB{i j:Nat}{D:bj}{ρ:SA}{Z:Om}{l:Addr}{xs:List AV}{y:AV}(h1:ρ[i]?=some (some (.r (.ref l))))(h2:Z l=some (.own xs))(h3:xs.length<sizeLine)(h4:ρ[j]?=some (some y))(q:D.nx ρ (Z.put l (.own (xs++[y])))):p6 (ip (eO i) (iN (eO j) sJ)) D ρ Z:=
 ⟨_,h1,l,rfl,⟨_,h2⟩,_,h4,xs,y,rfl,h2,h3,q⟩
theorem BZ{i j:Nat}{m:Int}{D:bj}{ρ:SA}{Z:Om}{l:Addr}{xs ys:List AV}{x y:AV}(h1:ρ[i]?=some (some (.r (.ref l))))(h2:Z l=some (.own xs))(h3:xs.length<sizeLine)(h4:ρ[j]?=some (some x))(h5:gA x=some ys)(h6:atI ys (-m)=some y)(q:D.nx ρ (Z.put l (.own (xs++[y])))):p6 (ip (eO i) (iN (aOp aIx (eO j) (aUn (aU fun i=>L2.D.int (-i)) (aC (L2.D.int m)))) sJ)) D ρ Z:=
 ⟨_,h1,l,rfl,⟨_,h2⟩,_,h4,m,rfl,ys,-m,y,.inr h5,rfl,h6,xs,y,rfl,h2,h3,q⟩
theorem GY{i j:Nat}{T U:AS}{D:bj}{ρ:SA}{Z:Om}{x:AV}{ys:List AV}{z lw:Str}(h1:ρ[j]?=some (some x))(h2:gA x=some ys)(h3:atI ys 0=some (.d (.str z)))(h4:ρ[i]?=some (some (.d (.str lw))))(q:if z=lw then U D ρ Z else T D ρ Z):C8 (ym (aOp (C9 true) (aOp aIx (eO j) (aC (L2.D.int 0))) (eO i))) T U D ρ Z:=
 ⟨_,h1,ys,0,_,.inr h2,rfl,h3,_,h4,_,_,rfl,rfl,by rw[ml];omega,_,rfl,by
  rw[mh];by_cases h:z=lw
  ·rw[zaf h] at q;rw[zad (by simp[h])];exact q
  ·rw[zad h] at q;rw[zaf (by simp[h])];exact q⟩
noncomputable def vj:ASp:=fun xs Z Q=>∃(u:Tr)(lw:Str),xs=[.d u.d,.d (.str lw)]/\u.ok lw/\u.size<=100000/\Q (.d (.lst (u.post.map Tr.d))) Z
theorem vh(T:Txt K mg t):a7 P w K mg base CX0 1 t.fb t.mK ["tree","leaf"] (c9 vj):=by
 refine T.B9.okD iF (fun xs Z Q h=>by obtain⟨u,lw,rfl,_⟩:=h;rfl) (fun cdv A outer s H E hr=>⟨_,_,(ag (aO (i:=2) iF.nd rfl (Or.inl rfl) (du (ab (pv 0) af)))
   (ag (aO (i:=3) iF.nd rfl (Or.inl rfl) (du af))
   (ag (jO zbg (bt K rfl (pv 2) (fun _=>rfl)) (ag (aO (i:=4) iF.nd rfl (Or.inl rfl) (jf zaG zbT zcn jW (pv 2)))
   (ag (dq (lE zaG zbI zbS dJ (pv 3) (ab (pv 4) af)))
   (ak (bM (aF (kj hr.Kx) (bL (aP K rfl) (pv 4) ai (fun _ _=>rfl)) (pv 1) (aR _)) (ag (dq (lE zaG zbI zbS dJ (pv 2) (ab (bL (aP K rfl) (pv 4) (A0 vp ai) (fun _ _=>rfl)) af)))
   (ak (dq (lE zaG zbI zbS dJ (pv 2) (ab (bL (aP K rfl) (pv 4) (A0 vp ai) (fun _ _=>rfl)) af))))) a9)))))
   (ak (aG (Gz K rfl (pv 3) (A0 vp ai))))))),(aw (aZ (kw (ae aa aj)) am)
   (aw (aZ (kw aj) am)
   (aw (mi (fO aa) (aw (aZ (oY aa) am)
   (aw (eZ (fV aa (ae aa aj)))
   (dC (aL (aq bR (aq dB aa ap) aa)) (aw (eZ (fV aa (ae (aq dB aa (JI u_i ap)) aj)))
   (eZ (fV aa (ae (aq dB aa (JI u_i ap)) aj)))) bw))))
   (a0 (Ja aa))))),fun xs Z Q h=>?_⟩)
 obtain⟨u,lw,rfl,hok,hsz,k⟩:=h;walk_at "s1";intro l1 hl1;walk_at "s1";intro l2 hl2;obtain⟨n21,hl2⟩:=B4 hl2;have n12:=zbJ n21;rw[gj];obtain⟨Pv,iP⟩:=Em fun j ρ Z'=>∃(W es:List Tr)(v4:Option AV),ρ=[some (.d u.d),some (.d (.str lw)),some (.r (.ref l1)),some (.r (.ref l2)),v4]/\Z'=om2 Z l1 l2 (.own ((W.map Tr.d).map AV.d)) (.own ((es.map Tr.d).map AV.d))/\(∀e∈W,e.ok lw)/\es++(W.reverse.flatMap Tr.pre)=u.pre/\es.length+trs W<=u.size/\j=trs W
 refine⟨Pv,⟨_,(iP _ _ _).mpr ⟨[u],[],_,rfl,rfl,by simpa using hok,by simp,by simp[trs],rfl⟩⟩,fun j ρ Z' h=>?_⟩
 obtain⟨W,es,v4,rfl,rfl,hW,hE,hS,rfl⟩:=(iP _ _ _).mp h;clear h;have eo:∀A B,(om2 Z l1 l2 A B).only Z=Z:=fun A B=>jC (((Ex.refl Z).over hl1).over hl2);refine IR rfl (wB n12) ?_;rcases List.eq_nil_or_concat W with rfl|⟨W',e,rfl⟩
 ·simp only[List.reverse_nil,List.flatMap_nil,zaM] at hE
  subst hE;refine dU ⟨_,rfl,_,uF EM,_,rfl,?_⟩;rw[eo,←List.map_reverse,Tr.qC]
  exact k
 ·rw[List.concat_eq_append] at hW hE hS ⊢
  have hWl:=l8 W';rw[bA] at hS;simp only[trs,zcz] at hS;have hoe:=hW e (zaC _ (zaT.mpr rfl));have hW':∀e∈W',e.ok lw:=fun e he=>hW e (zbn _ he);simp only[List.reverse_append,zcr,List.reverse_nil,zcp,List.flatMap_append,zdL,List.flatMap_nil,zaM,zbD] at hE;simp only[zaQ,zah,zbQ]
  obtain⟨ds,z,ed,ez,hz⟩:=xt hoe;have se:=Tr.sZ e;have hs1:es.length<sizeLine:=jd (by omega)
  have elt:∀W2:List Tr,trs W2<e.size->trs (W'++W2)<trs (W'++[e]):=fun W2 h=>by rw[bA,bA];simp only[trs];omega
  have pq:∀(W2:List Tr) v4,trs W2<e.size->(∀x∈W2,x.ok lw)->W2.reverse.flatMap Tr.pre=e.pre.tail->e.pre=e::e.pre.tail->∃m',m'<trs (W'++[e])/\Pv m' [some (.d u.d),some (.d (.str lw)),some (.r (.ref l1)),some (.r (.ref l2)),v4] (om2 Z l1 l2 (.own (((W'++W2).map Tr.d).map AV.d)) (.own ((es.map Tr.d).map AV.d++[.d e.d]))):=fun W2 v4 h1 h2 h3 h4=>
   ⟨_,elt W2 h1,(iP _ _ _).mpr ⟨W'++W2,es++[e],_,rfl,by simp,fun x hx=>(zaL.mp hx).elim (hW' x) (h2 x),by rw[←hE,h4];simp[h3],by rw[bA];simp;omega,rfl⟩⟩
  rw[ja];refine vq ⟨fun ρ' Z'=>∃m',m'<trs (W'++[e])/\Pv m' ρ' Z',fun ρ' Z' h=>h,x5 rfl (wB n12) ?_⟩;rw[vJ n12,gj];refine HB rfl EM (by simpa using hs1) rfl (GY rfl (by rw[ed];rfl) ez rfl ?_)
  rw[G4]
  cases e with
  |lf x=>
   rw[zaf (hz.mpr rfl),mN];have p0:=pq [] (some (.d (Tr.lf x).d)) (by simp[trs,Tr.size]) (by simp) rfl rfl
   simpa using p0
  |nd x a b=>
   obtain⟨_,_,oa,ob⟩:=hoe;have hz':¬ z=lw:=fun h=>by have:=hz.mp h;simp[lfB] at this
   have p0:=pq [a,b] (some (.d (Tr.nd x a b).d)) (by simp only[trs,Tr.size];omega) (by simp[oa,ob]) (by simp[Tr.pre]) rfl
   obtain⟨q1,q2⟩:=Hf (xs:=x.map AV.d) (a:=AV.d a.d) (b:=AV.d b.d);have eds:ds=x++[a.d,b.d]:=by cases ed;rfl
   have l2':W'.length+1<sizeLine:=jd (by omega)
   have tup:gA (.d (Tr.nd x a b).d)=some (x.map AV.d++[AV.d a.d,AV.d b.d]):=by rw[ed,eds,wm];simp
   rw[zad hz',gj];refine BZ rfl (wB n12) (jd (by simp;omega)) rfl tup q2 ?_
   rw[vJ n12];refine BZ rfl (wB n12) (by simpa using l2') rfl tup q1 ?_
   rw[vJ n12];simpa using p0
theorem C4{i j:Nat}{T U:AS}{D:bj}{ρ:SA}{Z:Om}{x:AV}{ys:List AV}{z lw:Str}(h1:ρ[j]?=some (some x))(h2:gA x=some ys)(h3:atI ys 0=some (.d (.str z)))(h4:ρ[i]?=some (some (.d (.str lw))))(q:if z=lw then T D ρ Z else U D ρ Z):C8 (ym (aOp (C9 false) (aOp aIx (eO j) (aC (L2.D.int 0))) (eO i))) T U D ρ Z:=
 ⟨_,h1,ys,0,_,.inr h2,rfl,h3,_,h4,_,_,rfl,rfl,by rw[ml];omega,_,rfl,by
  rw[mh];by_cases h:z=lw
  ·rw[zaf h] at q;rw[zaf (by simp[h])];exact q
  ·rw[zad h] at q;rw[zad (by simp[h])];exact q⟩
theorem Ga{i j m:Nat}{f:Addr}{caps:List V}{cA:List AV}{sp:ASp}{D:bj}{ρ:SA}{Z:Om}{l:Addr}{xs:List AV}{x y:AV}(h1:ρ[i]?=some (some (.r (.ref l))))(h2:Z l=some (.own xs))(h3:xs.length<sizeLine)(h4:ρ[m]?=some (some (wt f caps cA)))(h5:ρ[j]?=some (some x))(h6:∀Q1:AV->Om->Prop,Q1 y Z->sp [x] Z Q1)(q:D.nx ρ (Z.put l (.own (xs++[y])))):p6 (ip (eO i) (iN (uN m f caps cA sp (iN (eO j) sJ)) sJ)) D ρ Z:=
 ⟨_,h1,l,rfl,⟨_,h2⟩,h4,_,h5,h6 _ ⟨xs,y,rfl,h2,h3,q⟩⟩
theorem En{i j j1 j2 m:Nat}{f:Addr}{caps:List V}{cA:List AV}{sp:ASp}{D:bj}{ρ:SA}{Z:Om}{l:Addr}{xs:List AV}{x x1 x2 y:AV}(h1:ρ[i]?=some (some (.r (.ref l))))(h2:Z l=some (.own xs))(h3:xs.length<sizeLine)(h4:ρ[m]?=some (some (wt f caps cA)))(h5:ρ[j]?=some (some x))(h51:ρ[j1]?=some (some x1))(h52:ρ[j2]?=some (some x2))(h6:∀Q1:AV->Om->Prop,Q1 y Z->sp [x,x1,x2] Z Q1)(q:D.nx ρ (Z.put l (.own (xs++[y])))):p6 (ip (eO i) (iN (uN m f caps cA sp (iN (eO j) (iN (eO j1) (iN (eO j2) sJ)))) sJ)) D ρ Z:=
 ⟨_,h1,l,rfl,⟨_,h2⟩,h4,_,h5,_,h51,_,h52,h6 _ ⟨xs,y,rfl,h2,h3,q⟩⟩
theorem C2(kc:Nat)(T:Txt K mg t):a7 P w K mg base CX0 (kc+3) t.dR t.jw ["tree","leaf","of_leaf","of_fork"] (rd kc P w K mg base):=by
 have G_upward:a7 P w K mg base _ _ _ _ _ _:=vh T;refine T.AK.ok fU (fun vs H Q E h=>?_) (fun cdv A outer s H vs Q E hr h=>?_)
 ·obtain⟨F,Z,Q',v,lw,u,f1,f2,c1,c2,a1,a2,s1,s2,g,rfl,_⟩:=h;rfl
 obtain⟨F,Z,Q',v,lw,u,f1,f2,c1,c2,a1,a2,s1,s2,g,rfl,rp,hv,hok,hsz,C_of_leaf,C_of_fork,r1,r2,k1,k2,q,kq⟩:=h
 have rvs:RVs (cut F H Z) [.d u.d,.d (.str lw),wt f1 c1 a1,wt f2 c2 a2] [v,.str lw,.ref f1,.ref f2]:=
  ⟨_,_,rfl,hv,_,_,rfl,by simp[RV,Dat],_,_,rfl,⟨rfl,fun G' s=>r1.same s⟩,_,_,rfl,⟨rfl,fun G' s=>r2.same s⟩,rfl⟩
 refine⟨_,(ag (aO (i:=4) fU.nd rfl (Or.inl rfl) (du af))
   (ag (eQ zbg rfl (cy K rfl (aH G_upward (hr.mono (by omega)) (by rfl) T.Cz T.Bp T.Cl .nil br (ab (pv 0) (ab (pv 1) af)))) (au (i:=5) fU.nd rfl (Or.inl rfl)) (ak (bM (aF (bQ hr.Kx) (bL (aP K rfl) (pv 5) ai (fun _ _=>rfl)) (pv 1) (aR _)) (ak (dq (lE zaG zbI zbS dJ (pv 4) (ab (tJ (k:=kc) (n:=1) (i:=2) (hr.mono (by omega)) rfl (Or.inl rfl) (ab (pv 5) af)) af)))) (ag (aO (i:=6) fU.nd rfl (Or.inl rfl) (jf zaG zbT zcn jW (pv 4)))
   (ag (aO (i:=7) fU.nd rfl (Or.inl rfl) (jf zaG zbT zcn jW (pv 4)))
   (ak (dq (lE zaG zbI zbS dJ (pv 4) (ab (tJ (k:=kc) (n:=3) (i:=3) (hr.mono (by omega)) rfl (Or.inl rfl) (ab (pv 5) (ab (pv 7) (ab (pv 6) af)))) af)))))))))
   (ak (aG (bL (aP K rfl) (pv 4) ai (fun _ _=>rfl)))))),eB.run ((aw (aZ (kw aj) am)
   (aw (gJ (fF (aX (ae aa (ae aa aj)))) am (dC (aL (aq bR (aq dB aa ap) aa)) (eZ (fV aa (ae (xN C_of_leaf (ae aa aj)) aj))) (aw (aZ (oY aa) am)
   (aw (aZ (oY aa) am)
   (eZ (fV aa (ae (xN C_of_fork (ae aa (ae aa (ae aa aj)))) aj)))))))
   (a0 (aq dB aa ap))))) F H Z _ _ _ { nx:=fun _ Z'=>Q' (.d .non) (Z'.only Z),rt:=fun a Z'=>∃d,a=.d d/\Q' (.d d) (Z'.only Z) } rp (RS.start rvs) ?_ ⟨?_,?_,fun _ _ _ _ _ _ _ z=>z.elim,fun _ _ _ _ _ _ _ z=>z.elim⟩⟩
 ·walk_at "s1"
  intro l hl;walk_at "s1";refine⟨u,lw,rfl,hok,hsz,?_⟩;walk_at "a1";refine rN (fun i ρ Z'=>∃(st:List Tr)(v5 v6 v7:Option AV),ρ=[some (.d u.d),some (.d (.str lw)),some (wt f1 c1 a1),some (wt f2 c2 a2),some (.r (.ref l)),v5,v6,v7]/\Z'=Z.put l (.own ((st.map g).map AV.d))/\Tr.chk u (u.post.drop i) st/\st.length<=i) ⟨[],_,_,_,rfl,rfl,by simpa using Tr.Dy u,zaj _⟩ ?_ ?_
  ·rintro i d ρ Z' N hd ⟨st,v5,v6,v7,rfl,rfl,hc,hsl⟩ kN
   obtain⟨e,he,rfl⟩:=L2.eh hd
   have hil:i<100000:=by
    have:=(zav.mp he).1;rw[Tr.nZ] at this;omega
   obtain⟨hil2,ev⟩:=zav.mp he;rw[zdx hil2,ev] at hc;have hme:=zaz he;obtain⟨ds,z,ed,ez,hz⟩:=xt (hok.post e hme);have hs1:st.length<sizeLine:=jd (by omega)
   refine C4 rfl (by rw[ed];rfl) ez rfl ?_
   cases e with
   |lf x=>
    rw[zaf (hz.mpr rfl)];simp only[Tr.chk] at hc;exact Ga rfl Om.Kv (by simpa using hs1) rfl rfl (k1 x hme _) (kN _ _ ⟨st++[.lf x],_,_,_,rfl,by rw[Om.Kz];simp,hc,by simp;omega⟩)
   |nd x a b=>
    have hz':¬ z=lw:=fun h=>by have:=hz.mp h;simp[lfB] at this
    simp only[Tr.chk] at hc;obtain⟨st',rfl,hc⟩:=hc;rw[zad hz'];have e3:List.map AV.d (List.map g (st'++[a,b]))=(List.map AV.d (List.map g st')++[AV.d (g a)])++[AV.d (g b)]:=by simp
    rw[e3];rw[zaw] at hsl hs1;refine x5 rfl Om.Kv ?_;rw[Om.Kz];refine x5 rfl Om.Kv ?_;rw[Om.Kz];refine En rfl Om.Kv (jd (by simp;omega)) rfl rfl rfl rfl (k2 x a b hme _) ?_
    rw[Om.Kz];exact kN _ _ ⟨st'++[.nd x a b],_,_,_,rfl,by simp,hc,by simp at hsl ⊢;omega⟩
  ·rintro ρ Z' ⟨st,v5,v6,v7,rfl,rfl,hc,hsl⟩
   rw[zaA,zcS] at hc;simp only[Tr.chk] at hc;subst hc;walk_at "a1";rw[jC ((Ex.refl Z).new hl)];exact q
 ·exact fun ρ' Z' σ' H' e1 e2 e3 q=>kq (.d .non) (Z'.only Z) .non H' e1.only.1 e2.only (by simp[RV,Dat]) q
 ·rintro a Z' v H' e1 e2 e3 ⟨d,rfl,q⟩
  exact kq (.d d) (Z'.only Z) v H' e1.only.1 e2.only (e3.same e1.only.2) q
noncomputable def ba:Sy->Tr
 |.is i b=>.lf [.str "is",.int i,.int b]
 |.jn a l r=>.nd [.str (if a then "and" else "or")] (ba l) (ba r)
theorem vS:∀x:Sy,(ba x).d=x.d
 |.is i b=>rfl
 |.jn a l r=>by simp[ba,Tr.d,Sy.d,vS l,vS r]
theorem qJ:∀x:Sy,(ba x).ok "is"
 |.is i b=>⟨rfl,by simp[KA,noL]⟩
 |.jn a l r=>⟨⟨_,rfl,by cases a<;>decide +kernel⟩,by simp[KA,noL],qJ l,qJ r⟩
theorem iw:∀x:Sy,(ba x).size+1<=2^(x.dp+1)
 |.is i b=>by simp[ba,Tr.size,Sy.dp]
 |.jn a l r=>by
  have h1:=iw l;have h2:=iw r;simp only[ba,Tr.size,Sy.dp];have m1:2^(l.dp+1)<=2^(max l.dp r.dp+1):=zaW (by decide) (by omega)
  have m2:2^(r.dp+1)<=2^(max l.dp r.dp+1):=zaW (by decide) (by omega)
  have e:2^(1+max l.dp r.dp+1)=2^(max l.dp r.dp+1)+2^(max l.dp r.dp+1):=by rw[Nat.add_comm 1,Nat.pow_succ _ (max l.dp r.dp+1)];omega
  omega
theorem vC{x:Sy}(h:x.dp<=15):(ba x).size<=100000:=by
 have h1:=iw x;have h2:2^(x.dp+1)<=2^16:=zaW (by decide) (by omega)
 have h3:2^16=65536:=by decide
 omega
noncomputable def qg:Tr->Sy
 |.lf [_,.int i,.int b]=>.is i b
 |.lf _=>.is 0 0
 |.nd x l r=>.jn (match x with | [.str z]=>z == "and"|_=>false) (qg l) (qg r)
theorem pj:∀x:Sy,qg (ba x)=x
 |.is i b=>rfl
 |.jn a l r=>by
  simp only[ba,qg,pj l,pj r];cases a<;>simp<;>decide +kernel
theorem lU{n:Nat}:∀ {x:Sy} {e:Tr},x.ok n->e∈(ba x).post->∃y:Sy,e=ba y/\y.ok n
 |.is i b,e,h,he=>by simp[ba,Tr.post] at he;exact⟨.is i b,he,h⟩
 |.jn a l r,e,h,he=>by
  simp only[ba,Tr.post,zaL,zaT] at he;rcases he with(he|he)|he
  ·exact lU h.1 he
  ·exact lU h.2 he
  ·exact⟨.jn a l r,he,h⟩
theorem IW{n:Nat}{x:Sy}{q:List D}(h:x.ok n)(he:Tr.lf q∈(ba x).post):∃i b,q=[.str "is",.int i,.int b]/\(Sy.is i b).ok n:=by
 obtain⟨y,e,hy⟩:=lU h he
 cases y with
 |is i b=>simp only[ba,Tr.lf.injEq] at e;exact⟨i,b,e,hy⟩
 |jn a l r=>cases e
theorem Jk{n:Nat}{x:Sy}{q:List D}{l r:Tr}(h:x.ok n)(he:Tr.nd q l r∈(ba x).post):∃(a:Bool)(l' r':Sy),q=[.str (if a then "and" else "or")]/\l=ba l'/\r=ba r':=by
 obtain⟨y,e,hy⟩:=lU h he
 cases y with
 |is i b=>cases e
 |jn a l' r'=>simp only[ba,Tr.nd.injEq] at e;exact⟨a,l',r',e⟩
noncomputable def GO:ASp:=fun xs Z Q=>∃(x:Sy)(wd:List Int),xs=[.d x.d,.d (wdD wd)]/\x.ok wd.length/\x.dp<=15/\Q (.d (.int (b01 (x.val wd)))) Z
noncomputable def uE(cA:List AV):ASp:=fun xs Z Q=>∃(i b:Int)(wd:List Int),cA=[.d (wdD wd)]/\xs=[.d (Sy.is i b).d]/\(Sy.is i b).ok wd.length/\Q (.d (.int (b01 ((Sy.is i b).val wd)))) Z
noncomputable def lc(_:List AV):ASp:=fun xs Z Q=>∃(a:Bool)(l r:D)(x y:Bool),xs=[.d (.tup [.str (if a then "and" else "or"),l,r]),.d (.int (b01 x)),.d (.int (b01 y))]/\Q (.d (.int (b01 (if a then x && y else x || y)))) Z
theorem FY(T:Txt K mg t):a7 P w K mg base CX0 6 t.dN t.lZ ["saying","word"] (c9 GO):=by
 have G_folded:∀b',a7 P w K mg b' CX0 4 t.dR t.jw ["tree","leaf","of_leaf","of_fork"] (rd 1 P w K mg b'):=fun b'=>C2 1 T;refine T.gP.okD Cd (fun xs Z Q h=>by obtain⟨x,wd,rfl,_⟩:=h;rfl) (fun A outer s H E hr=>?_)
 refine⟨_,_,(ak (aG (CU G_folded (hr.mono (by omega)) (by rfl) T.Bb T.BL T.BG (ab (pv 0) (aS aQ (ab (zR (x:="value") rfl rfl T.gP.tab T.gP.hd rfl) (ab (zR (x:="value") rfl rfl T.gP.tab T.gP.hd rfl) af))))))),(a0 (Hl (j1:=[1]) (j2:=[]) (s1:=uE) (s2:=lc) ?F0 ?F1 aa bz)),fun xs Z Q h=>?main⟩
 case F0=>
  intro b' H f σ caps cA L cb hc hl;obtain⟨v,rfl⟩:∃v,caps=[v]:=List.length_eq_one_iff.mp hc.1;obtain⟨wc,wu,hwc,hcell,hrel⟩:=cb 1 "word" v rfl (hc.2 0 1 v rfl rfl) rfl rfl;obtain rfl:s.heap.objs.size+1=wc:=zbj hwc;refine wJ (ps:=["leaf"]) (cs:=["word"]) L ⟨rfl,rfl,rfl,by decide +kernel,by decide +kernel,by decide +kernel,by decide +kernel⟩ (F7 hcell hrel) (fun pm c ctv=>Gy fun _=>rfl) (fun xs Z Q h=>by obtain⟨i,b,m,_,rfl,_⟩:=h;rfl) (fun cd A outer s H hr=>⟨_,_,(jR (aF (bQ hr.Kx) (bL (aP K rfl) (pv 1) (bL (aP K rfl) (pv 0) ai (fun _ _=>rfl)) (fun _ _=>rfl)) (bL (aP K rfl) (pv 0) ai (fun _ _=>rfl)) (aR _)) ai ai),(Ee (aL (aq bR (aq dB aa (aq dB aa ap)) (aq dB aa ap))) ap ap),fun xs Z Q h=>?_⟩)
  obtain⟨i,b,wd,rfl,rfl,⟨i0,i1,hb⟩,q⟩:=h;simp only[Sy.d];walk_at "ab";obtain⟨y,my,hy,ey⟩:=DX (f:=AV.d ∘ D.int) (xs:=wd) i0 i1;rw[←zaO] at ey
  refine⟨_,ey,_,rfl,by simp[dep],?_⟩
  have ev:wd.getD i.toNat 0=y:=by rw[zag,hy];rfl
  simp only[Sy.val,ev] at q;by_cases h:y=b
  ·simpa[h,b01,cL] using q
  ·simpa[h,b01,cL] using q
 case F1=>
  intro b' H f σ caps cA L cb hc hl;obtain rfl:caps=[]:=zbw.mp (hc.1);refine wJ (ps:=["part","one","other"]) (cs:=[]) L ⟨rfl,rfl,rfl,by decide +kernel,by decide +kernel,by decide +kernel,by decide +kernel⟩ (Kf b') (fun pm c ctv=>Hb fun _ _ _=>rfl) (fun xs Z Q h=>by obtain⟨a,l,r,x,y,rfl,_⟩:=h;rfl) (fun cd A outer s H hr=>⟨_,_,(jR (aF (bQ hr.Kx) (bL (aP K rfl) (pv 0) ai (fun _ _=>rfl)) aQ (aR _)) (aM (yX rfl) (by rfl) T.IV (by kernel_rfl) (ab (pv 1) (ab (pv 2) af))) (aM (kr rfl) (by rfl) T.AH (by kernel_rfl) (ab (pv 1) (ab (pv 2) af)))),(Ee (aL (aq bR (aq dB aa ap) bz)) (cI DJ (ae aa (ae aa aj))) (cI DJ (ae aa (ae aa aj)))),fun xs Z Q h=>?_⟩)
  obtain⟨a,l,r,x,y,rfl,q⟩:=h;cases a
  ·simp only[zaP,zak] at q ⊢
   walk_at "ab";rw[show (if b01 y>b01 x then b01 y else b01 x)=b01 (x || y) from by cases x<;>cases y<;>rfl]
   exact q
  ·simp only[zaX] at q ⊢
   walk_at "ab";rw[show (if b01 y<b01 x then b01 y else b01 x)=b01 (x && y) from by cases x<;>cases y<;>rfl]
   exact q
 case main=>
  obtain⟨x,wd,rfl,hx,hd,k⟩:=h;walk_at "ab";refine⟨ba x,(vS x).symm,qJ x,vC hd,fun e=>.int (b01 ((qg e).val wd)),_,rfl,[],rfl,fun q he Z1 Q1 h=>?_,fun q l r he Z1 Q1 h=>?_,?_⟩
  ·obtain⟨i,b,rfl,ho⟩:=IW hx he
   exact⟨i,b,wd,rfl,rfl,ho,h⟩
  ·obtain⟨a,l',r',rfl,rfl,rfl⟩:=Jk hx he
   have h:Q1 (.d (.int (b01 ((qg (ba (.jn a l' r'))).val wd)))) Z1:=h;rw[pj] at h;show lc [] [_,.d (.int (b01 ((qg (ba l')).val wd))),.d (.int (b01 ((qg (ba r')).val wd)))] Z1 Q1;rw[pj,pj];exact⟨a,(ba l').d,(ba r').d,_,_,rfl,h⟩
  ·rw[aW]
   show Q (.d (.int (b01 ((qg (ba x)).val wd)))) Z;rw[pj];exact k
noncomputable def Gr:ASp:=fun xs Z Q=>∃n:Nat,xs=[.d (.int n)]/\n<=5/\Q (.d (.lst ((wl n).map wdD))) Z
theorem Dr(ws:List (List Int)):(ws.flatMap fun w=>[w++[0],w++[1]]).length=2*ws.length:=by
 induction ws with
 |nil=>rfl
 |cons a r ih=>rw[zdL,zaw,ih];simp;omega
theorem DB(T:Txt K mg t):a7 P w K mg base CX0 1 t.cg t.gW ["places"] (c9 Gr):=by
 refine T.rR.okD ee (fun xs Z Q h=>by obtain⟨n,rfl,_⟩:=h;rfl) (fun cdv A outer s H E hr=>⟨_,_,(ag (aO (i:=1) ee.nd rfl (Or.inl rfl) (du (jM (cu af) af)))
   (ag (eQ zbg rfl (ck rfl T.dm (ab (pv 0) af)) (au (i:=2) ee.nd rfl (Or.inl rfl)) (ak (xD (i:=1) ee.nd rfl (Or.inl rfl) (N:=(["word","bit"] : List Str)) (src:=[none,none]) rfl (by show cf _ (defScope fg) _ _ (["places","words","place"] : List Str) = true;decide +kernel) (by intro g' h;cases h;rfl) (cy K rfl (pv 1)) (fun _ _ _ _ _ _=>(au (i:=0) (show (["word","bit"] : List Str).Nodup by decide +kernel) rfl (Or.inl rfl))) (fun _ _ _ _ _ _=>bB) (fun _ _ _ _ _ _=>(uT rfl rfl rfl (by intro g' h;cases h) (cy K rfl (cu (aS ai (aS ai af)))) (au (i:=1) (show (["word","bit"] : List Str).Nodup by decide +kernel) rfl (Or.inl rfl)) bB (bV rfl rfl (aE (aT dh (aT ca de)) (pv 0) (cu (ab (pv 1) af)))))))))
   (ak (aG (pv 1))))),(aw (aZ (kU (ae (dY aj) aj)) am)
   (aw (gJ (gu (ae aa aj)) am (aZ (dW (fF aa) am gF (zE (fF (dY (ae ap (ae ap aj)))) am gF (cN (aq fe aa (dY (ae aa aj)))))) am))
   (a0 aa))),fun xs Z Q h=>?_⟩)
 obtain⟨n,rfl,hn,k⟩:=h;walk_at "s1";walk_at "s1";refine⟨by omega,by omega,io (fun i ρ Z'=>Z'=Z/\∃v2,ρ=[some (.d (.int n)),some (.d (.lst ((wl i).map wdD))),v2]) ⟨rfl,_,rfl⟩ ?_ ?_⟩
 ·rintro i ρ Z1 N hi ⟨rfl,v2,rfl⟩ kN
  have hw:=FI (n:=i) (by omega)
  walk_at "a1";refine CO (fun j xs ρ Z'=>Z'=Z1/\(∃v v',ρ=[v,v'])/\xs=((((wl i).take j).flatMap fun w=>[w++[0],w++[1]]).map wdD).map AV.d) ⟨rfl,⟨_,_,rfl⟩,rfl⟩ ?_ ?_
  ·rintro j d xs ρ Z' N hd ⟨rfl,⟨v,v',rfl⟩,rfl⟩ kN2
   obtain⟨x,hx,rfl⟩:=eh hd;have hx1:=(jY (zaz hx)).1;have hj:=(zav.mp hx).1
   have et:(((wl i).take (j+1)).flatMap fun w=>[w++[0],w++[1]])=((wl i).take j).flatMap (fun w=>[w++[0],w++[1]])++[x++[0],x++[1]]:=by
    rw[zbU,hx,List.flatMap_append];simp
   have hl2:=Dr ((wl i).take j);rw[zbh] at hl2;walk_at "ab";exact⟨Ch (m:=0) (by omega),aV (by omega),Ch (m:=0) (by omega),aV (by omega),kN2 _ _ _ ⟨rfl,⟨_,_,rfl⟩,by rw[et];simp⟩⟩
  ·rintro xs ρ Z' ⟨rfl,_,rfl⟩
   rw[zaA,zbC];refine⟨_,be _,kN _ _ ⟨rfl,_,rfl⟩⟩
 ·rintro ρ Z1 ⟨rfl,v2,rfl⟩
  walk_at "a1";rw[aW];exact k
noncomputable def wor(n:Nat)(x:Sy):List Int:=(wl n).map fun v=>b01 (x.val v)
noncomputable def Hz:ASp:=fun xs Z Q=>∃(n:Nat)(x:Sy),xs=[.d (.int n),.d x.d]/\n<=5/\x.ok n/\x.dp<=15/\Q (.d (wdD (wor n x))) Z
theorem HH(T:Txt K mg t):a7 P w K mg base CX0 7 t.cR t.iV ["places","saying"] (c9 Hz):=by
 have G_value:a7 P w K mg base _ _ _ _ _ _:=FY T;have G_all_words:a7 P w K mg base _ _ _ _ _ _:=DB T;refine T.vd.okD rS (fun xs Z Q h=>by obtain⟨n,x,rfl,_⟩:=h;rfl) (fun cdv A outer s H E hr=>⟨_,_,(ak (aG (cV (dc K rfl) (by rfl) T.ig (by kernel_rfl) (ab (cq (N:=(["word","saying"]:List Str)) (src:=[none,some 1]) rfl (by show cf _ (defScope gv) _ _ (["places","saying"]:List Str)=true;decide +kernel) (by intro g' h;cases h) (cy K rfl (aH G_all_words (hr.mono (by omega)) (by rfl) T.uc T.sB T.ug .nil br (ab (pv 0) af))) (fun _ _ _ _ _ _=>(au (i:=0) (show (["word","saying"]:List Str).Nodup by decide +kernel) rfl (Or.inl rfl))) (fun _ _ _ _ _ _=>bB) (fun _ _ _ _ _ _=>(bV rfl rfl (aH G_value (hr.mono (by omega)) (by rfl) T.Eb T.Dl T.qj .nil br (ab (pv 1) (ab (pv 0) af)))))) af)))),(a0 (cI mj (ae (dW (fF (aX (ae aa aj))) am gF (cN (aX (ae aa (ae aa aj))))) aj))),fun xs Z Q h=>?_⟩)
 obtain⟨n,x,rfl,hn,hx,hd,k⟩:=h;have hl:=FI hn;walk_at "a1";refine⟨n,rfl,hn,?_⟩;walk_at "a1";refine eA (rs:=(wor n x).map D.int) (by simp[wor]) (zbd (aV (by simp;omega))) (fun j a r h1 h2 Q q=>?_) (fun ρ=>⟨_,be _,?_⟩)
 ·simp only[wor,zaO,zam,zas] at h1 h2
  obtain⟨y,hy,rfl⟩:=h1;obtain⟨y',hy',rfl⟩:=h2;rw[hy] at hy';cases hy';simp only[zaV] at q ⊢;walk_at "a1";exact⟨x,y,rfl,by rw[(jY (zaz hy)).1];exact hx,hd,q⟩
 ·rw[aW]
  exact k
theorem sw{b:Bool}{x y:Str}(hn:y≠x):((if b=true then x else y)=x)↔b=true:=by cases b<;>simp[hn]
noncomputable def ptN(lv:Bool)(a b:Nat):Nat:=if lv then a+b else 1+max a b
noncomputable def IK:ASp:=fun xs Z Q=>∃(lv:Bool)(a b:Nat),xs=[.d (.str (if lv then "leaves" else "depth")),.d (.int a),.d (.int b)]/\Q (.d (.int (ptN lv a b))) Z
theorem Jc(T:Txt K mg t):a7 P w K mg base CX0 1 t.bx t.eT ["by","one","other"] (c9 IK):=by
 refine T.om.okD lL (fun xs Z Q h=>by obtain⟨lv,a,b,rfl,_⟩:=h;rfl) (fun cdv A outer s H E hr=>⟨_,_,(ak (aG (jR (aF (bQ hr.Kx) (pv 0) aQ (aR _)) (aE (aT dh (aT ca de)) (pv 1) (pv 2)) (aE (aT dh (aT ca de)) ai (aM (kr rfl) (by rfl) T.AH (by kernel_rfl) (ab (pv 1) (ab (pv 2) af))))))),(a0 (Ee (aL (aq bR aa bz)) (aq fe aa aa) (aq fe ap (cI DJ (ae aa (ae aa aj)))))),fun xs Z Q h=>?_⟩)
 obtain⟨lv,a,b,rfl,k⟩:=h;walk_at "a1";rw[aW];have em:(if (b:Int)>a then (b:Int) else a)=((max a b:Nat):Int):=by split<;>omega
 rw[em]
 cases lv with
 |true=>rw[zaf rfl];exact k
 |false=>
  rw[zad (by decide +kernel)]
  have e:(1:Int)+((max a b:Nat):Int)=((ptN false a b:Nat):Int):=by simp[ptN]
  rw[e];exact k
theorem CF{α β:Type}{f:α->List β}{m:Nat}(h:∀i,(f i).length<=m):∀l:List α,(l.flatMap f).length<=m*l.length
 | []=>by simp
 |a::l=>by
  have h1:=h a;have h2:=CF h l;rw[zdL,zaw,zaJ,Nat.mul_add];omega
noncomputable def fT(ri:Bool):List Int:=if ri then [1] else [0,1]
noncomputable def rK(n:Nat)(ri:Bool):List Sy:=(List.range n).flatMap fun(i:Nat)=>(fT ri).map fun b=>Sy.is (i:Int) b
noncomputable def Gw:ASp:=fun xs Z Q=>∃(n:Nat)(ri:Bool),xs=[.d (.int n),.d (.str (if ri then "rising" else "any"))]/\n<=5/\Q (.d (.lst ((rK n ri).map Sy.d))) Z
theorem GS(T:Txt K mg t):a7 P w K mg base CX0 1 t.bS t.gy ["places","rule"] (c9 Gw):=by
 refine T.re.okD iO (fun xs Z Q h=>by obtain⟨n,ri,rfl,_⟩:=h;rfl) (fun cdv A outer s H E hr=>⟨_,_,(ag (aO (i:=2) iO.nd rfl (Or.inr rfl) (jR (aF (bQ hr.Kx) (pv 1) aQ (aR _)) (cu (aS ai af)) (cu (aS ai (aS ai af)))))
   (ak (aG (cq (N:=(["place","bit","bits"]:List Str)) (src:=[none,none,some 2]) rfl (by show cf _ (defScope dZ) _ _ (["places","rule","bits"]:List Str)=true;decide +kernel) (by intro g' h;cases h;rfl) (ck rfl T.dm (ab (pv 0) af)) (fun _ _ _ _ _ _=>(au (i:=0) (show (["place","bit","bits"]:List Str).Nodup by decide +kernel) rfl (Or.inl rfl))) (fun _ _ _ _ _ _=>bB) (fun _ _ _ _ _ _=>(uT rfl rfl rfl (by intro g' h;cases h) (cy K rfl (pv 2)) (au (i:=1) (show (["place","bit","bits"]:List Str).Nodup by decide +kernel) rfl (Or.inl rfl)) bB (bV rfl rfl (cu (aS aQ (ab (pv 0) (ab (pv 1) af))))))))))),(aw (aZ (Ee (aL (aq bR aa bz)) (dY (ae ap aj)) (dY (ae ap (ae ap aj)))) am)
   (a0 (dW (gu (ae aa aj)) am gF (zE (fF aa) am gF (cN (dY (ae bz (ae aa (ae aa aj))))))))),fun xs Z Q h=>?_⟩)
 obtain⟨n,ri,rfl,hn,k⟩:=h;refine jx (fun ρ' Z'=>Z'=Z/\ρ'=[some (.d (.int n)),some (.d (.str (if ri then "rising" else "any"))),some (.d (wdD (fT ri)))]) ?_ ?_
 ·walk_at "a1"
  intro N kN
  cases ri with
  |true=>rw[zaf rfl];exact kN _ _ ⟨rfl,rfl⟩
  |false=>rw[zad (by decide +kernel)];exact kN _ _ ⟨rfl,rfl⟩
 ·rintro ρ' Z' ⟨rfl,rfl⟩
  walk_at "a1";refine⟨by omega,by omega,?_⟩
  have hb:(fT ri).length<=2:=by unfold fT;split<;>simp
  refine l9 (fun j xs ρ Z1=>Z1=Z'/\(∃v v',ρ=[v,v',some (.d (wdD (fT ri)))])/\xs=((((List.range n).take j).flatMap fun(i:Nat)=>(fT ri).map fun b=>Sy.is (i:Int) b).map Sy.d).map AV.d) ⟨rfl,⟨_,_,rfl⟩,rfl⟩ ?_ ?_
  ·rintro j a xs ρ Z1 N ha ⟨rfl,⟨v,v',rfl⟩,rfl⟩ kN
   unfold dD at ha;rw[zam,zas] at ha;obtain⟨i,hi,rfl⟩:=ha;have hj:=(zav.mp hi).1;rw[zcG] at hj
   have et:(((List.range n).take (j+1)).flatMap fun(i:Nat)=>(fT ri).map fun b=>Sy.is (i:Int) b)=(((List.range n).take j).flatMap fun(i:Nat)=>(fT ri).map fun b=>Sy.is (i:Int) b)++(fT ri).map fun b=>Sy.is (i:Int) b:=by
    rw[zbU,hi,List.flatMap_append];simp
   rw[et] at kN;simp only[iB,zdD];walk_at "a1";have hz:∀m,m<=40->m<sizeLine:=fun m h=>aV (by omega)
   have hl:=CF (f:=fun(i:Nat)=>(fT ri).map fun b=>Sy.is (i:Int) b) (m:=2) (fun i=>by rw[zaA];exact hb) ((List.range n).take j)
   rw[zbh,zcG] at hl
   cases ri with
   |true=>
    simp only[fT,zaX,zah,zbQ] at hl kN ⊢;walk_at "ab";exact⟨hz _ (by omega),kN _ _ _ ⟨rfl,⟨_,_,rfl⟩,by simp[Sy.d]⟩⟩
   |false=>
    simp only[fT,zak,zaP,zah,zbQ] at hl kN ⊢;walk_at "ab";exact⟨hz _ (by omega),hz _ (by omega),kN _ _ _ ⟨rfl,⟨_,_,rfl⟩,by simp[Sy.d]⟩⟩
  ·rintro xs ρ Z1 ⟨rfl,_,rfl⟩
   rw[show (dD 0 n).length=n from by simp[dD],List.take_of_length_le (by simp)]
   refine⟨_,be _,?_⟩;rw[aW];exact k
noncomputable def cD(lv:Bool)(m:Nat):List (Nat×Nat):=if lv then (List.range (m / 2)).map fun i=>(i+1,m-(i+1)) else (List.range m).map fun i=>(i,m-1)
noncomputable def wyD(p:Nat×Nat):D:=.tup [.int (p.1:Nat),.int (p.2:Nat)]
noncomputable def GG:ASp:=fun xs Z Q=>∃(lv:Bool)(m:Nat),xs=[.d (.str (if lv then "leaves" else "depth")),.d (.int m)]/\m<=300/\Q (.d (.lst ((cD lv m).map wyD))) Z
theorem GD(T:Txt K mg t):a7 P w K mg base CX0 1 t.eX t.nk ["by","number"] (c9 GG):=by
 refine T.A5.okD zp (fun xs Z Q h=>by obtain ⟨lv,m,rfl,_⟩:=h;rfl) (fun cdv A outer s H E hr=>⟨_,_,(ag (bM (aF (bQ hr.Kx) (pv 0) aQ (aR _)) (ak (aG (cq (N:=(["one","number"] : List Str)) (src:=[none,some 1]) rfl (by show cf _ (defScope g0) _ _ (["by","number"] : List Str) = true;decide +kernel) (by intro g' h;cases h) (pY rfl T.dm (aS ai (ab (aE (aT dh (aT ca de)) (aE mf (pv 1) ai) ai) af))) (fun _ _ _ _ _ _=>(au (i:=0) (show (["one","number"] : List Str).Nodup by decide +kernel) rfl (Or.inl rfl))) (fun _ _ _ _ _ _=>bB) (fun _ _ _ _ _ _=>(bV rfl rfl (cu (ab (pv 0) (ab (aE nO (pv 1) (pv 0)) af)))))))) a9)
   (ak (aG (cq (N:=(["one","number"]:List Str)) (src:=[none,some 1]) rfl (by show cf _ (defScope g0) _ _ (["by","number"]:List Str)=true;decide +kernel) (by intro g' h;cases h) (ck rfl T.dm (ab (pv 1) af)) (fun _ _ _ _ _ _=>(au (i:=0) (show (["one","number"]:List Str).Nodup by decide +kernel) rfl (Or.inl rfl))) (fun _ _ _ _ _ _=>bB) (fun _ _ _ _ _ _=>(bV rfl rfl (cu (ab (pv 0) (ab (aE nO (pv 1) ai) af))))))))),(aw (dC (aL (aq bR aa bz)) (a0 (dW (Cb (ae ap (ae (aq fe (aq er aa ap) ap) aj))) am gF (cN (dY (ae aa (ae (aq dX aa aa) aj)))))) bw)
   (a0 (dW (gu (ae aa aj)) am gF (cN (dY (ae aa (ae (aq dX aa ap) aj))))))),fun xs Z Q h=>?_⟩)
 obtain⟨lv,m,rfl,hm,k⟩:=h;walk_at "s1";refine fc (fun h=>?_) (fun h=>?_)
 ·cases (sw (by decide +kernel)).mp h
  have e:((m:Int) / 2+1-1).toNat=m / 2:=by omega
  refine⟨⟨by decide,by decide⟩,by omega,by omega,by omega,by omega,?_⟩
  rw[e];refine eA (rs:=(cD true m).map wyD) (by simp[cD,dD]) (zbd (aV (by simp[dD];omega))) (fun j a r h1 h2 Q q=>?_) (fun ρ=>⟨_,be _,?_⟩)
  ·simp only[dD,cD,zaX,zaO,zam,zas] at h1 h2
   obtain⟨y,hy,rfl⟩:=h1;obtain⟨y',hy',rfl⟩:=h2;rw[hy] at hy';cases hy';have hyn:=zbk.mp (zaz hy);simp only[zaV,wyD] at q ⊢;walk_at "a1";have e1:(1:Int)+(y:Nat)=((y+1:Nat):Int):=by omega
   have e2:(m:Int)-((y+1:Nat):Int)=((m-(y+1):Nat):Int):=by omega
   rw[e1,e2];exact q
  ·rw[aW]
   exact k
 ·have h':lv=false:=by simpa using fun z=>h ((sw (by decide +kernel)).mpr z)
  subst h';refine⟨by omega,by omega,eA (rs:=(cD false m).map wyD) (by simp[cD,dD]) (zbd (aV (by simp[dD];omega))) (fun j a r h1 h2 Q q=>?_) (fun ρ=>⟨_,be _,?_⟩)⟩
  ·simp only[dD,cD,zak,zaP,zaO,zam,zas] at h1 h2
   obtain⟨y,hy,rfl⟩:=h1;obtain⟨y',hy',rfl⟩:=h2;rw[hy] at hy';cases hy';have hyn:=zbk.mp (zaz hy);simp only[zaV,wyD] at q ⊢;walk_at "a1";have e1:(0:Int)+(y:Nat)=(y:Nat):=by omega
   have e2:(m:Int)-1=((m-1:Nat):Int):=by omega
   rw[e1,e2];exact q
  ·rw[aW]
   exact k
noncomputable def jT(a:Bool)(s t:List Int):List Int:=List.zipWith (fun x y=>if a then Builtin.bitAnd x y else Builtin.bitOr x y) s t
noncomputable def IA:ASp:=fun xs Z Q=>∃(a:Bool)(x y:List Int),xs=[.d (.str (if a then "and" else "or")),.d (wdD x),.d (wdD y)]/\x.length=y.length/\x.length<=32/\Q (.d (wdD (jT a x y))) Z
theorem IF(T:Txt K mg t):a7 P w K mg base CX0 1 t.bu t.eW ["join","one","other"] (c9 IA):=by
 refine T.mM.okD lK (fun xs Z Q h=>by obtain ⟨a,x,y,rfl,_⟩:=h;rfl) (fun cdv A outer s H E hr=>⟨_,_,(ag (bM (aF (bQ hr.Kx) (pv 0) aQ (aR _)) (ak (aG (cV (dc K rfl) (by rfl) T.ig (by kernel_rfl) (ab (cq (N:=(["left","right"] : List Str)) (src:=[none,none]) rfl (by show cf _ (defScope cj) _ _ (["join","one","other"] : List Str) = true;decide +kernel) (by intro g' h;cases h) (wF K rfl (by rfl) T.Fe (ab (pv 1) (ab (pv 2) af))) (fun _ _ _ _ _ _=>(gl K rfl (n:=2) rfl (bf (au (i:=0) (show (["left","right"] : List Str).Nodup by decide +kernel) rfl (Or.inl rfl)) (bf (au (i:=1) (show (["left","right"] : List Str).Nodup by decide +kernel) rfl (Or.inl rfl)) gn)))) (fun _ _ _ _ _ _=>bB) (fun _ _ _ _ _ _=>(bV rfl rfl (aE j0 (pv 0) (pv 1))))) af)))) a9)
   (ak (aG (cV (dc K rfl) (by rfl) T.ig (by kernel_rfl) (ab (cq (N:=(["left","right"]:List Str)) (src:=[none,none]) rfl (by show cf _ (defScope cj) _ _ (["join","one","other"]:List Str)=true;decide +kernel) (by intro g' h;cases h) (wF K rfl (by rfl) T.Fe (ab (pv 1) (ab (pv 2) af))) (fun _ _ _ _ _ _=>(gl K rfl (n:=2) rfl (bf (au (i:=0) (show (["left","right"]:List Str).Nodup by decide +kernel) rfl (Or.inl rfl)) (bf (au (i:=1) (show (["left","right"]:List Str).Nodup by decide +kernel) rfl (Or.inl rfl)) gn)))) (fun _ _ _ _ _ _=>bB) (fun _ _ _ _ _ _=>(bV rfl rfl (aE xQ (pv 0) (pv 1))))) af))))),(aw (dC (aL (aq bR aa bz)) (a0 (cI mj (ae (dW (Fx (ae aa (ae aa aj))) (ms (ci am (ci am nW))) gF (cN (aq dX aa aa))) aj))) bw)
   (a0 (cI mj (ae (dW (Fx (ae aa (ae aa aj))) (ms (ci am (ci am nW))) gF (cN (aq dX aa aa))) aj)))),fun xs Z Q h=>?_⟩)
 obtain⟨a,x,y,rfl,hl,h32,k⟩:=h;have hz:∀f:Int->Int->Int,(List.zipWith f x y).length<=sizeLine:=fun f=>zbd (aV (by simp;omega))
 have st:∀f:Int->Int->Int,∀(te:AE)(K:List AV->SA->Om->Prop),(∀(b c:Int)(Q:AV->Om->Prop),Q (.d (.int (f b c))) Z->te [some (.d (.int b)),some (.d (.int c))] Z Q)->(∀ρ,K ((List.zipWith f x y).map (AV.d ∘ D.int)) ρ Z) ->
   bK (w6 2 (kn (eV 0) (kn (eV 1) yx))) eg (jQ te) (mZ (x.map D.int) (y.map D.int)) [] [none,none] Z K:=fun f te K ht hk=>by
  refine Ak (rs:=(List.zipWith f x y).map D.int) (by simp;omega) (by simp;omega) (by rw[zaA];exact hz f) (fun i d e r h1 h2 h3 Q q=>?_) (fun ρ=>by rw[zaO];exact hk ρ)
  obtain⟨b,hb,rfl⟩:=L2.eh h1;obtain⟨c,hc,rfl⟩:=L2.eh h2;rw[zam,List.getElem?_zipWith,hb,hc] at h3;cases h3;exact ht b c Q q
 walk_at "s1";refine fc (fun h=>?_) (fun h=>?_)
 ·cases (sw (by decide +kernel)).mp h
  refine st Builtin.bitAnd _ _ (fun b c Q q=>by walk_at "a1";exact q) fun ρ=>⟨_,by rw[←zaO];exact be _,?_⟩
  rw[aW];exact k
 ·have h':a=false:=by simpa using fun z=>h ((sw (by decide +kernel)).mpr z)
  subst h';refine st Builtin.bitOr _ _ (fun b c Q q=>by walk_at "a1";exact q) fun ρ=>⟨_,by rw[←zaO];exact be _,?_⟩
  rw[aW];exact k
noncomputable abbrev Ca:=List (List Int×Sy)
noncomputable def aA(F:Ca):List (D×AV):=F.map fun p=>(wdD p.1,.d p.2.d)
noncomputable def look(F:Ca)(u:List Int):Option Sy:=(F.find? fun p=>decide (p.1=u)).map (·.2)
noncomputable def lk(F:Ca)(u:List Int):Sy:=(look F u).getD (.is 0 0)
theorem wL(a b:List Int):eqD (wdD a) (wdD b)=decide (a=b):=si 0 a b
theorem fX(F:Ca)(u:List Int):iH (aA F) (wdD u)=(look F u).map fun x=>AV.d x.d:=by
 unfold iH aA look;rw[List.find?_map,Option.map_map,Option.map_map]
 congr 1
 congr 1
 funext p
 simp only[zaV,wL]
theorem kP{F:Ca}{u:List Int}(h:look F u=none)(x:Sy):kJ (aA F) (wdD u) (.d x.d)=aA (F++[(u,x)]):=by
 have h':(F.find? fun p=>decide (p.1=u))=none:=by simpa[look] using h
 unfold kJ aA
 rw [zad (by
  rw[List.any_map];intro z;obtain⟨p,hp,e⟩:=List.any_eq_true.mp z;simp only[zaV,wL] at e
  exact absurd e (List.find?_eq_none.mp h' p hp))]
 simp
theorem dr(F:Ca):KyD (some 0) (aA F):=fun p hp=>by
 obtain⟨q,_,rfl⟩:=zal.mp hp;exact⟨by decide,q.1,rfl⟩
theorem nS(u:List Int):Ky (some 0) (wdD u):=⟨by decide,u,rfl⟩
noncomputable def dz:Nat->List (List (List Int))->List (D×AV)
 |_,[]=>[]
 |a,l::r=>(.int a,.d (.lst (l.map wdD)))::dz (a+1) r
noncomputable def lev(a:Nat)(Ls:List (List (List Int)))(k:Nat):List (List Int):=(Ls[k-a]?).getD []
theorem lR:∀(Ls:List (List (List Int))) (a k:Nat),a<=k->k<a+Ls.length->iH (dz a Ls) (.int k)=some (.d (.lst ((lev a Ls k).map wdD)))
 | [],a,k,h1,h2=>by simp at h2;omega
 |l::r,a,k,h1,h2=>by
  by_cases hk:k=a
  ·subst hk
   simp[iH,dz,lev,cL]
  ·have ih:=lR r (a+1) k (by omega) (by rw[zaJ] at h2;omega)
   have e:eqD (.int (a:Nat)) (.int (k:Nat))=false:=by rw[cL];simp;omega
   have e2:lev a (l::r) k=lev (a+1) r k:=by
    unfold lev;rw[show k-a=(k-(a+1))+1 from by omega,zdJ]
   rw[e2,←ih]
   simp[iH,dz,zaR,e]
theorem mQ:∀(Ls:List (List (List Int))) (a:Nat),KyD none (dz a Ls)
 | [],a,p,hp=>by cases hp
 |l::r,a,p,hp=>by
  rcases zay.mp hp with rfl|hp
  ·exact⟨a,rfl⟩
  ·exact mQ r (a+1) p hp
theorem xf:∀(Ls:List (List (List Int))) (a:Nat),(dz a Ls).length=Ls.length
 | [],a=>rfl
 |l::r,a=>by simp[dz,xf r (a+1)]
theorem wS:∀(Ls:List (List (List Int))) (a k:Nat),a+Ls.length<=k->((dz a Ls).any fun p=>eqD p.1 (.int k))=false
 | [],a,k,h=>rfl
 |l::r,a,k,h=>by
  rw[zaJ] at h;have e:eqD (.int (a:Nat)) (.int (k:Nat))=false:=by rw[cL];simp;omega
  simp only[dz,zbz,e,zcX];exact wS r (a+1) k (by omega)
theorem xM:∀(Ls:List (List (List Int))) (a:Nat) (l:List (List Int)),dz a (Ls++[l])=dz a Ls++[(.int ((a+Ls.length:Nat):Int),.d (.lst (l.map wdD)))]
 | [],a,l=>by simp[dz]
 |m::r,a,l=>by
  simp only[zbD,dz,xM r (a+1) l,zaJ];rw[show a+1+r.length=a+(r.length+1) from by omega]
theorem Dp(Ls:List (List (List Int)))(a:Nat)(l:List (List Int)):kJ (dz a Ls) (.int ((a+Ls.length:Nat):Int)) (.d (.lst (l.map wdD)))=dz a (Ls++[l]):=by
 unfold kJ;rw[zad (by rw[wS Ls a _ (zaj _)];decide),xM]
noncomputable def ncT(u:List Int):Bool:=decide (0∈u) && decide (1∈u)
noncomputable def stJ(F:Ca)(s u:List Int)(G:Ca)(j:Bool):Ca:=
 if (look F (jT j s u)).isNone=true/\(look G (jT j s u)).isNone=true/\ncT (jT j s u)=true then G++[(jT j s u,.jn j (lk F s) (lk F u))] else G
noncomputable def stO(F:Ca)(s:List Int)(G:Ca)(u:List Int):Ca:=stJ F s u (stJ F s u G true) false
noncomputable def stW(F:Ca)(a:Nat)(Ls:List (List (List Int)))(G:Ca)(p:Nat×Nat):Ca:=(lev a Ls p.1).foldl (fun G s=>(lev a Ls p.2).foldl (stO F s) G) G
noncomputable def pit(F:Ca)(a:Nat)(Ls:List (List (List Int)))(ws:List (Nat×Nat)):Ca:=ws.foldl (stW F a Ls) []
noncomputable def GOk(m:Nat)(G:Ca):Prop:=(G.map (·.1)).Nodup/\∀p∈G,p.1.length=m/\∀b∈p.1,b=0\/b=1
noncomputable def TOk(m:Nat)(s:List Int):Prop:=s.length=m/\∀b∈s,b=0\/b=1
theorem jP:∀ {n:Nat} {w:List Int},w.length=n->(∀x∈w,x=0\/x=1)->w∈wl n
 |0,w,h,_=>by rw[zbw.mp h];simp[wl]
 |n+1,w,h,hb=>by
  have hw:w≠[]:=fun z=>by rw[z] at h;simp at h
  have e:=List.dropLast_concat_getLast hw;have ih:w.dropLast∈wl n:=jP (by rw[List.length_dropLast];omega) fun x hx=>hb x ((List.dropLast_sublist w).mem hx)
  simp only[wl,zdm];refine⟨w.dropLast,ih,?_⟩;rcases hb _ (List.getLast_mem hw) with z|z<;>rw[z] at e<;>simp[e]
theorem GOk.len{m:Nat}{G:Ca}(h:GOk m G)(hm:m<=8):G.length<=256:=by
 have h1:=h.1.length_le_of_subset (l₂:=wl m) fun u hu=>by
  obtain⟨p,hp,rfl⟩:=zal.mp hu;exact jP (h.2 p hp).1 (h.2 p hp).2
 rw[zaA,jZ] at h1;have:2^m<=2^8:=zaW (by decide) hm
 omega
theorem BP{m:Nat}{s u:List Int}(j:Bool)(hs:TOk m s)(hu:TOk m u):TOk m (jT j s u):=by
 refine⟨by simp[jT,hs.1,hu.1],fun b hb=>?_⟩
 unfold jT at hb;obtain⟨i,hi,rfl⟩:=zcf hb;rw[zdn];have h1:=hs.2 _ (zaE (l:=s) (n:=i) (by simp at hi;omega))
 have h2:=hu.2 _ (zaE (l:=u) (n:=i) (by simp at hi;omega))
 rcases h1 with h1|h1<;>rcases h2 with h2|h2<;>rw[h1,h2]<;>cases j<;>first|exact .inl (by decide)|exact .inr (by decide)
theorem eF{F:Ca}{u:List Int}:(look F u).isNone=true↔u ∉ F.map (·.1):=by
 unfold look;rw[Option.isNone_map,zcL,List.find?_eq_none];simp only[zaZ,zal,not_exists,not_and]
set_option tactic.hygienic true in
theorem uR{m:Nat}{F:Ca}{s u:List Int}(hs:TOk m s)(hu:TOk m u){G:Ca}(h:GOk m G)(j:Bool):GOk m (stJ F s u G j):=by
 unfold stJ;split
 ·rename_i c
  refine⟨?_,fun p hp=>?_⟩
  ·rw[zaQ,zcH]
   exact⟨h.1,by simp,fun x hx y hy e=>by
    simp at hy;subst hy e
    exact eF.mp c.2.1 hx⟩
  ·rcases zaL.mp hp with hp|hp
   ·exact h.2 p hp
   ·simp at hp;subst hp;exact BP j hs hu
 ·exact h
theorem ik{α β:Type}{f:β->α->β}{xs:List α}{i:Nat}{x:α}{g:β}(h:xs[i]?=some x):(xs.take (i+1)).foldl f g=f ((xs.take i).foldl f g) x:=by
 rw[zbU,h,List.foldl_append];rfl
noncomputable def G7:ASp:=fun xs Z Q=>∃(lf ll:Addr)(F:Ca)(a m:Nat) (Ls:List (List (List Int))) (ws:List (Nat×Nat)),xs=[.r (.ref lf),.r (.ref ll),.d (.lst (ws.map wyD))]/\Z lf=some (.sto (aA F))/\Z ll=some (.sto (dz a Ls)) /\
 (∀p∈ws,a<=p.1/\p.1<a+Ls.length/\a<=p.2/\p.2<a+Ls.length)/\(∀l∈Ls,∀u∈l,TOk m u/\(look F u).isSome=true)/\m<=8/\∀p,Z p=none->Q (.r (.ref p)) (Z.put p (.sto (aA (pit F a Ls ws))))
theorem HC(T:Txt K mg t):a7 P w K mg base CX0 2 t.bI t.fC ["found","levels","ways"] (c9 G7):=by
 have G_joined_table:a7 P w K mg base _ _ _ _ _ _:=IF T
 refine T.oO.okA bg (fun xs Z Q h=>by obtain⟨lf,ll,F,a,m,Ls,ws,rfl,_⟩:=h;rfl) (fun cdv A outer s H E hr=>⟨_,_,(ag (aO (i:=3) bg.nd rfl (Or.inl rfl) zQ)
   (ag (eQ zbg rfl (cy K rfl (pv 2)) (gl K rfl (n:=2) rfl (bf (au (i:=4) bg.nd rfl (Or.inl rfl)) (bf (au (i:=5) bg.nd rfl (Or.inl rfl)) gn))) (ak (eQ zbg rfl (cy K rfl (j8 hr.Kx (pv 1) (pv 4) (fun _ _=>rfl))) (au (i:=6) bg.nd rfl (Or.inl rfl)) (ak (eQ zbg rfl (cy K rfl (j8 hr.Kx (pv 1) (pv 5) (fun _ _=>rfl))) (au (i:=7) bg.nd rfl (Or.inl rfl)) (ak (eQ zbg rfl (cy K rfl (cu (aS aQ (aS aQ af)))) (au (i:=8) bg.nd rfl (Or.inl rfl)) (ag (aO (i:=9) bg.nd rfl (Or.inl rfl) (aH G_joined_table (hr.mono (by omega)) (by rfl) T.m5 T.n9 T.mC .nil br (ab (pv 8) (ab (pv 6) (ab (pv 7) af)))))
   (ak (bM (PW.pt (kC (xB hr.Kx (pv 9) (pv 0) (by with_unfolding_all rfl)) (kC (xB hr.Kx (pv 9) (pv 3) (by with_unfolding_all rfl)) (kC (aF (vn hr.Kx) ai (pv 9) (by with_unfolding_all rfl)) (lX (aF (vn hr.Kx) ai (pv 9) (by with_unfolding_all rfl))))))) (ak (uh hr.Kx (pv 3) (pv 9) (cu (ab (pv 8) (ab (j8 hr.Kx (pv 0) (pv 6) (fun _ _=>rfl)) (ab (j8 hr.Kx (pv 0) (pv 7) (fun _ _=>rfl)) af)))) rfl)) a9))))))))))
   (ak (aG (pv 3))))),(aw (aZ DE am)
   (aw (gJ (fF aa) (ms (ci am (ci am nW))) (gJ (fF (pG aa aa)) am (gJ (fF (pG aa aa)) am (gJ (fF (dY (ae bz (ae bz aj)))) am (aw (aZ (aX (ae aa (ae aa (ae aa aj)))) am)
   (dC (pA (aL (CC aa aa)) (pA (aL (CC aa aa)) (pA (aL (aq G8 ap aa)) (aL (aq G8 ap aa))))) (ya aa aa (dY (ae aa (ae (pG aa aa) (ae (pG aa aa) aj))))) bw))))))
   (a0 aa))),fun xs Z Q h=>?_⟩)
 obtain⟨lf,ll,F,a,m,Ls,ws,rfl,hf,hl,hw,hL,hm,k⟩:=h;walk_at "s1";intro p hp;have ep:∀G:Ca,(Z.put p (.sto (aA G))) p=some (.sto (aA G)):=fun _=>Om.Kv;have nf:∀G:Ca,(Z.put p (.sto (aA G))) lf=some (.sto (aA F)):=fun _=>by rw[Om.Kw (fun e=>by rw[e,hp] at hf;cases hf)];exact hf
 have nl:∀G:Ca,(Z.put p (.sto (aA G))) ll=some (.sto (dz a Ls)):=fun _=>by rw[Om.Kw (fun e=>by rw[e,hp] at hl;cases hl)];exact hl
 have hlev:∀q u,u∈lev a Ls q->TOk m u/\(look F u).isSome=true:=fun q u hu=>by
  unfold lev at hu
  cases e:Ls[q-a]? with
  |none=>rw[e] at hu;cases hu
  |some l=>rw[e] at hu;exact hL l (zaz e) u hu
 walk_at "s1";refine rN (fun i ρ Z'=>∃G,G=(ws.take i).foldl (stW F a Ls) []/\GOk m G/\Z'=Z.put p (.sto (aA G))/\∃v4 v5 v6 v7 v8 v9,ρ=[some (.r (.ref lf)),some (.r (.ref ll)),some (.d (.lst (ws.map wyD))),some (.r (.ref p)),v4,v5,v6,v7,v8,v9]) ⟨[],rfl,⟨by simp,fun p hp=>by cases hp⟩,rfl,_,_,_,_,_,_,rfl⟩ ?_ ?_
 ·rintro i d ρ Z1 N hd ⟨G,eG,hG,rfl,v4,v5,v6,v7,v8,v9,rfl⟩ kN
  obtain⟨⟨q1,q2⟩,hq,rfl⟩:=L2.eh hd;obtain⟨b1,b2,b3,b4⟩:=hw _ (zaz hq);rw[ik hq,←eG] at kN
  walk_at "a1";refine⟨_,rfl,rfl,_,_,rfl,_,_,rfl,rfl,_,.inl ⟨ll,rfl,nl G⟩,_,rfl,none,⟨_,rfl⟩,mQ Ls a,_,lR Ls a q1 b1 b2,_,rfl,?_⟩;rw[show stW F a Ls G (q1,q2)=(lev a Ls q1).foldl (fun G s=>(lev a Ls q2).foldl (stO F s) G) G from rfl] at kN
  refine rN (fun i ρ Z'=>∃G',G'=((lev a Ls q1).take i).foldl (fun G s=>(lev a Ls q2).foldl (stO F s) G) G/\GOk m G'/\Z'=Z.put p (.sto (aA G'))/\∃v6 v7 v8 v9,ρ=[some (.r (.ref lf)),some (.r (.ref ll)),some (.d (.lst (ws.map wyD))),some (.r (.ref p)),some (.d (.int q1)),some (.d (.int q2)),v6,v7,v8,v9]) ⟨G,rfl,hG,rfl,_,_,_,_,rfl⟩ ?_ ?_
  ·rintro i1 d1 ρ Z1 N1 hd1 ⟨G1,eG1,hG1,rfl,v6,v7,v8,v9,rfl⟩ kN1
   obtain⟨s1,hs1,rfl⟩:=L2.eh hd1;obtain⟨o1,p1⟩:=hlev q1 s1 (zaz hs1);rw[ik hs1,←eG1] at kN1
   walk_at "a1";refine⟨_,.inl ⟨ll,rfl,nl G1⟩,none,⟨_,rfl⟩,mQ Ls a,_,lR Ls a q2 b3 b4,_,rfl,?_⟩;refine rN (fun i ρ Z'=>∃G',G'=((lev a Ls q2).take i).foldl (stO F s1) G1/\GOk m G'/\Z'=Z.put p (.sto (aA G'))/\∃v7 v8 v9,ρ=[some (.r (.ref lf)),some (.r (.ref ll)),some (.d (.lst (ws.map wyD))),some (.r (.ref p)),some (.d (.int q1)),some (.d (.int q2)),some (.d (wdD s1)),v7,v8,v9]) ⟨G1,rfl,hG1,rfl,_,_,_,rfl⟩ ?_ ?_
   ·rintro i2 d2 ρ Z1 N2 hd2 ⟨G2,eG2,hG2,rfl,v7,v8,v9,rfl⟩ kN2
    obtain⟨s2,hs2,rfl⟩:=L2.eh hd2;obtain⟨o2,p2⟩:=hlev q2 s2 (zaz hs2);rw[ik hs2,←eG2] at kN2
    walk_at "a1";refine rN (ds:=[true,false].map fun j=>D.str (if j=true then "and" else "or")) (fun i ρ Z'=>∃G',G'=([true,false].take i).foldl (stJ F s1 s2) G2/\GOk m G'/\Z'=Z.put p (.sto (aA G'))/\∃v8 v9,ρ=[some (.r (.ref lf)),some (.r (.ref ll)),some (.d (.lst (ws.map wyD))),some (.r (.ref p)),some (.d (.int q1)),some (.d (.int q2)),some (.d (wdD s1)),some (.d (wdD s2)),v8,v9]) ⟨G2,rfl,hG2,rfl,_,_,rfl⟩ ?_ ?_
    ·rintro i3 d3 ρ Z1 N3 hd3 ⟨G3,eG3,hG3,rfl,v8,v9,rfl⟩ kN3
     obtain⟨j,hj,rfl⟩:=L2.eh hd3;rw[ik hj,←eG3] at kN3
     have kN3':=fun v8 v9=>kN3 _ _ ⟨_,rfl,uR o1 o2 hG3 j,rfl,v8,v9,rfl⟩;unfold stJ at kN3';walk_at "s1";refine⟨j,s1,s2,rfl,by rw[o1.1,o2.1],by rw[o1.1];omega,?_⟩
     generalize hu:jT j s1 s2=u;walk_at "a1";have ei:∀F':Ca,(!((look F' u).map fun x=>AV.d x.d).isSome)=(look F' u).isNone:=fun F'=>by cases look F' u<;>rfl
     refine⟨_,.inl ⟨lf,rfl,nf G3⟩,some 0,nS u,dr F,?_⟩;rw[fX,ei];refine fc (fun c1=>?_) (fun c1=>?_)
     ·refine⟨_,.inl ⟨p,rfl,ep G3⟩,some 0,nS u,dr G3,?_⟩
      rw[fX,ei];refine fc (fun c2=>?_) (fun c2=>?_)
      ·refine⟨_,.inr rfl,by rw[eD];omega,?_⟩
       rw[wT];refine fc (fun c3=>?_) (fun c3=>?_)
       ·refine⟨_,.inr rfl,by rw[eD];omega,?_⟩
        rw[wT];refine fc (fun c4=>?_) (fun c4=>?_)
        ·obtain⟨x1,e1⟩:=zcN.mp p1
         obtain⟨x2,e2⟩:=zcN.mp p2;refine⟨_,.inl ⟨lf,rfl,nf G3⟩,some 0,nS s1,dr F,_,by rw[fX,e1];rfl,_,.inl ⟨lf,rfl,nf G3⟩,some 0,nS s2,dr F,_,by rw[fX,e2];rfl,?_⟩
         refine⟨_,rfl,_,rfl,some 0,nS u,dr G3,zbp (by simpa[aA] using hG3.len hm) (aV (n:=256) (by decide)),?_⟩
         have el1:lk F s1=x1:=by unfold lk;rw[e1];rfl
         have el2:lk F s2=x2:=by unfold lk;rw[e2];rfl
         rw[hu,el1,el2,zaf ⟨c1,c2,by unfold ncT;rw[c3,c4];rfl⟩] at kN3'
         have:=kP (F:=G3) (u:=u) (zcL.mp c2) (.jn j x1 x2);simp only[Sy.d] at this;simp only[];rw[this];exact kN3' _ _
        ·rw[hu,zad (fun z=>c4 (by have:=z.2.2;unfold ncT at this;rw[zax] at this;exact this.2))] at kN3'
         exact kN3' _ _
       ·rw[hu,zad (fun z=>c3 (by have:=z.2.2;unfold ncT at this;rw[zax] at this;exact this.1))] at kN3'
        exact kN3' _ _
      ·rw[hu,zad (fun z=>c2 z.2.1)] at kN3'
       exact kN3' _ _
     ·rw[hu,zad (fun z=>c1 z.1)] at kN3'
      exact kN3' _ _
    ·rintro ρ Z1 ⟨G3,eG3,hG3,rfl,v8,v9,rfl⟩
     subst eG3;exact kN2 _ _ ⟨_,rfl,hG3,rfl,_,_,_,rfl⟩
   ·rintro ρ Z1 ⟨G2,eG2,hG2,rfl,v7,v8,v9,rfl⟩
    rw[zaA,zbC] at eG2;subst eG2;exact kN1 _ _ ⟨_,rfl,hG2,rfl,_,_,_,_,rfl⟩
  ·rintro ρ Z1 ⟨G1,eG1,hG1,rfl,v6,v7,v8,v9,rfl⟩
   rw[zaA,zbC] at eG1;subst eG1;exact kN _ _ ⟨_,rfl,hG1,rfl,_,_,_,_,_,_,rfl⟩
 ·rintro ρ Z1 ⟨G,eG,hG,rfl,v4,v5,v6,v7,v8,v9,rfl⟩
  rw[zaA,zbC] at eG;subst eG;walk_at "a1";exact k p hp
end
theorem thr{n:Nat}(h1:1<=n)(h3:n<=3):n∈[1,2,3]:=by
 have:n=1\/n=2\/n=3:=by omega
 rcases this with rfl|rfl|rfl<;>simp
noncomputable def dv(lv:Bool)(x:Sy):Nat:=if lv then x.lvs else x.dp
noncomputable def at1(lv:Bool):Nat:=if lv then 1 else 0
noncomputable def kOk(n:Nat)(ri:Bool)(x:Sy):Prop:=x.ok n/\(ri=true->x.up)
theorem km(lv:Bool)(j:Bool)(x y:Sy):dv lv (.jn j x y)=ptN lv (dv lv x) (dv lv y):=by
 unfold dv ptN;cases lv<;>simp[Sy.lvs,Sy.dp]
theorem ki(lv:Bool):∀x:Sy,at1 lv<=dv lv x
 |.is i b=>by unfold dv at1;cases lv<;>simp[Sy.lvs,Sy.dp]
 |.jn j x y=>by
  have h1:=ki lv x;rw[km];unfold ptN at1 at *;cases lv<;>simp at *<;>omega
theorem vo(lv:Bool)(i b:Int):dv lv (.is i b)=at1 lv:=by cases lv<;>rfl
theorem gx(n:Nat)(j:Bool)(x y:Sy):wor n (.jn j x y)=jT j (wor n x) (wor n y):=by
 unfold wor jT;rw[List.zipWith_map,List.zipWith_self];refine zcU fun v _=>?_;simp only[Sy.val];cases j<;>cases x.val v<;>cases y.val v<;>decide
theorem cO(n:Nat)(x:Sy):TOk (2^n) (wor n x):=by
 refine⟨by simp[wor,jZ],fun b hb=>?_⟩
 obtain⟨v,_,rfl⟩:=zal.mp hb;cases x.val v
 ·exact .inl rfl
 ·exact .inr rfl
theorem uD{m:Nat}{u:List Int}(h:TOk m u)(hc:ncT u=false):u=List.replicate m 0\/u=List.replicate m 1:=by
 have h':0 ∉ u\/1 ∉ u:=by
  unfold ncT at hc;rw[Bool.and_eq_false_iff] at hc;exact hc.imp of_decide_eq_false of_decide_eq_false
 rcases h' with h'|h'
 ·right
  refine List.eq_replicate_iff.mpr ⟨h.1,fun b hb=>?_⟩;rcases h.2 b hb with e|e
  ·subst e;exact absurd hb h'
  ·exact e
 ·left
  refine List.eq_replicate_iff.mpr ⟨h.1,fun b hb=>?_⟩;rcases h.2 b hb with e|e
  ·exact e
  ·subst e;exact absurd hb h'
theorem rJ{m:Nat}{c:Int}(hc:c=0\/c=1)(j:Bool):∀ {u:List Int},TOk m u->(jT j (List.replicate m c) u=u\/jT j (List.replicate m c) u=List.replicate m c)/\(jT j u (List.replicate m c)=u\/jT j u (List.replicate m c)=List.replicate m c):=by
 intro u h
 have e:∀b:Int,(b=0\/b=1)->((if j=true then Builtin.bitAnd c b else Builtin.bitOr c b)=if (j == (c == 1)) then b else c)/\((if j=true then Builtin.bitAnd b c else Builtin.bitOr b c)=if (j == (c == 1)) then b else c):=fun b hb=>by
  rcases hc with rfl|rfl<;>rcases hb with rfl|rfl<;>cases j<;>decide
 have l1:jT j (List.replicate m c) u=u.map fun b=>if (j == (c == 1)) then b else c:=by
  refine zdo (by simp[jT,h.1]) fun i h1 h2=>?_
  simp only[jT,zdn,List.getElem_replicate,zcu];exact(e _ (h.2 _ (zaE _))).1
 have l2:jT j u (List.replicate m c)=u.map fun b=>if (j == (c == 1)) then b else c:=by
  refine zdo (by simp[jT,h.1]) fun i h1 h2=>?_
  simp only[jT,zdn,List.getElem_replicate,zcu];exact(e _ (h.2 _ (zaE _))).2
 rw[l1,l2]
 cases (j == (c == 1)) with
 |true=>simp
 |false=>
  have:(u.map fun b=>if false=true then b else c)=List.replicate m c:=by
   refine zdo (by simp[h.1]) fun i h1 h2=>by simp
  rw[this];exact⟨.inr rfl,.inr rfl⟩
theorem qH{m:Nat}{c:Int}:ncT (List.replicate m c)=false:=by
 unfold ncT;rw[Bool.and_eq_false_iff];by_cases h:c=0
 ·subst h;right;simp
 ·left
  refine zaK fun z=>h ?_;exact((List.mem_replicate.mp z).2).symm
theorem uu{m:Nat}{s u:List Int}(j:Bool)(hs:TOk m s)(hu:TOk m u)(h:ncT (jT j s u)=true):(ncT s=true/\ncT u=true)\/jT j s u=s\/jT j s u=u:=by
 cases h1:ncT s with
 |false=>
  right
  rcases uD hs h1 with e|e<;>subst e
  ·rcases(rJ (.inl rfl) j hu).1 with e|e
   ·exact .inr e
   ·rw[e,qH] at h;cases h
  ·rcases(rJ (.inr rfl) j hu).1 with e|e
   ·exact .inr e
   ·rw[e,qH] at h;cases h
 |true=>
  cases h2:ncT u with
  |true=>exact .inl ⟨rfl,rfl⟩
  |false=>
   right
   rcases uD hu h2 with e|e<;>subst e
   ·rcases(rJ (.inl rfl) j hs).2 with e|e
    ·exact .inl e
    ·rw[e,qH] at h;cases h
   ·rcases(rJ (.inr rfl) j hs).2 with e|e
    ·exact .inl e
    ·rw[e,qH] at h;cases h
theorem DQ{m:Nat}{s u:List Int}(j:Bool)(hs:TOk m s)(hu:TOk m u):jT j s u=jT j u s:=by
 refine zdo (by simp[jT];omega) fun i h1 h2=>?_
 simp only[jT,zdn];have i1:i<s.length:=by simp[jT] at h1;omega
 have i2:i<u.length:=by simp[jT] at h1;omega
 have a:=hs.2 s[i] (zaE i1);have b:=hu.2 u[i] (zaE i2);rcases a with a|a<;>rcases b with b|b<;>rw[a,b]<;>cases j<;>decide
noncomputable def ED:List Sy->Sy
 | []=>.is 0 0
 | [x]=>x
 |x::r=>.jn true x (ED r)
noncomputable def EN:List Sy->Sy
 | []=>.is 0 0
 | [x]=>x
 |x::r=>.jn false x (EN r)
noncomputable def FX(ri:Bool)(v:List Int):Sy:=ED (((List.range v.length).filter fun i=>!ri || decide (v.getD i 0=1)).map fun(i:Nat)=>Sy.is (i:Int) (v.getD i 0))
noncomputable def dnf(n:Nat)(ri:Bool)(u:List Int):Sy:=EN ((((wl n).zip u).filter fun p=>decide (p.2=1)).map fun p=>FX ri p.1)
noncomputable def sOk(n:Nat)(ri:Bool):Sy->Bool
 |.is i b=>decide (0<=i) && decide (i<n) && (decide (b=1) || (!ri && decide (b=0)))
 |.jn _ x y=>sOk n ri x && sOk n ri y
theorem rq{n:Nat}{ri:Bool}:∀ {x:Sy},sOk n ri x=true->kOk n ri x
 |.is i b,h=>by
  simp only[sOk,zax,Bool.or_eq_true,zaZ,Bool.not_eq_true'] at h;obtain⟨⟨h1,h2⟩,h3⟩:=h;exact⟨⟨h1,h2,h3.elim .inr fun z=>.inl z.2⟩,fun hr=>h3.elim id fun z=>by rw[hr] at z;cases z.1⟩
 |.jn j x y,h=>by
  simp only[sOk,zax] at h;have a:=rq h.1;have b:=rq h.2;exact⟨⟨a.1,b.1⟩,fun hr=>⟨a.2 hr,b.2 hr⟩⟩
noncomputable def leW(v v':List Int):Bool:=(v.zip v').all fun p=>decide (p.1<=p.2)
noncomputable def k9(n:Nat)(u:List Int):Bool:=((wl n).zip u).all fun p=>((wl n).zip u).all fun q=>!(leW p.1 q.1) || decide (p.2<=q.2)
theorem Dz:([1,2,3].all fun n=>[true,false].all fun ri=>(wl (2^n)).all fun u=>!(ncT u && (!ri || k9 n u)) || (sOk n ri (dnf n ri u) && decide (wor n (dnf n ri u)=u) && decide ((dnf n ri u).lvs<=24) && decide ((dnf n ri u).dp<=8)))=true:=by decide +kernel
theorem nC{n:Nat}{v v':List Int}(h:leW v v'=true)(hv:v.length=n)(hv':v'.length=n)(hb':∀b∈v',b=0\/b=1):∀ {x:Sy},x.ok n->x.up->x.val v=true->x.val v'=true
 |.is i b,ho,hu,hx=>by
  simp only[Sy.up] at hu;subst hu;simp only[Sy.val,zaZ] at hx ⊢;have hi:i.toNat<n:=by have:=ho.1;have:=ho.2.1;omega
  have i1:i.toNat<v.length:=by omega
  have i2:i.toNat<v'.length:=by omega
  rw[zag,zae i1] at hx;rw[zag,zae i2];simp only[zct] at hx ⊢;unfold leW at h
  have:=zaB.mp h (v[i.toNat],v'[i.toNat]) (by
   have:(v.zip v')[i.toNat]?=some (v[i.toNat],v'[i.toNat]):=by rw[zdw];exact⟨zae i1,zae i2⟩
   exact zaz this)
  simp only[zaZ] at this;rcases hb' _ (zaE i2) with e|e<;>omega
 |.jn j x y,ho,hu,hx=>by
  have a:=@nC n v v' h hv hv' hb' x ho.1 hu.1;have b:=@nC n v v' h hv hv' hb' y ho.2 hu.2;simp only[Sy.val] at hx ⊢;cases j
  ·simp only[zak,zaP,Bool.or_eq_true] at hx ⊢
   exact hx.imp a b
  ·simp only[zaX,zax] at hx ⊢
   exact⟨a hx.1,b hx.2⟩
theorem ud{n:Nat}{x:Sy}(ho:x.ok n)(hu:x.up):k9 n (wor n x)=true:=by
 have e:(wl n).zip (wor n x)=(wl n).map fun v=>(v,b01 (x.val v)):=by
  unfold wor;rw[List.zip_map_right];simp only[List.zip_eq_zipWith,List.zipWith_self,zaO];rfl
 unfold k9;rw[e];refine zaB.mpr fun p hp=>zaB.mpr fun q hq=>?_;obtain⟨v,hv,rfl⟩:=zal.mp hp;obtain⟨v',hv',rfl⟩:=zal.mp hq
 cases hl:leW v v' with
 |false=>rfl
 |true=>
  simp only[hl,zbl,zcX,zaZ]
  cases hx:x.val v with
  |false=>cases x.val v'<;>decide
  |true=>rw[nC hl (jY hv).1 (jY hv').1 (jY hv').2 ho hu hx];decide
theorem AD{n:Nat}(h1:1<=n)(h3:n<=3){ri:Bool}{u:List Int}(hu:TOk (2^n) u)(hc:ncT u=true)(hg:ri=true->k9 n u=true):∃y,kOk n ri y/\wor n y=u/\y.lvs<=24/\y.dp<=8:=by
 have a:=zaB.mp Dz n (thr h1 h3);have b:=zaB.mp a ri (by cases ri<;>simp)
 have c:=zaB.mp b u (jP hu.1 hu.2)
 have g:(!ri || k9 n u)=true:=by
  cases ri with
  |false=>rfl
  |true=>rw[hg rfl];rfl
 rw[hc,g] at c;simp only[Bool.and_self,zbl,zcX,zax,zaZ] at c;exact⟨_,rq c.1.1.1,c.1.1.2,c.1.2,c.2⟩
theorem cC{α β:Type}{P:β->Prop}{f:β->α->β}:∀ {xs:List α} (_:∀g x,x∈xs->P g->P (f g x)) (g:β),P g->P (xs.foldl f g)
 | [],_,_,h=>h
 |x::xs,k,g,h=>cC (fun g y hy=>k g y (zar _ hy)) _ (k g x zau h)
theorem jD{α β:Type}{P:β->Prop}{f:β->α->β}{x:α}(hm:∀g y,P g->P (f g y))(hh:∀g,P (f g x)):∀ {xs:List α} (_:x∈xs) (g:β),P (xs.foldl f g)
 |y::xs,h,g=>by
  rcases zay.mp h with rfl|h
  ·rw[List.foldl_cons]
   exact cC (fun g y _=>hm g y) _ (hh g)
  ·rw[List.foldl_cons]
   exact jD hm hh h _
theorem vI{F:Ca}{s u:List Int}{G:Ca}{j:Bool}{T:List Int}(h:T∈G.map (·.1)):T∈(stJ F s u G j).map (·.1):=by
 unfold stJ;split
 ·rw[zaQ];exact zbn _ h
 ·exact h
theorem GE{F:Ca}{s u:List Int}{G:Ca}{T:List Int}(h:T∈G.map (·.1)):T∈(stO F s G u).map (·.1):=vI (vI h)
noncomputable def Hit(F:Ca)(T:List Int)(G:Ca):Prop:=T∈F.map (·.1)\/T∈G.map (·.1)
set_option tactic.hygienic true in
theorem x8{F:Ca}{s u:List Int}{j:Bool}(h:ncT (jT j s u)=true)(G:Ca):Hit F (jT j s u) (stJ F s u G j):=by
 unfold stJ;split
 ·exact .inr (by rw[zaQ];exact zaC _ (by simp))
 ·rename_i c
  by_cases c1:(look F (jT j s u)).isNone=true
  ·by_cases c2:(look G (jT j s u)).isNone=true
   ·exact absurd ⟨c1,c2,h⟩ c
   ·right
    have:=mt eF.mpr c2;simpa using this
  ·left
   have:=mt eF.mpr c1;simpa using this
theorem Dk{F:Ca}{a:Nat}{Ls:List (List (List Int))}{ws:List (Nat×Nat)}{p:Nat×Nat}{s u:List Int}(j:Bool)(hp:p∈ws)(hs:s∈lev a Ls p.1)(hu:u∈lev a Ls p.2)(h:ncT (jT j s u)=true):Hit F (jT j s u) (pit F a Ls ws):=by
 have mO:∀(s':List Int) G y,Hit F (jT j s u) G->Hit F (jT j s u) (stO F s' G y):=fun s' G y h=>h.imp id GE;have m1:∀q G y,Hit F (jT j s u) G->Hit F (jT j s u) ((lev a Ls q).foldl (stO F y) G):=fun q G y h=>cC (fun g x _=>mO y g x) _ h;have mW:∀G q,Hit F (jT j s u) G->Hit F (jT j s u) (stW F a Ls G q):=fun G q h=>cC (fun g x _=>m1 q.2 g x) _ h;refine jD mW (fun G=>jD (fun g y=>m1 p.2 g y) (fun g=>jD (fun g y=>mO s g y) (fun g=>?_) hu _) hs _) hp _
 cases j
 ·exact x8 h _
 ·exact(x8 h g).imp id vI
noncomputable def ze(F:Ca)(a:Nat)(Ls:List (List (List Int)))(ws:List (Nat×Nat))(G:Ca):Prop:=∀q∈G,∃p∈ws,∃s∈lev a Ls p.1,∃u∈lev a Ls p.2,∃j,q=(jT j s u,.jn j (lk F s) (lk F u))/\(look F (jT j s u)).isNone=true/\ncT (jT j s u)=true
set_option tactic.hygienic true in
theorem Ao(F:Ca)(a:Nat)(Ls:List (List (List Int)))(ws:List (Nat×Nat)):ze F a Ls ws (pit F a Ls ws):=by
 refine cC (P:=ze F a Ls ws) (fun G p hp h=>cC (P:=ze F a Ls ws) (fun G s hs h=>cC (P:=ze F a Ls ws) (fun G u hu h=>?_) _ h) _ h) _ (fun q hq=>by cases hq)
 have st:∀(G:Ca) j,ze F a Ls ws G->ze F a Ls ws (stJ F s u G j):=fun G j h q hq=>by
  unfold stJ at hq;split at hq
  ·rename_i c
   rcases zaL.mp hq with hq|hq
   ·exact h q hq
   ·simp at hq
    exact⟨p,hp,s,hs,u,hu,j,hq,c.1,c.2.2⟩
  ·exact h q hq
 exact st _ _ (st _ _ h)
theorem yo{m:Nat}{F:Ca}{a:Nat}{Ls:List (List (List Int))}{ws:List (Nat×Nat)}(h:∀q,∀u∈lev a Ls q,TOk m u):GOk m (pit F a Ls ws):=by
 refine cC (P:=GOk m) (fun G p hp g=>cC (P:=GOk m) (fun G s hs g=>cC (P:=GOk m) (fun G u hu g=>?_) _ g) _ g) _ ⟨by simp,fun q hq=>by cases hq⟩
 exact uR (h _ _ hs) (h _ _ hu) (uR (h _ _ hs) (h _ _ hu) g true) false
structure gR(n:Nat)(ri lv:Bool)(F:Ca)(Ls:List (List (List Int)))(top:Nat):Prop where
 fl:Ls.flatten=F.map (·.1)
 ok:GOk (2^n) F
 snd:∀p∈F,kOk n ri p.2/\wor n p.2=p.1/\ncT p.1=true
 lvl:∀i l,Ls[i]?=some l->∀u∈l,∃x,look F u=some x/\dv lv x=at1 lv+i
 cpl:∀y,kOk n ri y->ncT (wor n y)=true->dv lv y<at1 lv+Ls.length->wor n y∈F.map (·.1)
 mn:∀i l,Ls[i]?=some l->∀u∈l,∀y,kOk n ri y->wor n y=u->at1 lv+i<=dv lv y
 tp:at1 lv<=top/\top<at1 lv+Ls.length/\(∀i l,Ls[i]?=some l->top<at1 lv+i->l=[])/\∃l u,Ls[top-at1 lv]?=some l/\u∈l
noncomputable def F0(n:Nat)(ri:Bool):Ca:=(rK n ri).map fun x=>(wor n x,x)
theorem GR:([1,2,3].all fun n=>[true,false].all fun ri=>decide ((F0 n ri).map (·.1)).Nodup && ((rK n ri).all fun x=>sOk n ri x && ncT (wor n x)) && decide (0<(rK n ri).length))=true:=by decide +kernel
theorem sK{F:Ca}(h:(F.map (·.1)).Nodup){p:List Int×Sy}(hp:p∈F):look F p.1=some p.2:=by
 unfold look
 induction F with
 |nil=>cases hp
 |cons q F ih=>
  rw[zah,zbZ] at h;rw[zaR];rcases zay.mp hp with rfl|hp
  ·simp
  ·have:¬ q.1=p.1:=fun e=>h.1 (by rw[e];exact List.mem_map_of_mem hp)
   simp only[this,decide_false];exact ih h.2 hp
theorem iA{F:Ca}{u:List Int}{x:Sy}(h:look F u=some x):(u,x)∈F:=by
 unfold look at h;obtain⟨p,h1,h2⟩:=zas.mp h;have e:=List.find?_some h1;have m:=List.mem_of_find?_eq_some h1;simp only[zaZ] at e;subst e h2;exact m
theorem Ez{n:Nat}{ri:Bool}{i b:Int}(h:kOk n ri (.is i b)):Sy.is i b∈rK n ri:=by
 obtain⟨⟨h0,h1,h2⟩,h3⟩:=h;unfold rK;refine zdm.mpr ⟨i.toNat,zbk.mpr (by omega),zal.mpr ⟨b,?_,by congr 1;omega⟩⟩
 unfold fT
 cases ri with
 |true=>have:=h3 rfl;simp only[Sy.up] at this;subst this;simp
 |false=>rcases h2 with rfl|rfl<;>simp
theorem pE{n:Nat}(h1:1<=n)(h3:n<=3)(ri lv:Bool):gR n ri lv (F0 n ri) [(F0 n ri).map (·.1)] (at1 lv):=by
 have a:=zaB.mp GR n (thr h1 h3);have b:=zaB.mp a ri (by cases ri<;>simp)
 simp only[zax,zaZ] at b;obtain⟨⟨nd,al⟩,pos⟩:=b
 have al':∀x∈rK n ri,kOk n ri x/\ncT (wor n x)=true:=fun x hx=>by
  have:=zaB.mp al x hx;rw[zax] at this;exact⟨rq this.1,this.2⟩
 have isl:∀x∈rK n ri,∃i b,x=.is i b:=fun x hx=>by
  obtain⟨i,_,hx⟩:=zdm.mp hx;obtain⟨b,_,rfl⟩:=zal.mp hx;exact⟨_,_,rfl⟩
 have one:∀(i:Nat) (l:List (List Int)),[(F0 n ri).map (·.1)][i]?=some l->i=0/\l=(F0 n ri).map (·.1):=fun i l h=>by
  cases i with
  |zero=>simp at h;exact⟨rfl,h.symm⟩
  |succ i=>simp at h
 have sn:∀p∈F0 n ri,kOk n ri p.2/\wor n p.2=p.1/\ncT p.1=true:=fun p hp=>by
  obtain⟨x,hx,rfl⟩:=zal.mp hp;exact⟨(al' x hx).1,rfl,(al' x hx).2⟩
 refine⟨by simp,⟨nd,fun p hp=>?_⟩,sn,fun i l h u hu=>?_,fun y hy hc hn=>?_,fun i l h u hu y hy he=>?_,⟨zaj _,by simp,fun i l h ht=>?_,?_⟩⟩
 ·obtain⟨x,hx,rfl⟩:=zal.mp hp
  exact cO n x
 ·obtain⟨rfl,rfl⟩:=one i l h
  obtain⟨p,hp,rfl⟩:=zal.mp hu;refine⟨p.2,sK nd hp,?_⟩;obtain⟨x,hx,rfl⟩:=zal.mp hp;obtain⟨i,b,rfl⟩:=isl x hx;exact vo lv i b
 ·cases y with
  |is i b=>exact zal.mpr ⟨_,List.mem_map_of_mem (Ez hy),rfl⟩
  |jn j x y=>
   exfalso
   rw[km] at hn;have:=ki lv x;have:=ki lv y;simp only[zbc] at hn;unfold ptN at1 at *;cases lv<;>simp at *<;>omega
 ·obtain⟨rfl,rfl⟩:=one i l h
  exact ki lv y
 ·obtain⟨rfl,rfl⟩:=one i l h
  omega
 ·rw[zdB]
  cases e:rK n ri with
  |nil=>rw[e] at pos;cases pos
  |cons x r=>exact⟨_,wor n x,rfl,by simp[F0,e]⟩
theorem CW{F G:Ca}{u:List Int}{x:Sy}(h:look F u=some x):look (F++G) u=some x:=by
 unfold look at h ⊢;rw[List.find?_append];obtain⟨p,h1,h2⟩:=zas.mp h;rw[h1,Option.some_or,zcc,h2]
theorem u8{a:Nat}{Ls:List (List (List Int))}{k:Nat}{u:List Int}(h:u∈lev a Ls k):∃l,Ls[k-a]?=some l/\u∈l:=by
 unfold lev at h
 cases e:Ls[k-a]? with
 |none=>rw[e] at h;cases h
 |some l=>rw[e] at h;exact⟨l,rfl,h⟩
theorem qL{lv:Bool}{a b c d:Nat}(h1:a<=c)(h2:b<=d):ptN lv a b<=ptN lv c d:=by
 unfold ptN;split<;>omega
theorem yk{lv:Bool}{m:Nat}(hm:at1 lv<m){p:Nat×Nat}(h:p∈cD lv m):ptN lv p.1 p.2=m/\at1 lv<=p.1/\p.1<m/\at1 lv<=p.2/\p.2<m:=by
 unfold cD at h;unfold at1 ptN at *;cases lv<;>simp only[zaX,zak,zaP] at h hm ⊢<;>obtain⟨i,hi,rfl⟩:=zal.mp h<;>have:=zbk.mp hi
 ·simp only[];omega
 ·simp only[];omega
theorem xm{lv:Bool}{m k1 k2:Nat}(h:ptN lv k1 k2=m)(hk:k1<=k2)(ha:at1 lv<=k1):(k1,k2)∈cD lv m:=by
 unfold cD;unfold at1 ptN at *;cases lv<;>simp only[zaX,zak,zaP] at h ha ⊢
 ·exact zal.mpr ⟨k1,zbk.mpr (by omega),by rw[show m-1=k2 from by omega]⟩
 ·exact zal.mpr ⟨k1-1,zbk.mpr (by omega),by rw[show k1-1+1=k1 from by omega,show m-k1=k2 from by omega]⟩
theorem gR.inF{n:Nat}{ri lv:Bool}{F:Ca}{Ls:List (List (List Int))}{top:Nat}(C:gR n ri lv F Ls top){i:Nat}{l:List (List Int)}{u:List Int}(h:Ls[i]?=some l)(hu:u∈l):u∈F.map (·.1):=by
 rw[←C.fl];exact List.mem_flatten.mpr ⟨l,zaz h,hu⟩
theorem gR.tok{n:Nat}{ri lv:Bool}{F:Ca}{Ls:List (List (List Int))}{top:Nat}(C:gR n ri lv F Ls top){u:List Int}(h:u∈F.map (·.1)):TOk (2^n) u:=by
 obtain⟨p,hp,rfl⟩:=zal.mp h;exact C.ok.2 p hp
theorem gR.Lk{n:Nat}{ri lv:Bool}{F:Ca}{Ls:List (List (List Int))}{top:Nat}(C:gR n ri lv F Ls top)(q:Nat){u:List Int}(h:u∈lev (at1 lv) Ls q):TOk (2^n) u:=by
 obtain⟨l,h1,h2⟩:=u8 h;exact C.tok (C.inF h1 h2)
theorem gR.at'{n:Nat}{ri lv:Bool}{F:Ca}{Ls:List (List (List Int))}{top:Nat}(C:gR n ri lv F Ls top){u:List Int}(h:u∈F.map (·.1)):∃k x,at1 lv<=k/\k<at1 lv+Ls.length/\k<=top/\u∈lev (at1 lv) Ls k/\look F u=some x/\dv lv x=k/\kOk n ri x/\wor n x=u/\∀y,kOk n ri y->wor n y=u->k<=dv lv y:=by
 have h':=h;rw[←C.fl] at h'
 obtain⟨l,hl,hu⟩:=List.mem_flatten.mp h';obtain⟨i,hi,rfl⟩:=zcf hl;have hg:=zae hi;obtain⟨x,x1,x2⟩:=C.lvl i _ hg u hu;obtain⟨s1,s2,_⟩:=C.snd _ (iA x1);refine⟨at1 lv+i,x,by omega,by omega,?_,?_,x1,x2,s1,s2,C.mn i _ hg u hu⟩
 ·by_cases ht:top<at1 lv+i
  ·rw[C.tp.2.2.1 i _ hg ht] at hu;cases hu
  ·omega
 ·unfold lev
  rw[show at1 lv+i-at1 lv=i from by omega,hg]
  exact hu
set_option tactic.hygienic true in
theorem gR.step{n:Nat}{ri lv:Bool}{F:Ca}{Ls:List (List (List Int))}{top:Nat}(C:gR n ri lv F Ls top):gR n ri lv (F++pit F (at1 lv) Ls (cD lv (at1 lv+Ls.length))) (Ls++[(pit F (at1 lv) Ls (cD lv (at1 lv+Ls.length))).map (·.1)]) (if 0<(pit F (at1 lv) Ls (cD lv (at1 lv+Ls.length))).length then at1 lv+Ls.length else top):=by
 have hm:at1 lv<at1 lv+Ls.length:=by have:=C.tp.1;have:=C.tp.2.1;omega
 have came:=Ao F (at1 lv) Ls (cD lv (at1 lv+Ls.length));have gok:=yo (F:=F) (ws:=cD lv (at1 lv+Ls.length)) (fun q u h=>C.Lk q h);have hit:=fun(p:Nat×Nat) s u j=>Dk (F:=F) (a:=at1 lv) (Ls:=Ls) (ws:=cD lv (at1 lv+Ls.length)) (p:=p) (s:=s) (u:=u) j;generalize pit F (at1 lv) Ls (cD lv (at1 lv+Ls.length))=G at *
 have gs:∀q∈G,(kOk n ri q.2/\wor n q.2=q.1/\ncT q.1=true)/\dv lv q.2=at1 lv+Ls.length/\q.1 ∉ F.map (·.1):=fun q hq=>by
  obtain⟨p,hp,s,hs,u,hu,j,rfl,c1,c2⟩:=came q hq;obtain⟨e,a1,a2,a3,a4⟩:=yk hm hp;obtain⟨l1,g1,m1⟩:=u8 hs;obtain⟨l2,g2,m2⟩:=u8 hu;obtain⟨x1,y1,z1⟩:=C.lvl _ _ g1 s m1;obtain⟨x2,y2,z2⟩:=C.lvl _ _ g2 u m2;obtain⟨k1,w1,_⟩:=C.snd _ (iA y1);obtain⟨k2,w2,_⟩:=C.snd _ (iA y2);have e1:lk F s=x1:=by unfold lk;rw[y1];rfl
  have e2:lk F u=x2:=by unfold lk;rw[y2];rfl
  simp only[] at k1 w1 k2 w2 ⊢;rw[e1,e2];refine⟨⟨⟨⟨k1.1,k2.1⟩,fun hr=>⟨k1.2 hr,k2.2 hr⟩⟩,by rw[gx,w1,w2],c2⟩,?_,eF.mp c1⟩
  rw[km,z1,z2,show at1 lv+(p.1-at1 lv)=p.1 from by omega,show at1 lv+(p.2-at1 lv)=p.2 from by omega,e]
 have nd:((F++G).map (·.1)).Nodup:=by
  rw[zaQ,zcH];refine⟨C.ok.1,gok.1,fun x hx y hy e=>?_⟩;subst e;obtain⟨q,hq,rfl⟩:=zal.mp hy;exact(gs q hq).2.2 hx
 have sp:∀i l,(Ls++[G.map (·.1)])[i]?=some l->Ls[i]?=some l\/i=Ls.length/\l=G.map (·.1):=fun i l h=>by
  by_cases hi:i<Ls.length
  ·rw[zbo hi] at h;exact .inl h
  ·rw[zcj (by omega)] at h
   have:i-Ls.length=0:=by
    have:=(zav.mp h).1;simp at this;omega
   rw[this] at h;simp at h;exact .inr ⟨by omega,h.symm⟩
 refine⟨by rw[List.flatten_append,C.fl,zaQ];simp,⟨nd,fun p hp=>?_⟩,fun p hp=>?_,fun i l h u hu=>?_,fun y hy hc hn=>?_,fun i l h u hu y hy he=>?_,?_⟩
 ·rcases zaL.mp hp with hp|hp
  ·exact C.ok.2 p hp
  ·exact gok.2 p hp
 ·rcases zaL.mp hp with hp|hp
  ·exact C.snd p hp
  ·exact(gs p hp).1
 ·rcases sp i l h with h|⟨rfl,rfl⟩
  ·obtain⟨x,h1,h2⟩:=C.lvl i l h u hu
   exact⟨x,CW h1,h2⟩
  ·obtain⟨p,hp,rfl⟩:=zal.mp hu
   exact⟨p.2,sK nd (zaC _ hp),(gs p hp).2.1⟩
 ·rw[zaQ]
  by_cases hlt:dv lv y<at1 lv+Ls.length
  ·exact zbn _ (C.cpl y hy hc hlt)
  ·have hn':dv lv y=at1 lv+Ls.length:=by
    rw[zaw,zbc] at hn;omega
   cases y with
   |is i b=>rw[vo] at hn';omega
   |jn j x z=>
    have ox:kOk n ri x:=⟨hy.1.1,fun hr=>(hy.2 hr).1⟩;have oz:kOk n ri z:=⟨hy.1.2,fun hr=>(hy.2 hr).2⟩;rw[gx] at hc ⊢;rw[km] at hn';have ax:=ki lv x;have az:=ki lv z
    have lx:dv lv x<at1 lv+Ls.length:=by
     unfold ptN at1 at *;cases lv<;>simp only[zaX,zak,zaP] at *<;>omega
    have lz:dv lv z<at1 lv+Ls.length:=by
     unfold ptN at1 at *;cases lv<;>simp only[zaX,zak,zaP] at *<;>omega
    rcases uu j (cO n x) (cO n z) hc with⟨cx,cz⟩|e|e
    ·obtain⟨k1,x1,b1,b2,b3,b4,b5,b6,b7,b8,b9⟩:=C.at' (C.cpl x ox cx lx)
     obtain⟨k2,x2,d1,d2,d3,d4,d5,d6,d7,d8,d9⟩:=C.at' (C.cpl z oz cz lz);have m1:=b9 x ox rfl;have m2:=d9 z oz rfl;have hp:ptN lv k1 k2<=at1 lv+Ls.length:=by rw[←hn'];exact qL m1 m2
     by_cases hq:ptN lv k1 k2<at1 lv+Ls.length
     ·have:=C.cpl (.jn j x1 x2) ⟨⟨b7.1,d7.1⟩,fun hr=>⟨b7.2 hr,d7.2 hr⟩⟩ (by rw[gx,b8,d8];exact hc) (by rw[km,b6,d6];exact hq)
      rw[gx,b8,d8] at this;exact zbn _ this
     ·have he:ptN lv k1 k2=at1 lv+Ls.length:=by omega
      rw[zaL];by_cases hk:k1<=k2
      ·exact hit (k1,k2) _ _ j (xm he hk b1) b4 d4 hc
      ·have he':ptN lv k2 k1=at1 lv+Ls.length:=by rw[←he];unfold ptN;split<;>omega
       rw[DQ j (cO n x) (cO n z)] at hc ⊢;exact hit (k2,k1) _ _ j (xm he' (by omega) d1) d4 b4 hc
    ·rw[e] at hc ⊢
     exact zbn _ (C.cpl x ox hc lx)
    ·rw[e] at hc ⊢
     exact zbn _ (C.cpl z oz hc lz)
 ·rcases sp i l h with h|⟨rfl,rfl⟩
  ·exact C.mn i l h u hu y hy he
  ·obtain⟨p,hp,rfl⟩:=zal.mp hu
   obtain⟨g1,g2,g3⟩:=gs p hp;by_cases hlt:dv lv y<at1 lv+Ls.length
   ·have:=C.cpl y hy (by rw[he];exact g1.2.2) hlt
    rw[he] at this;exact absurd this g3
   ·omega
 ·obtain⟨t1,t2,t3,l0,u0,t4,t5⟩:=C.tp
  split
  ·rename_i hg
   refine⟨by omega,by rw[zaw,zbc];omega,fun i l h ht=>?_,?_⟩
   ·rcases sp i l h with h|⟨rfl,rfl⟩
    ·have:=(zav.mp h).1;omega
    ·omega
   ·cases e:G with
    |nil=>rw[e] at hg;cases hg
    |cons q r=>exact⟨_,q.1,by rw[show at1 lv+Ls.length-at1 lv=Ls.length from by omega];exact List.getElem?_concat_length,by simp⟩
  ·rename_i hg
   refine⟨t1,by rw[zaw,zbc];omega,fun i l h ht=>?_,l0,u0,by rw[zbo (zav.mp t4).1];exact t4,t5⟩
   rcases sp i l h with h|⟨rfl,rfl⟩
   ·exact t3 i l h ht
   ·cases e:G with
    |nil=>rfl
    |cons q r=>rw[e] at hg;simp at hg
theorem gR.full{n:Nat}{ri lv:Bool}{F:Ca}{Ls:List (List (List Int))}{top:Nat}(C:gR n ri lv F Ls top)(h:ptN lv top top<at1 lv+Ls.length):∀y,kOk n ri y->ncT (wor n y)=true->wor n y∈F.map (·.1)
 |.is i b,hy,hc=>C.cpl _ hy hc (by rw[vo];have:=C.tp.1;have:=C.tp.2.1;omega)
 |.jn j x z,hy,hc=>by
  have ox:kOk n ri x:=⟨hy.1.1,fun hr=>(hy.2 hr).1⟩;have oz:kOk n ri z:=⟨hy.1.2,fun hr=>(hy.2 hr).2⟩;rw[gx] at hc ⊢;rcases uu j (cO n x) (cO n z) hc with⟨cx,cz⟩|e|e
  ·obtain⟨k1,x1,b1,b2,b3,b4,b5,b6,b7,b8,b9⟩:=C.at' (C.full h x ox cx)
   obtain⟨k2,x2,d1,d2,d3,d4,d5,d6,d7,d8,d9⟩:=C.at' (C.full h z oz cz);have:=C.cpl (.jn j x1 x2) ⟨⟨b7.1,d7.1⟩,fun hr=>⟨b7.2 hr,d7.2 hr⟩⟩ (by rw[gx,b8,d8];exact hc) (by rw[km,b6,d6];exact zbp (qL b3 d3) h)
   rw[gx,b8,d8] at this;exact this
  ·rw[e] at hc ⊢
   exact C.full h x ox hc
  ·rw[e] at hc ⊢
   exact C.full h z oz hc
theorem gR.Le{n:Nat}{ri lv:Bool}{F:Ca}{Ls:List (List (List Int))}{top:Nat}(C:gR n ri lv F Ls top)(h1:1<=n)(h3:n<=3):top<=24/\(lv=false->top<=8):=by
 obtain⟨t1,t2,t3,l0,u0,t4,t5⟩:=C.tp;have hF:=C.inF t4 t5;obtain⟨p,hp,e⟩:=zal.mp hF;obtain⟨k,w,c⟩:=C.snd p hp;rw[e] at w c;obtain⟨y,y1,y2,y3,y4⟩:=AD h1 h3 (C.tok hF) c (ri:=ri) (fun hr=>by rw[←w];exact ud k.1 (k.2 hr))
 have:=C.mn _ _ t4 u0 t5 y y1 y2;unfold dv at this;cases lv
 ·simp only[zak,zaP] at this
  exact⟨by omega,fun _=>by omega⟩
 ·simp only[zaX] at this
  exact⟨by omega,fun h=>by cases h⟩
section
variable{P:Program}{w:World}{K:W.Frag}{mg:Str->Option Value}{base:Heap}{t:Adr}
noncomputable abbrev Row:=List Int×Nat×Sy
noncomputable def fy(p:Row):D:=.tup [wdD p.1,.int (p.2.1:Nat),p.2.2.d]
structure iJ(n:Nat)(ri lv:Bool)(R:List Row):Prop where
 row:∀p∈R,kOk n ri p.2.2/\wor n p.2.2=p.1/\ncT p.1=true/\dv lv p.2.2=p.2.1/\p.2.1<=24/\∀y,kOk n ri y->wor n y=p.1->p.2.1<=dv lv y
 full:∀y,kOk n ri y->ncT (wor n y)=true->∃p∈R,p.1=wor n y
 ris:AF (R.map fy)
 nd:(R.map (·.1)).Nodup
 siz:∀p∈R,(ba p.2.2).size<=1000/\p.2.2.dp<=24
theorem D6{F:Ca}(h:(F.map (·.1)).Nodup){i:Nat}{p:List Int×Sy}(hp:F[i]?=some p):look (F.take i) p.1=none:=by
 have:(look (F.take i) p.1).isNone=true:=eF.mpr fun hm=>by
  obtain⟨q,hq,e⟩:=zal.mp hm;obtain⟨j,hj,rfl⟩:=zcf hq;rw[zbh] at hj;rw[List.getElem_take] at e;obtain⟨hi,rfl⟩:=zav.mp hp;have:=zbO.mp h j i (by simp;omega) (by simpa using hi) (by omega)
  simp at this;exact this e
 exact zcL.mp this
theorem lh:∀(G F:Ca),((F++G).map (·.1)).Nodup->jh (aA F) (aA G)=aA (F++G)
 | [],F,_=>by simp[jh,aA]
 |p::G,F,h=>by
  have hn:look F p.1=none:=by
   refine zcL.mp (eF.mpr fun hm=>?_);rw[zaQ,zcH] at h;exact h.2.2 p.1 hm p.1 (by simp) rfl
  have e:F++p::G=(F++[p])++G:=by simp
  rw[e] at h ⊢;rw[←lh G (F++[p]) h]
  unfold jh;show (aA G).foldl _ (kJ (aA F) (wdD p.1) (.d p.2.d))=_;rw[kP hn]
noncomputable def cS(F:Ca):Nat->List (List (List Int))->List Row
 |_,[]=>[]
 |a,l::r=>l.map (fun u=>(u,a,lk F u))++cS F (a+1) r
theorem rW(F:Ca):∀(Ls:List (List (List Int))) (a:Nat) (l:List (List Int)),cS F a (Ls++[l])=cS F a Ls++l.map fun u=>(u,a+Ls.length,lk F u)
 | [],a,l=>by simp[cS]
 |m::r,a,l=>by
  simp only[zbD,cS,rW F r (a+1) l,zaJ,zbM];rw[show a+1+r.length=a+(r.length+1) from by omega]
theorem lS(F:Ca):∀(Ls:List (List (List Int))) (a:Nat),(cS F a Ls).map (·.1)=Ls.flatten
 | [],a=>rfl
 |m::r,a=>by
  simp only[cS,zaQ,zaO,lS F r (a+1),zcF]
  congr 1
  exact(zcU fun u _=>rfl).trans (List.map_id' m)
theorem nJ{F:Ca}:∀ {Ls:List (List (List Int))} {a:Nat} {p:Row},p∈cS F a Ls->∃i l,Ls[i]?=some l/\p.1∈l/\p=(p.1,a+i,lk F p.1)
 |m::r,a,p,h=>by
  simp only[cS,zaL] at h;rcases h with h|h
  ·obtain⟨u,hu,rfl⟩:=zal.mp h
   exact⟨0,m,rfl,hu,rfl⟩
  ·obtain⟨i,l,h1,h2,h3⟩:=nJ h
   exact⟨i+1,l,h1,h2,by rw[show a+(i+1)=a+1+i from by omega];exact h3⟩
theorem tm:∀(Ls:List (List (List Int))) (a:Nat),(dz a Ls).map (fun p=>AV.d p.1)=(List.range Ls.length).map fun i=>AV.d (.int ((a+i:Nat):Int))
 | [],a=>rfl
 |l::r,a=>by
  rw[dz,zah,tm r (a+1),zaJ,List.range_succ_eq_map,zah,zaO]
  congr 1
  refine zcU fun i _=>?_;simp only[zaV];rw[show a+1+i=a+(i+1) from by omega]
theorem BK{α β:Type}{f:α->β}:∀ {X Y:List β},X.Perm Y->∀ {W:List α},Y=W.map f->∃R:List α,R.Perm W/\X=R.map f:=by
 intro X Y h
 induction h with
 |nil=>intro W e;exact⟨W,.refl _,e⟩
 |cons x p ih=>
  intro W e
  cases W with
  |nil=>cases e
  |cons w W=>
   rw[zah,zcb] at e;obtain⟨R,h1,h2⟩:=ih e.2;exact⟨w::R,h1.cons _,by rw[zah,e.1,h2]⟩
 |swap x y l=>
  intro W e
  cases W with
  |nil=>cases e
  |cons w W=>
   cases W with
   |nil=>simp at e
   |cons v W=>
    simp only[zah,zcb] at e;exact⟨v::w::W,List.Perm.swap _ _ _,by rw[zah,zah,e.1,e.2.1,e.2.2]⟩
 |trans p q ih1 ih2=>
  intro W e;obtain⟨R,h1,h2⟩:=ih2 e;obtain⟨S,h3,h4⟩:=ih1 h2;exact⟨S,h3.trans h1,h4⟩
theorem nI:∀x:Sy,dep x.d<=x.dp+1
 |.is i b=>by simp[Sy.d,dep,bW]
 |.jn a l r=>by
  have h1:=nI l;have h2:=nI r;simp only[Sy.d,dep,bW,Sy.dp];omega
theorem qi:∀x:Sy,x.dp+1<=x.lvs
 |.is _ _=>by simp[Sy.dp,Sy.lvs]
 |.jn _ l r=>by
  have h1:=qi l;have h2:=qi r;simp only[Sy.dp,Sy.lvs];omega
theorem wf:∀x:Sy,(ba x).size+1=2*x.lvs
 |.is _ _=>by simp[ba,Tr.size,Sy.lvs]
 |.jn _ l r=>by
  have h1:=wf l;have h2:=wf r;simp only[ba,Tr.size,Sy.lvs];omega
theorem Gb(lv:Bool)(x:Sy):x.dp<=dv lv x:=by
 have:=qi x;unfold dv;split<;>omega
theorem ie:∀a b:List Int,fA (a.map D.int) (b.map D.int)=true
 | [],_=>by simp[fA]
 |_::_,[]=>by simp[fA]
 |x::a,y::b=>by
  simp only[zah,fA];split
  ·exact ie a b
  ·rfl
theorem xc{a b:List Int}(h:wdD a=wdD b):a=b:=rg 0 h
theorem xC(R:List Row):(R.map fy).map hdD=(R.map (·.1)).map wdD:=by
 rw[zaO,zaO];exact zcU fun p _=>rfl
theorem GU{α β:Type}{f:α->β}(hf:∀a b,f a=f b->a=b){l:List α}(h:l.Nodup):(l.map f).Nodup:=by
 refine List.pairwise_map.mpr (h.imp fun hn e=>hn (hf _ _ e))
noncomputable def Hj:ASp:=fun xs Z Q=>∃(n:Nat)(ri lv:Bool),xs=[.d (.int n),.d (.str (if ri then "rising" else "any")),.d (.str (if lv then "leaves" else "depth"))]/\1<=n/\n<=3 /\
 ∀(R:List Row)(l:Addr)(Z':Om),iJ n ri lv R->Ex Z Z'->Z l=none->Z' l=some (.own (R.map fun p=>.d (fy p)))->Q (.r (.ref l)) Z'
theorem HA(T:Txt K mg t):a7 P t.wo K mg base CX0 8 t.ce t.hJ ["places","rule","by"] (c9 Hj):=by
 have G_put_together:a7 P t.wo K mg base _ _ _ _ _ _:=Jc T;have G_all_leaves:a7 P t.wo K mg base _ _ _ _ _ _:=GS T;have G_splits:a7 P t.wo K mg base _ _ _ _ _ _:=GD T;have G_table_by:a7 P t.wo K mg base _ _ _ _ _ _:=HH T;have G_put_in_twos:a7 P t.wo K mg base _ _ _ _ _ _:=HC T
 refine T.tK.okA bC (fun xs Z Q h=>by obtain⟨n,ri,lv,rfl,_⟩:=h;rfl) (fun cdv A outer s H E hr=>⟨_,_,(ag (Ef (C5 T.yy (DT (v:=.ref t.dG) rfl T.yC rfl) (pv 2) (fun _ _=>rfl)) (au (i:=3) bC.nd rfl (Or.inl rfl)) (au (i:=4) bC.nd rfl (Or.inl rfl)))
   (ag (aO (i:=5) bC.nd rfl (Or.inr rfl) (zz (N:=(["leaf","places"] : List Str)) (src:=[none,some 0]) rfl hr.Kx (by show cf _ (defScope dQ) _ _ (["places","rule","by","number","top","found","levels","fresh"] : List Str) = true;decide +kernel) (cy K rfl (aH G_all_leaves (hr.mono (by omega)) (by rfl) T.qR T.rH T.qG .nil br (ab (pv 0) (ab (pv 1) af)))) (fun _ _ _ _ _ _=>(au (i:=0) (show (["leaf","places"] : List Str).Nodup by decide +kernel) rfl (Or.inl rfl))) (fun _ _ _ _ _ _=>(aH G_table_by (hr.mono (by omega)) (by rfl) T.wk T.uY T.vB .nil br (ab (pv 1) (ab (pv 0) af)))) (fun _ _ _ _ _ _=>(pv 0))))
   (ag (aO (i:=6) bC.nd rfl (Or.inr rfl) (uZ hr.Kx (pv 3) (cV (li rfl) (by rfl) T.uS (by kernel_rfl) (ab (pv 5) af))))
   (ag (jO zbg (aF ye (pv 3) (aH G_put_together (hr.mono (by omega)) (by rfl) T.oh T.mX T.mL .nil br (ab (pv 2) (ab (pv 4) (ab (pv 4) af)))) (aR _)) (ag (F5 (i:=3) bC.nd rfl (Or.inl rfl) ai Ec)
   (ag (aO (i:=7) bC.nd rfl (Or.inl rfl) (aH G_put_in_twos (hr.mono (by omega)) (by rfl) T.oK T.oG T.oM .nil br (ab (pv 5) (ab (pv 6) (ab (aH G_splits (hr.mono (by omega)) (by rfl) T.A9 T.CL T.Aj .nil br (ab (pv 2) (ab (pv 3) af))) af)))))
   (ag (dq (B7 hr.Ll (pv 5) (pv 7) ⟨rfl,rfl,rfl,rfl⟩))
   (ag (uh hr.Kx (pv 6) (pv 3) (cV (li rfl) (by rfl) T.uS (by kernel_rfl) (ab (pv 7) af)) rfl)
   (ak (bM (aF EG (aM vX (by rfl) T.pS (by kernel_rfl) (ab (pv 7) af)) ai (aR _)) (ak (aO (i:=4) bC.nd rfl (Or.inl rfl) (pv 3))) a9)))))))
   (ak (Eh 6 (aG (aM (rL K rfl hr.Kx) (by rfl) T.tq (by kernel_rfl) (ab (cq (N:=(["level","table","found","levels"]:List Str)) (src:=[none,none,some 5,some 6]) rfl (by show cf _ (defScope dQ) _ _ (["places","rule","by","number","top","found","levels","fresh"]:List Str)=true;decide +kernel) (by intro g' h;cases h;rfl) (HX (pv 6)) (fun _ _ _ _ _ _=>(au (i:=0) (show (["level","table","found","levels"]:List Str).Nodup by decide +kernel) rfl (Or.inl rfl))) (fun _ _ _ _ _ _=>bB) (fun _ _ _ _ _ _=>(uT rfl rfl rfl (by intro g' h;cases h) (cy K rfl (j8 hr.Kx (pv 3) (pv 0) (fun _ _=>rfl))) (au (i:=1) (show (["level","table","found","levels"]:List Str).Nodup by decide +kernel) rfl (Or.inl rfl)) bB (bV rfl rfl (cu (ab (pv 1) (ab (pv 0) (ab (j8 hr.Kx (pv 2) (pv 1) (fun _ _=>rfl)) af)))))))) af))))))))),(aw (GH (Gp aa) am am)
   (aw (aZ (C0 (fF (aX (ae aa (ae aa aj)))) am (aX (ae aa (ae aa aj))) aa) am)
   (aw (aZ (yR aa (cI sq (ae aa aj))) am)
   (aw (mi (aL (aq jB aa (aX (ae aa (ae aa (ae aa aj)))))) (aw (JF dX ap)
   (aw (aZ (aX (ae aa (ae aa (ae (aX (ae aa (ae aa aj))) aj)))) am)
   (aw (eZ (DY aa aa))
   (aw (ya aa aa (cI sq (ae aa aj)))
   (dC (aL (aq jB (cI Ds (ae aa aj)) ap)) (aZ aa am) bw))))))
   (DK (a0 (cI BN (ae (dW (J6 aa) am gF (zE (fF (pG aa aa)) am gF (cN (dY (ae aa (ae aa (ae (pG aa aa) aj))))))) aj)))))))),fun xs Z Q h=>?_⟩)
 obtain⟨n,ri,lv,rfl,h1,h3,k⟩:=h
 have h8:2^n<=8:=by
  have:n=1\/n=2\/n=3:=by omega
  rcases this with rfl|rfl|rfl<;>decide
 walk_at "s1";refine⟨.int (at1 lv:Nat),by cases lv<;>decide +kernel,_,rfl,?_⟩
 refine jx (fun ρ' Z'=>∃pf,Z pf=none/\Z'=Z.put pf (.sto (aA (F0 n ri)))/\ρ'=[some (.d (.int n)),some (.d (.str (if ri=true then "rising" else "any"))),some (.d (.str (if lv=true then "leaves" else "depth"))),some (.d (.int (at1 lv:Nat))),some (.d (.int (at1 lv:Nat))),some (.r (.ref pf)),none,none]) ?_ ?_
 ·walk_at "a1"
  intro N kN;refine⟨n,ri,rfl,by omega,_,rfl,fun pf hpf=>?_⟩
  have st:=pE h1 h3 ri lv;refine CJ (fun i ρ Z'=>Z'=Z.put pf (.sto (aA ((F0 n ri).take i)))/\∃v,ρ=[v,some (.d (.int n))]) ⟨rfl,_,rfl⟩ ?_ ?_
  ·rintro i a ρ Z1 N1 ha ⟨rfl,v,rfl⟩ kN1
   rw[zaO,zam,zas] at ha;obtain⟨x,hx,rfl⟩:=ha;have hxm:=zaz hx
   obtain⟨j,b,rfl⟩:∃j b,x=.is j b:=by
    obtain⟨j,_,hx⟩:=zdm.mp hxm;obtain⟨b,_,rfl⟩:=zal.mp hx;exact⟨_,_,rfl⟩
   have hF:(F0 n ri)[i]?=some (wor n (.is j b),.is j b):=by unfold F0;rw[zam,hx];rfl
   have hk:=(st.snd _ (zaz hF)).1;have fz:((F0 n ri).take i).length<=256:=zaN (List.length_take_le' ..) (st.ok.len h8);walk_at "a1";refine⟨n,_,rfl,by omega,hk.1,zbL _,_,Om.Kv,_,rfl,some 0,nS _,dr _,zbp (by simpa[aA] using fz) (aV (n:=256) (by decide)),?_⟩
   refine kN1 _ _ ⟨?_,_,rfl⟩;rw[Om.Kz]
   congr 2
   simp only[zaV];rw[kP (D6 st.ok.1 hF),zbU,hF];rfl
  ·rintro ρ Z1 ⟨rfl,v,rfl⟩
   refine kN _ _ ⟨pf,hpf,?_,rfl⟩;rw[List.take_of_length_le (by simp[F0])]
 ·rintro ρ' Z' ⟨pf,hpf,rfl,rfl⟩
  walk_at "s1";intro pl hpl;have hne:pl≠pf:=fun e=>by rw[e,Om.Kv] at hpl;cases hpl
  have hpl':Z pl=none:=by rw[Om.Kw hne] at hpl;exact hpl
  refine⟨_,.inl ⟨pf,rfl,by rw[Om.Kw (zbJ hne),Om.Kv]⟩,⟨none,_,rfl⟩,?_⟩
  obtain⟨Pv,iP⟩:=Em fun m ρ Z'=>∃(F:Ca) (Ls:List (List (List Int))) (top N:Nat),gR n ri lv F Ls top/\Ex Z Z'/\Z' pf=some (.sto (aA F))/\Z' pl=some (.sto (dz (at1 lv) Ls))/\N+1=at1 lv+Ls.length/\m+Ls.length=100/\Ls.length<=60 /\
   ∃v7,ρ=[some (.d (.int n)),some (.d (.str (if ri=true then "rising" else "any"))),some (.d (.str (if lv=true then "leaves" else "depth"))),some (.d (.int (N:Nat))),some (.d (.int (top:Nat))),some (.r (.ref pf)),some (.r (.ref pl)),v7]
  walk_at "s1";refine⟨Pv,⟨99,(iP _ _ _).mpr ⟨F0 n ri,[(F0 n ri).map (·.1)],at1 lv,at1 lv,pE h1 h3 ri lv,((Ex.refl Z).new hpf).new (by rw[Om.Kw hne];exact hpl'),by rw[Om.Kw (zbJ hne),Om.Kv],by rw[Om.Kv];simp[dz,aA],by simp,by simp,by simp,_,rfl⟩⟩,fun m ρ Z' hP=>?_⟩
  obtain⟨F,Ls,top,N,C,ex,ef,el,eN,em,e60,v7,rfl⟩:=(iP _ _ _).mp hP;obtain⟨ht,ht8⟩:=C.Le h1 h3;walk_at "a1";refine⟨lv,top,top,rfl,?_⟩;walk_at "a1";refine fc (fun hc=>?_) (fun hc=>?_)
  ·have hc':N<ptN lv top top:=by omega
   have hN:N<49:=zaD hc' (zaN (qL ht ht) (by cases lv<;>decide))
   refine⟨fun ρ' Z'=>Pv (m-1) ρ' Z',fun ρ' Z' h=>⟨m-1,by omega,h⟩,?_⟩
   walk_at "s1";have hw:=fun p hp=>yk (lv:=lv) (m:=at1 lv+Ls.length) (by have:=C.tp.1;have:=C.tp.2.1;omega) (p:=p) hp
   rw[show (N:Int)+1=((at1 lv+Ls.length:Nat):Int) from by omega]
   have S:=C.step;have gok:=yo (F:=F) (a:=at1 lv) (Ls:=Ls) (ws:=cD lv (at1 lv+Ls.length)) (fun q u h=>C.Lk q h);generalize hm:at1 lv+Ls.length=M at *;walk_at "s1";refine⟨lv,M,rfl,by omega,pf,pl,F,at1 lv,2^n,Ls,cD lv M,rfl,ef,el,fun p hp=>?_,fun l hl u hu=>?_,h8,fun p hp=>?_⟩
   ·obtain⟨_,a1,a2,a3,a4⟩:=hw p hp
    exact⟨a1,by omega,a3,by omega⟩
   ·obtain⟨i,hi,rfl⟩:=zcf hl
    have hg:=zae hi;obtain⟨x,hx,_⟩:=C.lvl i _ hg u hu;exact⟨C.tok (C.inF hg hu),by rw[hx];rfl⟩
   generalize pit F (at1 lv) Ls (cD lv M)=G at *;have np:p≠pf:=fun e=>by rw[e,ef] at hp;cases hp
   have nq:p≠pl:=fun e=>by rw[e,el] at hp;cases hp
   walk_at "s1";have e1:(Z'.put p (.sto (aA G))) pf=some (.sto (aA F)):=by rw[Om.Kw (zbJ np)];exact ef
   have e2:(Z'.put p (.sto (aA G))) pl=some (.sto (dz (at1 lv) Ls)):=by rw[Om.Kw (zbJ nq)];exact el
   have fn:aA F≠[]:=fun z=>by
    obtain⟨_,_,_,l0,u0,t4,t5⟩:=C.tp;have:=C.inF t4 t5
    cases F with
    |nil=>cases this
    |cons q r=>cases z
   have hz:=S.ok.len h8;rw[zaw] at hz;refine⟨⟨_,e1⟩,_,e1,_,rfl,zbJ np,some 0,dr F,dr G,zbd (zbp (by simpa[aA] using hz) (aV (n:=256) (by decide))),fun z=>absurd z fn,?_⟩
   rw[lh G F S.ok.1];have e3:((Z'.put p (.sto (aA G))).put pf (.sto (aA (F++G)))) p=some (.sto (aA G)):=by rw[Om.Kw np,Om.Kv]
   have e4:((Z'.put p (.sto (aA G))).put pf (.sto (aA (F++G)))) pl=some (.sto (dz (at1 lv) Ls)):=by rw[Om.Kw hne];exact e2
   walk_at "s1";refine⟨_,.inl ⟨p,rfl,e3⟩,_,e4,none,⟨_,rfl⟩,mQ Ls _,by rw[xf];exact aV (by omega),_,.inl ⟨p,rfl,by rw[Om.Kw nq];exact e3⟩,?_⟩
   have ek:(aA G).map (fun x=>x.1)=(G.map (·.1)).map wdD:=by simp[aA]
   rw[ek,←hm,Dp,hm]
   have fin:∀Z2:Om,Z2=(((Z'.put p (.sto (aA G))).put pf (.sto (aA (F++G)))).put pl (.sto (dz (at1 lv) (Ls++[G.map (·.1)]))))->Ex Z Z2/\Z2 pf=some (.sto (aA (F++G)))/\Z2 pl=some (.sto (dz (at1 lv) (Ls++[G.map (·.1)]))):=fun Z2 h=>by
    subst h;exact⟨((ex.new hp).over hpf).over hpl',by rw[Om.Kw (zbJ hne),Om.Kv],Om.Kv⟩
   obtain⟨x1,x2,x3⟩:=fin _ rfl;refine fc (fun hg=>?_) (fun hg=>?_)
   ·rw[zaf (by simpa[aA] using hg)] at S
    exact(iP _ _ _).mpr ⟨F++G,_,M,M,S,x1,x2,x3,by rw[zaw,zbc];omega,by rw[zaw,zbc];omega,by rw[zaw,zbc];omega,_,rfl⟩
   ·rw[zad (by simpa[aA] using hg)] at S
    exact(iP _ _ _).mpr ⟨F++G,_,top,M,S,x1,x2,x3,by rw[zaw,zbc];omega,by rw[zaw,zbc];omega,by rw[zaw,zbc];omega,_,rfl⟩
  ·have hc':ptN lv top top<at1 lv+Ls.length:=by omega
   have nd:(F.map (·.1)).Nodup:=C.ok.1
   have hz:=C.ok.len h8;refine⟨_,el,pl,_,rfl,?_⟩;rw[tm];have ef':(Z'.del pl) pf=some (.sto (aA F)):=by rw[Om.KD (zbJ hne)];exact ef
   have hrow:∀i,(cS F (at1 lv) (Ls.take i)).length<=F.length:=fun i=>by
    have h1:=zcB List.length (lS F (Ls.take i) (at1 lv));have h2:=zcB List.length C.fl
    have h3:(Ls.take i).flatten.length<=Ls.flatten.length:=by
     have:=zcB (fun l=>(List.flatten l).length) (zdj i Ls);simp only[List.flatten_append,zaw] at this;omega
    simp only[zaA] at h1 h2;omega
   refine l9 (fun i xs ρ Z1=>Z1=Z'.del pl/\(∃v0 v1,ρ=[v0,v1,some (.r (.ref pf)),some (shS pl (dz (at1 lv) Ls))])/\xs=((cS F (at1 lv) (Ls.take i)).map fy).map AV.d) ⟨rfl,⟨_,_,rfl⟩,rfl⟩ ?_ ?_
   ·rintro i a xs ρ Z1 N1 ha ⟨rfl,⟨v0,v1,rfl⟩,rfl⟩ kN1
    rw[zam,zas] at ha;obtain⟨i',hi',rfl⟩:=ha;obtain⟨hi,rfl⟩:=zav.mp hi';rw[zcG] at hi;simp only[List.getElem_range];walk_at "a1";refine⟨_,.inr ⟨pl,rfl⟩,none,⟨_,rfl⟩,mQ Ls _,_,lR Ls (at1 lv) (at1 lv+i) (by omega) (by omega),_,rfl,?_⟩
    have hlv:lev (at1 lv) Ls (at1 lv+i)=Ls[i]:=by unfold lev;rw[show at1 lv+i-at1 lv=i from by omega,zae hi];rfl
    have hg:=zae hi;have hr:=hrow (i+1);rw[hlv];rw[zbU,hg,Option.toList_some,rW,zbh,Nat.min_eq_left (zbd hi)] at kN1 hr;rw[zaw,zaA] at hr;refine CO (fun j xs ρ Z1=>Z1=Z'.del pl/\(∃v1,ρ=[some (.d (.int ((at1 lv+i:Nat):Int))),v1,some (.r (.ref pf)),some (shS pl (dz (at1 lv) Ls))])/\xs=((cS F (at1 lv) (Ls.take i)++(Ls[i].take j).map fun u=>(u,at1 lv+i,lk F u)).map fy).map AV.d) ⟨rfl,⟨_,rfl⟩,by simp⟩ ?_ ?_
    ·rintro j d xs ρ Z1 N2 hd ⟨rfl,⟨v1,rfl⟩,rfl⟩ kN2
     obtain⟨u,hu,rfl⟩:=L2.eh hd;obtain⟨x,hx,_⟩:=C.lvl i _ hg u (zaz hu);have hj:=(zav.mp hu).1;rw[zbU,hu] at kN2;walk_at "a1";refine⟨_,.inl ⟨pf,rfl,ef'⟩,some 0,nS u,dr F,_,by rw[fX,hx];rfl,?_⟩
     have elk:lk F u=x:=by unfold lk;rw[hx];rfl
     refine⟨_,rfl,zbp (m:=256) (by rw[zbh];omega) (aV (by decide)),kN2 _ _ _ ⟨rfl,⟨_,rfl⟩,?_⟩⟩
     simp[fy,elk]
    ·rintro xs ρ Z1 ⟨rfl,⟨v1,rfl⟩,rfl⟩
     rw[zaA,zbC];exact kN1 _ _ _ ⟨rfl,⟨_,_,rfl⟩,rfl⟩
   ·rintro xs ρ Z1 ⟨rfl,⟨v0,v1,rfl⟩,rfl⟩
    rw[zaA,zcG,zbC];refine⟨_,be _,?_⟩;rw[ww];have nd':((cS F (at1 lv) Ls).map (·.1)).Nodup:=by rw[lS,C.fl];exact C.ok.1
    have hsz:∀p∈cS F (at1 lv) Ls,(ba p.2.2).size<=1000/\p.2.2.dp<=24:=fun p hp=>by
     obtain⟨i,l,g1,g2,g3⟩:=nJ hp;obtain⟨x,hx,hx2⟩:=C.lvl i l g1 p.1 g2;have el:lk F p.1=x:=by unfold lk;rw[hx];rfl
     have hit:at1 lv+i<=top:=by
      by_cases ht:top<at1 lv+i
      ·rw[C.tp.2.2.1 i l g1 ht] at g2;cases g2
      ·omega
     rw[g3];simp only[el];have a1:=wf x;have a2:=qi x;have a3:=iw x;unfold dv at hx2
     cases lv with
     |true=>simp only[zaX] at hx2;omega
     |false=>
      simp only[zak,zaP] at hx2;have h8:=ht8 rfl;have:2^(x.dp+1)<=2^9:=zaW (by decide) (by omega)
      omega
    have hrw:∀p∈cS F (at1 lv) Ls,kOk n ri p.2.2/\wor n p.2.2=p.1/\ncT p.1=true/\dv lv p.2.2=p.2.1/\p.2.1<=24/\∀y,kOk n ri y->wor n y=p.1->p.2.1<=dv lv y:=fun p hp=>by
     obtain⟨i,l,g1,g2,g3⟩:=nJ hp;obtain⟨x,hx,hx2⟩:=C.lvl i l g1 p.1 g2;obtain⟨s1,s2,s3⟩:=C.snd _ (iA hx);have el:lk F p.1=x:=by unfold lk;rw[hx];rfl
     rw[g3];simp only[el] at *;refine⟨s1,s2,s3,hx2,?_,C.mn i l g1 p.1 g2⟩;by_cases ht:top<at1 lv+i
     ·rw[C.tp.2.2.1 i l g1 ht] at g2;cases g2
     ·omega
    refine⟨_,_,rfl,.inr rfl,⟨fun d hd=>?_,fun d hd e he=>?_,?_⟩,?_,fun R' l hp hr hl=>?_⟩
    ·obtain⟨p,hp,rfl⟩:=zal.mp hd
     exact⟨_,_,rfl,by have:=m6 0 p.1;simpa[kD,wdD,nu] using this⟩
    ·obtain⟨p,hp,rfl⟩:=zal.mp hd
     obtain⟨q,hq,rfl⟩:=zal.mp he;exact ie p.1 q.1
    ·rw[xC]
     exact GU (fun _ _=>xc) nd'
    ·refine iu fun d hd=>?_
     obtain⟨p,hp,rfl⟩:=zal.mp hd;obtain⟨g1,g2,g3,g4,g5,_⟩:=hrw p hp;have d1:=nI p.2.2;have d2:=Gb lv p.2.2;have d3:=eD p.1;simp only[fy,wdD,dep,bW];omega
    ·obtain⟨R,hR,rfl⟩:=BK hp rfl
     have ex':Ex Z (Z'.del pl):=fun b hb=>by
      have:b≠pl:=fun e=>by rw[e,hpl'] at hb;cases hb
      rw[Om.KD this];exact ex b hb
     refine k R l _ ⟨fun p hp=>hrw p (hR.mem_iff.mp hp),fun y hy hc=>?_,hr,(hR.map _).nodup_iff.mpr nd',fun p hp=>hsz p (hR.mem_iff.mp hp)⟩ (ex'.new hl) (ex'.none hl) (by rw[Om.Kv,zaO];rfl)
     have:=C.full hc' y hy hc;rw[←C.fl,←lS F Ls (at1 lv)] at this
     obtain⟨p,hp,e⟩:=zal.mp this;exact⟨p,hR.mem_iff.mpr hp,e⟩
theorem Bs:∀n:Fin 6,∀i:Fin 32,∀v∈(wl n.val)[i.val]?,v=(List.range n.val).map fun(p:Nat)=>Builtin.bitAnd ((i.val:Int) / 2^(((n.val:Nat):Int)-1-(p:Int)).toNat) 1:=by decide +kernel
noncomputable def Ht:ASp:=fun xs Z Q=>∃i:Int,xs=[.d (.int i)]/\Q (.d (.bl true)) Z
theorem zJ(T:Txt K mg t):a7 P w K mg base CX0 1 t.dI t.jU ["_law_thing"] (c9 Ht):=by
 refine T.yJ.okD u6 (fun xs Z Q h=>by obtain⟨i,rfl,_⟩:=h;rfl) (fun cdv A outer s H E hr=>⟨_,_,(ak (aG (xT K rfl (aM f7 (by rfl) T.cn (by kernel_rfl) (ab (pv 0) (ab (ii (v:=.ty "int") (by rfl) T.BI (by kernel_rfl) (by rfl)) af))) (B5 (Ei K rfl (aM f7 (by rfl) T.cn (by kernel_rfl) (ab (pv 0) (ab (ii (v:=.ty "bool") (by rfl) T.FV (by kernel_rfl) (by rfl)) af)))))))),(a0 (BO (cI o9 (ae aa (ae pI aj))) (GF (cI o9 (ae aa (ae pI aj)))))),fun xs Z Q h=>?_⟩)
 obtain⟨i,rfl,k⟩:=h;walk_at "a1";rw[aW];exact⟨by decide,vq ⟨by decide,k⟩⟩
noncomputable def bP(f:Nat->Bool):Nat->Nat
 |0=>0
 |i+1=>bP f i ||| (if f i then 2^i else 0)
theorem jg(f:Nat->Bool):∀i k,(bP f i).testBit k=(decide (k<i) && f k)
 |0,k=>by simp[bP]
 |i+1,k=>by
  rw[bP,Nat.testBit_or,jg f i k];by_cases h:k=i
  ·subst h
   cases e:f k<;>simp[Nat.testBit_two_pow_self]
  ·have:(if f i then 2^i else 0:Nat).testBit k=false:=by
    split
    ·rw[Nat.testBit_two_pow];simp;omega
    ·simp
   rw[this,Bool.or_false]
   congr 1
   exact decide_eq_decide.mpr (by omega)
theorem FL(f:Nat->Bool):∀i,bP f i<2^i
 |0=>by simp[bP]
 |i+1=>by
  rw[bP];refine Nat.or_lt_two_pow (Nat.lt_trans (FL f i) (Nat.pow_lt_pow_right (by decide) (by omega))) ?_
  split
  ·exact Nat.pow_lt_pow_right (by decide) (by omega)
  ·exact Nat.two_pow_pos _
theorem FZ(f:Nat->Bool)(i:Nat):bP f (i+1)=bP f i+(if f i then 2^i else 0):=by
 rw[bP];split
 ·have:=Nat.two_pow_add_eq_or_of_lt (FL f i) 1
  rw[Nat.or_comm,←Nat.mul_one (2^i),←this]
  omega
 ·simp
noncomputable def bF(u:List Int)(k:Nat):Bool:=decide (u.getD k 0=1)
noncomputable def bT(u:List Int):Nat:=bP (bF u) u.length
theorem GP{m:Nat}{s u:List Int}(hs:TOk m s)(hu:TOk m u):bT s &&& bT u=bT (jT true s u):=by
 refine Nat.eq_of_testBit_eq fun k=>?_;rw[Nat.testBit_and];unfold bT;rw[jg,jg,jg,(BP true hs hu).1,hs.1,hu.1];by_cases hk:k<m
 ·have i1:k<s.length:=by rw[hs.1];exact hk
  have i2:k<u.length:=by rw[hu.1];exact hk
  simp only[hk,zdp,Bool.true_and,bF,jT,zaX,zag,List.getElem?_zipWith,zae i1,zae i2,zct];rcases hs.2 _ (zaE i1) with a|a<;>rcases hu.2 _ (zaE i2) with b|b<;>rw[a,b]<;>decide
 ·simp[hk]
theorem HP{m:Nat}{s u:List Int}(hs:TOk m s)(hu:TOk m u):bT s ||| bT u=bT (jT false s u):=by
 refine Nat.eq_of_testBit_eq fun k=>?_;rw[Nat.testBit_or];unfold bT;rw[jg,jg,jg,(BP false hs hu).1,hs.1,hu.1];by_cases hk:k<m
 ·have i1:k<s.length:=by rw[hs.1];exact hk
  have i2:k<u.length:=by rw[hu.1];exact hk
  simp only[hk,zdp,Bool.true_and,bF,jT,zak,zaP,zag,List.getElem?_zipWith,zae i1,zae i2,zct];rcases hs.2 _ (zaE i1) with a|a<;>rcases hu.2 _ (zaE i2) with b|b<;>rw[a,b]<;>decide
 ·simp[hk]
noncomputable def qV(r:Nat):ASp:=fun xs Z Q=>∃(n:Nat)(x:Sy),xs=[.d (.int n),.d x.d]/\n<=5/\x.ok n/\x.dp<=r/\Q (.d (.int (bT (wor n x):Nat))) Z
theorem o0(T:Txt K mg t)(r:Nat)(kk:Nat)(sp:ASp)(G_l_mask:a7 P w K mg base CX0 kk t.da t.gH ["_law_places","_law_saying"] (c9 sp))(hs:∀r',r=r'+1->sp=qV r'):
  a7 P w K mg base CX0 (kk+1) t.da t.gH ["_law_places","_law_saying"] (c9 (qV r)):=by
 refine T.Al.okD dH (fun xs Z Q h=>by obtain⟨n,x,rfl,_⟩:=h;rfl) (fun cdv A outer s H E hr=>⟨_,_,(ag (qQ (pv 1) (gl K rfl (n:=3) rfl (bf (au (i:=2) dH.nd rfl (Or.inl rfl)) (bf (au (i:=3) dH.nd rfl (Or.inl rfl)) (bf (au (i:=4) dH.nd rfl (Or.inl rfl)) gn)))))
   (ag (bM (aF (bQ hr.Kx) (pv 2) aQ (aR _)) (ag (aO (i:=5) dH.nd rfl (Or.inl rfl) ai)
   (ag (eQ zbg rfl (ck rfl T.dm (ab (aE gM ai (pv 0)) af)) (au (i:=6) dH.nd rfl (Or.inl rfl)) (ak (aO (i:=5) dH.nd rfl (Or.inl rfl) (aE xQ (pv 5) (aE gM (cV pe (by rfl) T.BI (by kernel_rfl) (ab (l7 (bQ hr.Kx) (aE j0 (aE qr (pv 6) (aE nO (aE nO (pv 0) ai) (pv 3))) ai) (pv 4) (aR _)) af)) (pv 6))))))
   (ak (aG (pv 5))))) a9)
   (ag (bM (aF (bQ hr.Kx) (pv 2) aQ (aR _)) (ak (aG (aE j0 (aH G_l_mask (hr.mono (by omega)) (by rfl) T.gY T.hV T.gT .nil br (ab (pv 0) (ab (pv 3) af))) (aH G_l_mask (hr.mono (by omega)) (by rfl) T.gY T.hV T.gT .nil br (ab (pv 0) (ab (pv 4) af)))))) a9)
   (ak (aG (aE xQ (aH G_l_mask (hr.mono (by omega)) (by rfl) T.gY T.hV T.gT .nil br (ab (pv 0) (ab (pv 3) af))) (aH G_l_mask (hr.mono (by omega)) (by rfl) T.gY T.hV T.gT .nil br (ab (pv 0) (ab (pv 4) af))))))))),(aw (aZ aa (ms (ci am (ci am (ci am nW)))))
   (aw (dC (aL (aq bR aa bz)) (aw (aZ ap am)
   (aw (gJ (gu (ae (aq er ap aa) aj)) am (aZ (aq dX aa (aq er (cI Fk (ae (aq bR (aq dX (aq er aa (aq dX (aq dX aa ap) aa)) ap) aa) aj)) aa)) am))
   (a0 aa))) bw)
   (aw (dC (aL (aq bR aa bz)) (a0 (aq dX (aX (ae aa (ae aa aj))) (aX (ae aa (ae aa aj))))) bw)
   (a0 (aq dX (aX (ae aa (ae aa aj))) (aX (ae aa (ae aa aj)))))))),fun xs Z Q h=>?_⟩)
 obtain⟨n,x,rfl,hn,ho,hd,k⟩:=h
 cases x with
 |is i b=>
  simp only[Sy.d];walk_at "s1";walk_at "s1";walk_at "s1";walk_at "s1";obtain⟨i0,i1,hb⟩:=ho;obtain⟨i',rfl⟩:=zdI i0;have i2:i'<n:=by omega
  have e2:(1:Int)*2^n=((2^n:Nat):Int):=by simp
  have h32:2^n<=32:=zaN (zaW (by decide) hn) (by decide)
  have hlen:(wl n).length=2^n:=jZ n;have hwl:(wor n (.is (i':Nat) b)).length=2^n:=(cO n _).1;rw[e2];generalize 2^n=z at *;refine⟨⟨by omega,by omega,by decide⟩,by omega,by omega,?_⟩
  rw[zba];refine io (fun q ρ Z'=>Z'=Z/\∃v6,ρ=[some (.d (.int n)),some (.d (.tup [.str "is",.int (i':Nat),.int b])),some (.d (.str "is")),some (.d (.int (i':Nat))),some (.d (.int b)),some (.d (.int (bP (bF (wor n (.is (i':Nat) b))) q:Nat))),v6]) ⟨rfl,_,rfl⟩ ?_ ?_
  ·rintro q ρ Z1 N hq ⟨rfl,v6,rfl⟩ kN
   have hq':q<(wl n).length:=by omega
   have hv:=zae hq';have ev:=Bs ⟨n,by omega⟩ ⟨q,by omega⟩ (wl n)[q] hv
   have eb:Builtin.bitAnd ((q:Int) / 2^((n:Int)-1-(i':Int)).toNat) 1=((wl n)[q]).getD i' 0:=by
    rw[ev,zag,zam,List.getElem?_range (by omega)]
    rfl
   have ef:bF (wor n (.is (i':Nat) b)) q=decide (((wl n)[q]).getD i' 0=b):=by
    unfold bF wor;rw[zag,zam,hv];simp only[zcc,zct,Sy.val,zba];exact(fun c:Bool=>by cases c<;>decide:∀c:Bool,decide (b01 c=1)=c) _
   walk_at "a1";rw[zdD,eb]
   have e3:(if ((wl n)[q]).getD i' 0=b then (1:Int) else 0)*2^((q:Int)).toNat=((if bF (wor n (.is (i':Nat) b)) q=true then 2^q else 0:Nat):Int):=by
    rw[ef,zba];by_cases h:((wl n)[q]).getD i' 0=b
    ·rw[zaf h,zbq h,zaf rfl];simp
    ·rw[zad h,zaK h,zad zat];simp
   rw[e3,kG];exact⟨by omega,⟨by omega,by omega,by split<;>decide⟩,kN _ _ ⟨rfl,_,rfl⟩⟩
  ·rintro ρ Z1 ⟨rfl,v6,rfl⟩
   walk_at "a1";rw[aW];unfold bT at k;rw[hwl] at k;exact k
 |jn j x y=>
  obtain⟨r',rfl⟩:∃r',r=r'+1:=⟨r-1,by simp only[Sy.dp] at hd;omega⟩
  cases hs r' rfl;simp only[Sy.d];walk_at "s1";walk_at "s1";refine fc (fun h=>absurd h (by cases j<;>decide +kernel)) (fun _=>?_)
  walk_at "s1";have t1:=cO n x;have t2:=cO n y;simp only[Sy.dp] at hd;refine fc (fun h=>?_) (fun h=>?_)
  ·cases (sw (by decide +kernel)).mp h
   refine⟨n,x,rfl,hn,ho.1,by omega,n,y,rfl,hn,ho.2,by omega,_,rfl,_,rfl,?_⟩
   rw[aW,n6,GP t1 t2,←gx]
   exact k
  ·have h':j=false:=by simpa using fun z=>h ((sw (by decide +kernel)).mpr z)
   subst h';refine⟨n,x,rfl,hn,ho.1,by omega,n,y,rfl,hn,ho.2,by omega,_,rfl,_,rfl,?_⟩
   rw[aW,kG,HP t1 t2,←gx]
   exact k
theorem wC(T:Txt K mg t):∀r,a7 P w K mg base CX0 (r+1) t.da t.gH ["_law_places","_law_saying"] (c9 (qV r))
 |0=>o0 T 0 0 Hg E7 (fun r' h=>by omega)
 |r+1=>o0 T (r+1) (r+1) _ (wC T r) (fun r' h=>by cases h;rfl)
noncomputable def rF(r:Nat):ASp:=fun xs Z Q=>∃(x:Sy),xs=[.d x.d]/\x.up/\x.dp<=r/\Q (.d (.bl true)) Z
theorem pN(T:Txt K mg t)(r:Nat)(kk:Nat)(sp:ASp)(G_l_is_bare:a7 P w K mg base CX0 kk t.bD t.dS ["_law_saying"] (c9 sp))(hs:∀r',r=r'+1->sp=rF r'):
  a7 P w K mg base CX0 (kk+1) t.bD t.dS ["_law_saying"] (c9 (rF r)):=by
 refine T.sV.okD d0 (fun xs Z Q h=>by obtain⟨x,rfl,_⟩:=h;rfl) (fun cdv A outer s H E hr=>⟨_,_,(ag (qQ (pv 0) (gl K rfl (n:=3) rfl (bf (au (i:=1) d0.nd rfl (Or.inl rfl)) (bf (au (i:=2) d0.nd rfl (Or.inl rfl)) (bf (au (i:=3) d0.nd rfl (Or.inl rfl)) gn)))))
   (ag (bM (aF (bQ hr.Kx) (pv 1) aQ (aR _)) (ak (aG (l7 (bQ hr.Kx) (pv 3) ai (aR _)))) a9)
   (ak (aG (xT K rfl (aH G_l_is_bare (hr.mono (by omega)) (by rfl) T.gG T.gI T.gO .nil br (ab (pv 2) af)) (B5 (aH G_l_is_bare (hr.mono (by omega)) (by rfl) T.gG T.gI T.gO .nil br (ab (pv 3) af)))))))),(aw (aZ aa (ms (ci am (ci am (ci am nW)))))
   (aw (dC (aL (aq bR aa bz)) (a0 (aq bR aa ap)) bw)
   (a0 (BO (aX (ae aa aj)) (aX (ae aa aj)))))),fun xs Z Q h=>?_⟩)
 obtain⟨x,rfl,ho,hd,k⟩:=h
 cases x with
 |is i b=>
  simp only[Sy.d];simp only[Sy.up] at ho;subst ho;walk_at "s1";walk_at "s1";rw[aW];exact k
 |jn j x y=>
  obtain⟨r',rfl⟩:∃r',r=r'+1:=⟨r-1,by simp only[Sy.dp] at hd;omega⟩
  cases hs r' rfl;simp only[Sy.d];simp only[Sy.dp] at hd;walk_at "s1";walk_at "s1";refine fc (fun h=>absurd h (by cases j<;>decide +kernel)) (fun _=>?_)
  exact⟨x,rfl,ho.1,by omega,_,rfl,vq ⟨y,rfl,ho.2,by omega,_,rfl,by rw[aW];exact k⟩⟩
theorem xW(T:Txt K mg t):∀r,a7 P w K mg base CX0 (r+1) t.bD t.dS ["_law_saying"] (c9 (rF r))
 |0=>pN T 0 0 Hg E7 (fun r' h=>by omega)
 |r+1=>pN T (r+1) (r+1) _ (xW T r) (fun r' h=>by cases h;rfl)
noncomputable def Dx:ASp:=fun xs Z Q=>∃(n:Nat)(x:Sy),xs=[.d (.int n),.d x.d]/\x.ok n/\(ba x).size<=100000/\Q (.d (.bl true)) Z
theorem CZ(T:Txt K mg t):a7 P w K mg base CX0 2 t.bG t.fj ["_law_places","_law_thing"] (c9 Dx):=by
 have G_l_whole:a7 P w K mg base _ _ _ _ _ _:=zJ T
 refine T.oV.okD eR (fun xs Z Q h=>by obtain⟨n,x,rfl,_⟩:=h;rfl) (fun cdv A outer s H E hr=>⟨_,_,(ag (aO (i:=2) eR.nd rfl (Or.inl rfl) (du (ab (pv 1) af)))
   (ag (jO zbg (aF (j3 K rfl hr.Kx) (pv 2) (du af) (aR _)) (ag (aO (i:=3) eR.nd rfl (Or.inl rfl) (jf zaG zbT zcn jW (pv 2)))
   (ag (bM (PW.pt (jA (dF (bt K rfl (aM f7 (by rfl) T.cn (by kernel_rfl) (ab (pv 3) (ab (ii (v:=.ty "tuple") (by rfl) T.ig (by kernel_rfl) (by rfl)) af))) (fun _=>rfl))) (jA (aF (kj hr.Kx) (aM (fR K rfl) (by rfl) T.pS (by kernel_rfl) (ab (pv 3) af)) ai (aR _)) (iZ (dF (bt K rfl (aM f7 (by rfl) T.cn (by kernel_rfl) (ab (bL (aP K rfl) (pv 3) ai (fun _ _=>rfl)) (ab (ii (v:=.ty "str") (by rfl) T.JA (by kernel_rfl) (by rfl)) af))) (fun _=>rfl))))))) (ak (aG eY)) a9)
   (ak (bM (aF (bQ hr.Kx) (bL (aP K rfl) (pv 3) ai (fun _ _=>rfl)) aQ (aR _)) (ag (bM (PW.pt (jA (dF (bt K rfl (aH G_l_whole (hr.mono (by omega)) (by rfl) T.ic T.ix T.iy .nil br (ab (bL (aP K rfl) (pv 3) ai (fun _ _=>rfl)) af)) (fun _=>rfl))) (iZ (dF (bt K rfl (aH G_l_whole (hr.mono (by omega)) (by rfl) T.ic T.ix T.iy .nil br (ab (bL (aP K rfl) (pv 3) ai (fun _ _=>rfl)) af)) (fun _=>rfl)))))) (ak (aG eY)) a9)
   (ak (bM (PW.pt (jA (dF (tI Ff ye ai (bL (aP K rfl) (pv 3) ai (fun _ _=>rfl)) (pv 0))) (iZ (dF (tI Ff ye ai (bL (aP K rfl) (pv 3) ai (fun _ _=>rfl)) ai))))) (ak (aG eY)) a9))) (ak (bM (aF (vn hr.Kx) (bL (aP K rfl) (pv 3) ai (fun _ _=>rfl)) (cu (aS aQ (aS aQ af))) (by with_unfolding_all rfl)) (ak (dq (lE zaG PySem.F.slot_list_extend PySem.F.type_list_extend pU (pv 2) (tT (du (ab (bL (aP K rfl) (pv 3) ai (fun _ _=>rfl)) (ab (bL (aP K rfl) (pv 3) ai (fun _ _=>rfl)) af))) af)))) (ak (aG eY)))))))))
   (ak (aG eY)))),(aw (aZ (kw (ae aa aj)) am)
   (aw (mi (aL (aq rZ aa (kU aj))) (aw (aZ (oY aa) am)
   (aw (dC (qP (fJ (fO (cI o9 (ae aa (ae pI aj))))) (qP (aL (aq bR (cI Az (ae aa aj)) ap)) (fJ (fO (cI o9 (ae (aq dB aa ap) (ae pI aj))))))) (a0 iX) bw)
   (dC (aL (aq bR (aq dB aa ap) bz)) (aw (dC (qP (fJ (fO (aX (ae (aq dB aa ap) aj)))) (fJ (fO (aX (ae (aq dB aa ap) aj))))) (a0 iX) bw)
   (dC (qP (fJ (aL (xo jB jB ap (aq dB aa ap) aa))) (fJ (aL (xo jB jB ap (aq dB aa ap) ap)))) (a0 iX) bw)) (dC (aL (aq G8 (aq dB aa ap) (dY (ae bz (ae bz aj))))) (eZ (rM aa (ae (kU (ae (aq dB aa ap) (ae (aq dB aa ap) aj))) aj))) (a0 iX))))))
   (a0 iX))),fun xs Z Q h=>?_⟩)
 obtain⟨n,x,rfl,ho,hz,k⟩:=h;walk_at "s1";intro p hp;rw[gj];obtain⟨Pv,iP⟩:=Em fun m ρ Z'=>∃(st:List Sy)(v3:Option AV),ρ=[some (.d (.int n)),some (.d x.d),some (.r (.ref p)),v3]/\Z'=Z.put p (.own (st.map fun y=>.d y.d))/\(∀y∈st,y.ok n)/\m=trs (st.map ba)/\m<=100000;refine⟨Pv,⟨_,(iP _ _ _).mpr ⟨[x],_,rfl,rfl,by simpa using ho,rfl,by simpa[trs] using hz⟩⟩,fun m ρ Z' h=>?_⟩
 obtain⟨st,v3,rfl,rfl,hst,rfl,hm⟩:=(iP _ _ _).mp h;clear h;walk_at "a1";refine⟨_,by rw[mS,Om.Kv],rfl,_,rfl,?_⟩
 rcases List.eq_nil_or_concat st with rfl|⟨st',y,rfl⟩
 ·refine dU ?_
  rw[jC ((Ex.refl Z).over hp)];exact k
 ·rw[List.concat_eq_append] at hst hm ⊢
  have oy:=hst y (zaC _ (zaT.mpr rfl));have ost:∀z∈st',z.ok n:=fun z hz=>hst z (zbn _ hz);simp only[zaQ,zah,zbQ] at hm ⊢;have hl:=l8 (st'.map ba);rw[zaA] at hl;rw[bA] at hm ⊢;simp only[trs,zcz] at hm ⊢;rw[ja];refine vq ⟨fun ρ' Z'=>∃m',m'<trs (st'.map ba)+(ba y).size/\Pv m' ρ' Z',fun _ _ h=>h,x5 rfl Om.Kv ?_⟩
  rw[Om.Kz]
  have fin:∀(zs:List Sy),(∀z∈zs,z.ok n)->trs (zs.map ba)<(ba y).size->∃m',m'<trs (st'.map ba)+(ba y).size/\Pv m' [some (.d (.int n)),some (.d x.d),some (.r (.ref p)),some (.d y.d)] (Z.put p (.own ((st'++zs).map fun y=>.d y.d))):=fun zs h1 h2=>
   ⟨trs ((st'++zs).map ba),by rw[zaQ,bA];omega,(iP _ _ _).mpr ⟨st'++zs,_,rfl,rfl,fun z hz=>(zaL.mp hz).elim (ost z) (h1 z),rfl,by rw[zaQ,bA];omega⟩⟩
  cases y with
  |is i b=>
   have f0:=fin [] (by simp) (by simp[trs,Tr.size,ba])
   simp only[Sy.d,zaM] at f0 ⊢;obtain⟨i0,i1,hb⟩:=oy;walk_at "s1";refine⟨by decide,dU (dU ⟨by decide,dU ?_⟩)⟩
   walk_at "s1";refine⟨i,rfl,_,rfl,dU ⟨b,rfl,_,rfl,dU ?_⟩⟩;rw[zaf i0,zbq i1];refine dU ?_;rw[zaf (by omega:0<=b),zbq (by omega:b<2)]
   exact dU f0
  |jn j a b=>
   have f0:=fin [a,b] (by simp[oy.1,oy.2]) (by simp[trs,Tr.size,ba])
   simp only[Sy.d] at f0 ⊢;walk_at "s1";refine⟨by decide,dU (dU ⟨by decide,dU (fc (fun h=>absurd h (by cases j<;>decide +kernel)) fun _=>⟨by decide,?_⟩)⟩)⟩
   rw[show inD (.str (if j=true then "and" else "or")) [.str "and",.str "or"]=true from by cases j<;>decide +kernel]
   refine vq ⟨zbd (jd (by omega)),?_⟩
   simpa using f0
noncomputable def ddS:List (Sy×Nat)->Nat
 | []=>0
 |p::r=>max (p.2+p.1.dp) (ddS r)
noncomputable def llS:List (Sy×Nat)->Nat
 | []=>0
 |p::r=>p.1.lvs+llS r
theorem qO:∀a b,ddS (a++b)=max (ddS a) (ddS b)
 | [],b=>by simp[ddS]
 |p::a,b=>by simp only[zbD,ddS,qO a b,Nat.max_assoc]
theorem ro:∀a b,llS (a++b)=llS a+llS b
 | [],b=>by simp[llS]
 |p::a,b=>by simp only[zbD,llS,ro a b];omega
noncomputable def Ep:ASp:=fun xs Z Q=>∃(x:Sy),xs=[.d x.d]/\(ba x).size<=100000/\Q (.d (.tup [.int (x.dp:Nat),.int (x.lvs:Nat)])) Z
theorem DM(T:Txt K mg t):a7 P w K mg base CX0 1 t.eS t.mU ["_law_saying"] (c9 Ep):=by
 refine T.Cm.okD cT (fun xs Z Q h=>by obtain⟨x,rfl,_⟩:=h;rfl) (fun cdv A outer s H E hr=>⟨_,_,(ag (aO (i:=1) cT.nd rfl (Or.inl rfl) (du (jM (cu (ab (pv 0) (aS ai af))) af)))
   (ag (aO (i:=2) cT.nd rfl (Or.inl rfl) ai)
   (ag (aO (i:=3) cT.nd rfl (Or.inl rfl) ai)
   (ag (jO zbg (aF (j3 K rfl hr.Kx) (pv 1) (du af) (aR _)) (ag (qQ (jf zaG zbT zcn jW (pv 1)) (gl K rfl (n:=2) rfl (bf (au (i:=4) cT.nd rfl (Or.inl rfl)) (bf (au (i:=5) cT.nd rfl (Or.inl rfl)) gn))))
   (ak (bM (aF (bQ hr.Kx) (bL (aP K rfl) (pv 4) ai (fun _ _=>rfl)) aQ (aR _)) (ag (aO (i:=3) cT.nd rfl (Or.inl rfl) (aE (aT dh (aT ca de)) (pv 3) ai))
   (ak (aO (i:=2) cT.nd rfl (Or.inl rfl) (aM (kr rfl) (by rfl) T.AH (by kernel_rfl) (ab (pv 2) (ab (pv 5) af)))))) (ak (dq (lE zaG PySem.F.slot_list_extend PySem.F.type_list_extend pU (pv 1) (tT (du (jM (cu (ab (bL (aP K rfl) (pv 4) ai (fun _ _=>rfl)) (ab (aE (aT dh (aT ca de)) (pv 5) ai) af))) (jM (cu (ab (bL (aP K rfl) (pv 4) ai (fun _ _=>rfl)) (ab (aE (aT dh (aT ca de)) (pv 5) ai) af))) af))) af))))))))
   (ak (aG (cu (ab (pv 2) (ab (pv 3) af))))))))),(aw (aZ (kw (ae (dY (ae aa (ae ap aj))) aj)) am)
   (aw (aZ ap am)
   (aw (aZ ap am)
   (aw (mi (aL (aq rZ aa (kU aj))) (aw (aZ (oY aa) (ms (ci am (ci am nW))))
   (dC (aL (aq bR (aq dB aa ap) bz)) (aw (aZ (aq fe aa ap) am)
   (aZ (cI DJ (ae aa (ae aa aj))) am)) (eZ (rM aa (ae (kU (ae (dY (ae (aq dB aa ap) (ae (aq fe aa ap) aj))) (ae (dY (ae (aq dB aa ap) (ae (aq fe aa ap) aj))) aj))) aj))))))
   (a0 (dY (ae aa (ae aa aj)))))))),fun xs Z Q h=>?_⟩)
 obtain⟨x,rfl,hz,k⟩:=h;walk_at "s1";intro p hp;walk_at "s1";walk_at "s1";rw[gj];obtain⟨Pv,iP⟩:=Em fun m ρ Z'=>∃(st:List (Sy×Nat)) (mo ma:Nat) (v4 v5:Option AV),ρ=[some (.d x.d),some (.r (.ref p)),some (.d (.int mo)),some (.d (.int ma)),v4,v5]/\Z'=Z.put p (.own (st.map fun y=>.d (.tup [y.1.d,.int (y.2:Nat)])))/\max mo (ddS st)=x.dp/\ma+llS st=x.lvs/\m=trs (st.map fun y=>ba y.1)/\m<=100000
 refine⟨Pv,⟨_,(iP _ _ _).mpr ⟨[(x,0)],0,0,_,_,rfl,rfl,by simp[ddS],by simp[llS],rfl,by simpa[trs] using hz⟩⟩,fun m ρ Z' h=>?_⟩
 obtain⟨st,mo,ma,v4,v5,rfl,rfl,hmo,hma,rfl,hm⟩:=(iP _ _ _).mp h;clear h;walk_at "a1";refine⟨_,by rw[mS,Om.Kv],rfl,_,rfl,?_⟩
 rcases List.eq_nil_or_concat st with rfl|⟨st',⟨y,f⟩,rfl⟩
 ·refine dU ?_
  rw[jC ((Ex.refl Z).over hp)];simp only[ddS,llS] at hmo hma;rw[show mo=x.dp from by omega,show ma=x.lvs from by omega]
  exact k
 ·rw[List.concat_eq_append] at hm hmo hma ⊢
  simp only[zaQ,zah,zbQ] at hm ⊢;have hl:=l8 (st'.map fun y=>ba y.1);rw[zaA] at hl;rw[bA] at hm ⊢;rw[qO] at hmo;rw[ro] at hma;simp only[trs,ddS,llS,zcz] at hm hmo hma ⊢;rw[ja];refine vq ⟨fun ρ' Z'=>∃m',m'<trs (st'.map fun y=>ba y.1)+(ba y).size/\Pv m' ρ' Z',fun _ _ h=>h,?_⟩
  have fin:∀(zs:List (Sy×Nat)) (mo' ma':Nat),max mo' (max (ddS st') (ddS zs))=x.dp->ma'+(llS st'+llS zs)=x.lvs->trs (zs.map fun y=>ba y.1)<(ba y).size->∃m',m'<trs (st'.map fun y=>ba y.1)+(ba y).size/\Pv m' [some (.d x.d),some (.r (.ref p)),some (.d (.int mo')),some (.d (.int ma')),some (.d y.d),some (.d (.int f))] (Z.put p (.own ((st'++zs).map fun y=>.d (.tup [y.1.d,.int (y.2:Nat)])))):=fun zs mo' ma' h1 h2 h3=>
   ⟨trs ((st'++zs).map fun y=>ba y.1),by rw[zaQ,bA];omega,(iP _ _ _).mpr ⟨st'++zs,mo',ma',_,_,rfl,rfl,by rw[qO];exact h1,by rw[ro];exact h2,rfl,by rw[zaQ,bA];omega⟩⟩
  cases y with
  |is i b=>
   have f0:=fin [] (max mo f) (ma+1) (by simp only[ddS,Sy.dp,zcz,Nat.max_zero] at hmo ⊢;rw[←hmo,Nat.max_assoc,Nat.max_comm f]) (by simp only[llS,Sy.lvs] at hma ⊢;omega) (by simp[trs,Tr.size,ba])
   simp only[Sy.d,zaM] at f0 ⊢;have em:((max mo f:Nat):Int)=if (f:Int)>mo then (f:Int) else mo:=by split<;>omega
   rw[em,show ((ma+1:Nat):Int)=(ma:Int)+1 from by omega] at f0
   walk_at "s1";walk_at "s1";exact f0
  |jn j a b=>
   have f0:=fin [(a,f+1),(b,f+1)] mo ma (by simp only[ddS,Sy.dp,Nat.max_zero] at hmo ⊢;rw[←hmo,Nat.add_max_add_left,zcE]) (by simp only[llS,Sy.lvs] at hma ⊢;omega) (by simp[trs,Tr.size,ba])
   simp only[Sy.d] at f0 ⊢;walk_at "s1";refine fc (fun h=>absurd h (by cases j<;>decide +kernel)) fun _=>?_
   refine⟨zbd (jd (by omega)),?_⟩
   simpa using f0
noncomputable def gD(m b:Nat):List Int:=(List.range m).map fun k=>if b.testBit k then 1 else 0
noncomputable def qx(b i k:Nat):Bool:=b.testBit i && !b.testBit (i ||| 2^k)
noncomputable def lgr(n b:Nat):Bool:=(List.range (2^n)).all fun i=>(List.range n).all fun k=>!qx b i k
noncomputable def tbS(n:Nat)(ri:Bool):List (List Int):=((List.range (2^2^n-2)).filter fun i=>!ri || lgr n (i+1)).map fun i=>gD (2^n) (i+1)
theorem Ai:([1,2,3].all fun n=>[true,false].all fun ri=>decide (tbS n ri).Nodup && ((tbS n ri).all fun u=>decide (u.length=2^n) && (u.all fun b=>decide (b=0\/b=1)) && ncT u && (!ri || k9 n u)))=true:=by decide +kernel
theorem Ea:([1,2,3].all fun n=>[true,false].all fun ri=>(wl (2^n)).all fun u=>!(ncT u && (!ri || k9 n u)) || (let b:=bT u;decide (1<=b) && decide (b-1<2^2^n-2) && (!ri || lgr n b) && decide (gD (2^n) b=u)))=true:=by decide +kernel
theorem JJ{n b i k:Nat}(hi:i<2^n)(hk:k<n)(h:qx b i k=true):lgr n b=false:=by
 unfold lgr;rw[List.all_eq_false];refine⟨i,zbk.mpr hi,?_⟩;intro z;have:=zaB.mp z k (zbk.mpr hk);rw[h] at this;cases this
theorem Ji{n b:Nat}(h:∀i,i<2^n->∀k,k<n->qx b i k=false):lgr n b=true:=by
 unfold lgr;refine zaB.mpr fun i hi=>zaB.mpr fun k hk=>?_;rw[h i (zbk.mp hi) k (zbk.mp hk)];rfl
noncomputable def Hy:ASp:=fun xs Z Q=>∃(n b:Nat),xs=[.d (.int n),.d (.int b)]/\n<=5/\Q (.d (.bl (lgr n b))) Z
theorem GI(T:Txt K mg t):a7 P w K mg base CX0 1 t.dw t.kB ["_law_places","_law_bits"] (c9 Hy):=by
 refine T.y8.okD jc (fun xs Z Q h=>by obtain⟨n,b,rfl,_⟩:=h;rfl) (fun cdv A outer s H E hr=>⟨_,_,(ag (eQ zbg rfl (ck rfl T.dm (ab (aE gM ai (pv 0)) af)) (au (i:=2) jc.nd rfl (Or.inl rfl)) (ak (eQ zbg rfl (ck rfl T.dm (ab (pv 0) af)) (au (i:=3) jc.nd rfl (Or.inl rfl)) (ak (bM (PW.pt (kC (aF (bQ hr.Kx) (aE j0 (aE qr (pv 1) (pv 2)) ai) ai (aR _)) (lX (aF (bQ hr.Kx) (aE j0 (aE qr (pv 1) (aE xQ (pv 2) (aE gM ai (pv 3)))) ai) ai (aR _))))) (ak (aG eY)) a9)))))
   (ak (aG eY))),(aw (gJ (gu (ae (aq er ap aa) aj)) am (gJ (gu (ae aa aj)) am (dC (pA (aL (aq bR (aq dX (aq er aa aa) ap) ap)) (aL (aq bR (aq dX (aq er aa (aq dX aa (aq er ap aa))) ap) ap))) (a0 iX) bw)))
   (a0 iX)),fun xs Z Q h=>?_⟩)
 obtain⟨n,b,rfl,hn,k⟩:=h;have e2:(1:Int)*2^n=((2^n:Nat):Int):=by simp
 have h32:2^n<=32:=zaN (zaW (by decide) hn) (by decide)
 walk_at "s1";rw[e2];have lt:=@Ji n b;have lf:=@JJ n b;generalize 2^n=z at *;refine⟨⟨by omega,by omega,by decide⟩,by omega,by omega,?_⟩
 rw[zba];refine io (fun i ρ Z'=>Z'=Z/\(∀i',i'<i->∀q,q<n->qx b i' q=false)/\∃v2 v3,ρ=[some (.d (.int n)),some (.d (.int b)),v2,v3]) ⟨rfl,fun i' h=>by omega,_,_,rfl⟩ ?_ ?_
 ·rintro i ρ Z1 N hi ⟨rfl,hg,v2,v3,rfl⟩ kN
  walk_at "a1";rw[zdD];refine⟨by omega,by omega,io (fun q ρ Z'=>Z'=Z1/\(∀q',q'<q->qx b i q'=false)/\∃v3,ρ=[some (.d (.int n)),some (.d (.int b)),some (.d (.int i)),v3]) ⟨rfl,fun q' h=>by omega,_,rfl⟩ ?_ ?_⟩
  ·rintro q ρ Z2 N2 hq ⟨rfl,hg2,v3,rfl⟩ kN2
   walk_at "a1";have e3:(1:Int)*2^((q:Int)).toNat=((2^q:Nat):Int):=by simp
   simp only[zdD];rw[e3,kG,u9,zba,u9];refine⟨by omega,fc (fun h=>⟨⟨by omega,by omega,by decide⟩,by omega,fc (fun g=>?_) (fun g=>?_)⟩) (fun h=>?_)⟩
   ·have hb:qx b i q=true:=by
     unfold qx
     have h1:b.testBit i=true:=by
      cases e:b.testBit i with
      |true=>rfl
      |false=>rw[e] at h;simp at h
     have h2:b.testBit (i ||| 2^q)=false:=by
      cases e:b.testBit (i ||| 2^q) with
      |true=>rw[e] at g;simp at g
      |false=>rfl
     rw[h1,h2];rfl
    rw[aW,←lf hi hq hb]
    exact k
   ·refine kN2 _ _ ⟨rfl,fun q' hq'=>?_,_,rfl⟩
    by_cases hqq:q'=q
    ·subst hqq
     unfold qx
     cases e:b.testBit (i ||| 2^q') with
     |true=>simp
     |false=>rw[e] at g;simp at g
    ·exact hg2 q' (by omega)
   ·refine kN2 _ _ ⟨rfl,fun q' hq'=>?_,_,rfl⟩
    by_cases hqq:q'=q
    ·subst hqq
     unfold qx
     cases e:b.testBit i with
     |true=>rw[e] at h;simp at h
     |false=>rfl
    ·exact hg2 q' (by omega)
  ·rintro ρ Z2 ⟨rfl,hg2,v3,rfl⟩
   refine kN _ _ ⟨rfl,fun i' hi' q hq=>?_,_,_,rfl⟩;by_cases h:i'=i
   ·subst h;exact hg2 q hq
   ·exact hg i' (by omega) q hq
 ·rintro ρ Z1 ⟨rfl,hg,v2,v3,rfl⟩
  walk_at "a1";rw[aW,←lt hg]
  exact k
noncomputable def De:ASp:=fun xs Z Q=>∃(n:Nat)(ri:Bool),xs=[.d (.int n),.d (.str (if ri then "rising" else "any"))]/\1<=n/\n<=3/\∀R,R.Perm ((tbS n ri).map wdD)->wn R->Q (.d (.lst R)) Z
theorem Ej(T:Txt K mg t):a7 P w K mg base CX0 2 t.cM t.i6 ["_law_places","_law_rule"] (c9 De):=by
 have G_l_grows:a7 P w K mg base _ _ _ _ _ _:=GI T
 refine T.vf.okD gS (fun xs Z Q h=>by obtain⟨n,ri,rfl,_⟩:=h;rfl) (fun cdv A outer s H E hr=>⟨_,_,(ag (aO (i:=2) gS.nd rfl (Or.inl rfl) (du af))
   (ag (eQ zbg rfl (pY rfl T.dm (aS ai (ab (aE nO (aE gM ai (aE gM ai (pv 0))) ai) af))) (au (i:=3) gS.nd rfl (Or.inr rfl)) (ak (bM (PW.pt (jA (aF (bQ hr.Kx) (pv 1) aQ (aR _)) (iZ (bt K rfl (aH G_l_grows (hr.mono (by omega)) (by rfl) T.yV T.zh T.zo .nil br (ab (pv 0) (ab (pv 3) af))) (fun _=>rfl))))) (ak (dq (lE zaG zbI zbS dJ (pv 2) (ab (cV (dc K rfl) (by rfl) T.ig (by kernel_rfl) (ab (cq (N:=(["_law_k","_law_bits"] : List Str)) (src:=[none,some 3]) rfl (by show cf _ (defScope gC) _ _ (["_law_places","_law_rule","_law_found","_law_bits"] : List Str) = true;decide +kernel) (by intro g' h;cases h) (ck rfl T.dm (ab (aE gM ai (pv 0)) af)) (fun _ _ _ _ _ _=>(au (i:=0) (show (["_law_k","_law_bits"] : List Str).Nodup by decide +kernel) rfl (Or.inl rfl))) (fun _ _ _ _ _ _=>bB) (fun _ _ _ _ _ _=>(bV rfl rfl (aE j0 (aE qr (pv 1) (pv 0)) ai)))) af)) af)))) a9)))
   (ak (aG (aM (qb K rfl hr.Kx) (by rfl) T.tq (by kernel_rfl) (ab (pv 2) af)))))),(aw (aZ (kw aj) am)
   (aw (gJ (Cb (ae ap (ae (aq dX (aq er ap (aq er ap aa)) ap) aj))) am (dC (qP (aL (aq bR aa bz)) (fO (aX (ae aa (ae aa aj))))) (eZ (fV aa (ae (cI mj (ae (dW (gu (ae (aq er ap aa) aj)) am gF (cN (aq dX (aq er aa aa) ap))) aj)) aj))) bw))
   (a0 (cI DS (ae aa aj))))),fun xs Z Q h=>?_⟩)
 obtain⟨n,ri,rfl,h1,h3,k⟩:=h;walk_at "s1";intro p hp;walk_at "s1";have e2:(1:Int)*2^n=((2^n:Nat):Int):=by simp
 have e3:(1:Int)*2^2^n=((2^2^n:Nat):Int):=by simp
 have h8:2^n<=8:=zaN (zaW (by decide) h3) (by decide)
 have h256:2^2^n<=256:=zaN (zaW (by decide) h8) (by decide)
 rw[e2,zba,e3];have hz1:1<=2^n:=Nat.one_le_two_pow;unfold tbS at k;generalize 2^2^n=y at *;generalize 2^n=z at *;rw[show ((y:Int)-1-1).toNat=y-2 from by omega]
 refine⟨⟨by omega,by omega,by decide⟩,⟨by omega,by omega,by decide⟩,by omega,by omega,by omega,by omega,?_⟩
 refine io (fun i ρ Z'=>Z'=Z.put p (.own (((((List.range i).filter fun i=>!ri || lgr n (i+1)).map fun i=>gD z (i+1)).map wdD).map AV.d))/\∃v3,ρ=[some (.d (.int n)),some (.d (.str (if ri=true then "rising" else "any"))),some (.r (.ref p)),v3]) ⟨rfl,_,rfl⟩ ?_ ?_
 ·rintro i ρ Z1 N hi ⟨rfl,v3,rfl⟩ kN
  have hfl:((List.range i).filter fun i=>!ri || lgr n (i+1)).length<=256:=by
   have:=List.length_filter_le (fun i=>!ri || lgr n (i+1)) (List.range i);rw[zcG] at this;omega
  have nx:∀v,(!ri || lgr n (i+1))=v->(List.range (i+1)).filter (fun i=>!ri || lgr n (i+1))=(List.range i).filter (fun i=>!ri || lgr n (i+1))++(if v=true then [i] else []):=fun v hv=>by
   rw[List.range_succ,List.filter_append,List.filter_cons,hv];simp
  have cmp:∀(Z2:Om)(L:List AV->SA->Om->Prop),(∀ρ,L (((gD z (i+1)).map D.int).map AV.d) ρ Z2)->bK (eV 0) eg
      (jQ
       (aOp (aI0 fun i j=>D.int (Builtin.bitAnd i j))
        (aOp (aI (fun x j=>0<=j) fun i j=>D.int (i / 2^j.toNat)) (eO 1) (eO 0)) (aC (D.int 1))))
      (dD 0 z) [] [none,some (AV.d (D.int (1+(i:Nat))))] Z2 L:=fun Z2 L hL=>by
   refine eA (rs:=(gD z (i+1)).map D.int) (by simp[gD,dD]) (zbd (aV (by simp[dD];omega))) (fun j a r h1 h2 Q q=>?_) hL
   simp only[dD,gD,zaO,zam,zas] at h1 h2;obtain⟨y,hy,rfl⟩:=h1;obtain⟨y',hy',rfl⟩:=h2;rw[hy] at hy';cases hy';simp only[zaV] at q ⊢;walk_at "a1";rw[zdD,zba,show (1:Int)+(i:Nat)=((i+1:Nat):Int) from by omega,u9]
   refine⟨by omega,?_⟩
   cases e:(i+1).testBit y<;>rw[e] at q<;>exact q
  have put:(!ri || lgr n (i+1))=true->∀(Z2:Om),Z2=Z.put p (.own (((((List.range i).filter fun i=>!ri || lgr n (i+1)).map fun i=>gD z (i+1)).map wdD).map AV.d))->N [some (.d (.int n)),some (.d (.str (if ri=true then "rising" else "any"))),some (.r (.ref p)),some (.d (.int (1+(i:Nat))))] (Z2.put p (.own (((((List.range i).filter fun i=>!ri || lgr n (i+1)).map fun i=>gD z (i+1)).map wdD).map AV.d++[.d (.tup ((gD z (i+1)).map D.int))]))):=fun hv Z2 e=>by
   subst e;rw[Om.Kz];refine kN _ _ ⟨?_,_,rfl⟩;rw[nx true hv];simp[wdD]
  have go:(!ri || lgr n (i+1))=true->∀(Z2:Om),Z2=Z.put p (.own (((((List.range i).filter fun i=>!ri || lgr n (i+1)).map fun i=>gD z (i+1)).map wdD).map AV.d))->Gg 1 (n:Int)/\-2^62<=(1:Int)*2^n/\(1:Int)*2^n<2^62/\bK (eV 0) eg
      (jQ
       (aOp (aI0 fun i j=>D.int (Builtin.bitAnd i j))
        (aOp (aI (fun x j=>0<=j) fun i j=>D.int (i / 2^j.toNat)) (eO 1) (eO 0)) (aC (D.int 1))))
      (dD 0 ((1:Int)*2^n).toNat) [] [none,some (AV.d (D.int (1+(i:Nat))))] Z2 fun xs x Z'=>∃ds,und xs=some ds/\∃x,Z' p=some (OC.own x)/\x.length<sizeLine/\N [some (.d (.int n)),some (.d (.str (if ri=true then "rising" else "any"))),some (.r (.ref p)),some (.d (.int (1+(i:Nat))))] (Z'.put p (.own (x++[.d (.tup ds)]))):=fun hv Z2 e=>by
   rw[e2,zba];refine⟨⟨by omega,by omega,by decide⟩,by omega,by omega,cmp Z2 _ fun ρ=>⟨_,be _,_,by rw[e,Om.Kv],zbp (by simpa using hfl) (aV (n:=256) (by decide)),put hv Z2 e⟩⟩
  walk_at "a1";refine fc (fun h=>?_) (fun h=>?_)
  ·have hr:ri=false:=by
    cases ri with
    |false=>rfl
    |true=>exact absurd h (by decide +kernel)
   exact go (by rw[hr];rfl) _ rfl
  ·have hr:ri=true:=by
    cases ri with
    |true=>rfl
    |false=>exact absurd rfl h
   refine⟨n,i+1,by rw[show (1:Int)+(i:Nat)=((i+1:Nat):Int) from by omega],by omega,_,rfl,fc (fun hg=>?_) (fun hg=>?_)⟩
   ·exact⟨⟨_,Om.Kv⟩,go (by rw[hg];simp) _ rfl⟩
   ·refine kN _ _ ⟨?_,_,rfl⟩
    have hg':lgr n (i+1)=false:=by simpa using hg
    rw[nx false (by rw[hr,hg'];rfl)]
    simp
 ·rintro ρ Z1 ⟨rfl,v3,rfl⟩
  walk_at "a1";rw[yD];refine⟨_,_,rfl,.inr (uF Om.Kv),fun _=>⟨fun d hd=>?_,fun d hd e he=>?_,.inl fun d hd=>?_⟩,iu fun d hd=>?_,fun R hp' hr=>⟨_,rfl,?_⟩⟩
  ·obtain⟨u,_,rfl⟩:=zal.mp hd
   exact m6 0 u
  ·obtain⟨u,_,rfl⟩:=zal.mp hd
   obtain⟨v,_,rfl⟩:=zal.mp he;exact ie u v
  ·obtain⟨u,hu,rfl⟩:=zal.mp hd
   obtain⟨i,_,rfl⟩:=zal.mp hu;obtain⟨z',rfl⟩:∃z',z=z'+1:=⟨z-1,by omega⟩
   exact⟨_,.inr ⟨rfl,_,by rw[wdD,gD,List.range_succ_eq_map,zah,zah]⟩⟩
  ·obtain⟨u,_,rfl⟩:=zal.mp hd
   have:=eD u;simp only[wdD,dep];omega
  ·rw[jC ((Ex.refl Z).over hp)]
   exact k R hp' hr
noncomputable def Bq(u:List Int):Nat->List Int:=fun i=>(List.range i).map fun(k:Nat)=>u.getD k 0*2^k
theorem A4{u:List Int}(h:∀b∈u,b=0\/b=1):∀i,(Bq u i).sum=((bP (bF u) i:Nat):Int)
 |0=>rfl
 |i+1=>by
  have ih:=A4 h i;unfold Bq at ih ⊢;rw[List.range_succ,zaQ,List.sum_append,ih,FZ];simp only[zah,zbQ,List.sum_cons,List.sum_nil,Int.add_zero]
  have hb:u.getD i 0=0\/u.getD i 0=1:=by
   rw[zag]
   cases e:u[i]? with
   |none=>exact .inl rfl
   |some b=>exact h b (zaz e)
  unfold bF;rcases hb with e|e
  ·rw[e];simp
  ·rw[e];simp
noncomputable def Gh:ASp:=fun xs Z Q=>∃(n:Nat)(ri lv:Bool)(p:Row),xs=[.d (.int n),.d (.str (if ri then "rising" else "any")),.d (.str (if lv then "leaves" else "depth")),.d (fy p)]/\1<=n/\n<=3 /\
 kOk n ri p.2.2/\wor n p.2.2=p.1/\dv lv p.2.2=p.2.1/\(ba p.2.2).size<=100000/\p.2.2.dp<=24/\Q (.d (.bl true)) Z
theorem GM(T:Txt K mg t):a7 P w K mg base CX0 26 t.bE t.ft ["_law_places","_law_rule","_law_by","_law_row"] (c9 Gh):=by
 have G_l_whole:a7 P w K mg base _ _ _ _ _ _:=zJ T;have G_l_is_saying:a7 P w K mg base _ _ _ _ _ _:=CZ T;have G_l_is_bare:a7 P w K mg base _ _ _ _ _ _:=xW T 24;have G_l_size:a7 P w K mg base _ _ _ _ _ _:=DM T;have G_l_mask:a7 P w K mg base _ _ _ _ _ _:=wC T 24
 refine T.oH.okD di (fun xs Z Q h=>by obtain ⟨n,ri,lv,p,rfl,_⟩:=h;rfl) (fun cdv A outer s H E hr=>⟨_,_,(ag (bM (PW.pt (jA (dF (bt K rfl (aM f7 (by rfl) T.cn (by kernel_rfl) (ab (pv 3) (ab (ii (v:=.ty "tuple") (by rfl) T.ig (by kernel_rfl) (by rfl)) af))) (fun _=>rfl))) (jA (aF (kj hr.Kx) (aM (fR K rfl) (by rfl) T.pS (by kernel_rfl) (ab (pv 3) af)) ai (aR _)) (iZ (dF (bt K rfl (aH G_l_whole (hr.mono (by omega)) (by rfl) T.ic T.ix T.iy .nil br (ab (bL (aP K rfl) (pv 3) ai (fun _ _=>rfl)) af)) (fun _=>rfl))))))) (ak (aG eY)) a9)
   (ag (qQ (pv 3) (gl K rfl (n:=3) rfl (bf (au (i:=4) di.nd rfl (Or.inr rfl)) (bf (au (i:=5) di.nd rfl (Or.inl rfl)) (bf (au (i:=6) di.nd rfl (Or.inl rfl)) gn)))))
   (ag (bM (PW.pt (jA (dF (bt K rfl (aM (pJ K rfl rfl) (by rfl) T.Fh (by kernel_rfl) (ab (cq (N:=(["_law_bit"] : List Str)) (src:=[none]) rfl (by show cf _ (defScope cG) _ _ (["_law_places","_law_rule","_law_by","_law_row","_law_table","_law_number","_law_saying"] : List Str) = true;decide +kernel) (by intro g' h;cases h) (cy K rfl (pv 4)) (fun _ _ _ _ _ _=>(au (i:=0) (show (["_law_bit"] : List Str).Nodup by decide +kernel) rfl (Or.inl rfl))) (fun _ _ _ _ _ _=>bB) (fun _ _ _ _ _ _=>(bV rfl rfl (aH G_l_whole (hr.mono (by omega)) (by rfl) T.ic T.ix T.iy .nil br (ab (pv 0) af))))) af)) (fun _=>rfl))) (iZ (dF (bt K rfl (aH G_l_is_saying (hr.mono (by omega)) (by rfl) T.ou T.oD T.oq .nil br (ab (pv 0) (ab (pv 6) af))) (fun _=>rfl)))))) (ak (aG eY)) a9)
   (ag (bM (PW.pt (kC (aF (bQ hr.Kx) (pv 1) aQ (aR _)) (lX (dF (bt K rfl (aH G_l_is_bare (hr.mono (by omega)) (by rfl) T.gG T.gI T.gO .nil br (ab (pv 6) af)) (fun _=>rfl)))))) (ak (aG eY)) a9)
   (ag (bM (aF (kj hr.Kx) (bL (aP K rfl) (aH G_l_size (hr.mono (by omega)) (by rfl) T.AJ T.CT T.A6 .nil br (ab (pv 6) af)) (cV pe (by rfl) T.BI (by kernel_rfl) (ab (l7 (bQ hr.Kx) (pv 2) aQ (aR _)) af)) (fun _ _=>rfl)) (pv 5) (aR _)) (ak (aG eY)) a9)
   (ak (aG (l7 (bQ hr.Kx) (aH G_l_mask (hr.mono (by omega)) (by rfl) T.gY T.hV T.gT .nil br (ab (pv 0) (ab (pv 6) af))) (aM (za K rfl rfl) (by rfl) T.Jj (by kernel_rfl) (ab (cq (N:=(["_law_k","_law_table"]:List Str)) (src:=[none,some 4]) rfl (by show cf _ (defScope cG) _ _ (["_law_places","_law_rule","_law_by","_law_row","_law_table","_law_number","_law_saying"]:List Str)=true;decide +kernel) (by intro g' h;cases h) (ck rfl T.dm (ab (aM (fR K rfl) (by rfl) T.pS (by kernel_rfl) (ab (pv 4) af)) af)) (fun _ _ _ _ _ _=>(au (i:=0) (show (["_law_k","_law_table"]:List Str).Nodup by decide +kernel) rfl (Or.inl rfl))) (fun _ _ _ _ _ _=>bB) (fun _ _ _ _ _ _=>(bV rfl rfl (aE gM (bL (aP K rfl) (pv 1) (pv 0) (fun _ _=>rfl)) (pv 0))))) af)) (aR _))))))))),(aw (dC (qP (fJ (fO (cI o9 (ae aa (ae pI aj))))) (qP (aL (aq bR (cI Az (ae aa aj)) ap)) (fJ (fO (aX (ae (aq dB aa ap) aj)))))) (a0 iX) bw)
   (aw (aZ aa (ms (ci am (ci am (ci am nW)))))
   (aw (dC (qP (fJ (fO (cI ER (ae (dW (fF aa) am gF (cN (aX (ae aa aj)))) aj)))) (fJ (fO (aX (ae aa (ae aa aj)))))) (a0 iX) bw)
   (aw (dC (pA (aL (aq bR aa bz)) (fJ (fO (aX (ae aa aj))))) (a0 iX) bw)
   (aw (dC (aL (aq bR (aq dB (aX (ae aa aj)) (cI Fk (ae (aq bR aa bz) aj))) aa)) (a0 iX) bw)
   (a0 (aq bR (aX (ae aa (ae aa aj))) (cI HD (ae (dW (gu (ae (cI Az (ae aa aj)) aj)) am gF (cN (aq er (aq dB aa aa) aa))) aj))))))))),fun xs Z Q h=>?_⟩)
 obtain⟨n,ri,lv,⟨u,q,x⟩,rfl,h1,h3,ko,ew,en,hz,hd,k⟩:=h;simp only[fy] at *;walk_at "s1";refine⟨by decide,dU (dU ⟨_,rfl,_,rfl,dU ?_⟩)⟩
 walk_at "s1";have hu:TOk (2^n) u:=by rw[←ew];exact cO n x
 have h8:2^n<=8:=zaN (zaW (by decide) h3) (by decide)
 have hul:u.length<=8:=by rw[hu.1];exact h8
 walk_at "s1";refine eA (rs:=(u.map fun _=>true).map D.bl) (by simp) (zbd (aV (by simp;omega))) (fun j a r h1 h2 Q q=>?_) (fun ρ=>⟨_,be _,_,rfl,?_⟩)
 ·simp only[zaO,zam,zas] at h1 h2
  obtain⟨y,hy,rfl⟩:=h1;obtain⟨y',hy',rfl⟩:=h2;simp only[zaV] at q ⊢;walk_at "a1";exact⟨y,rfl,q⟩
 rw[show ((u.map fun _=>true).all id)=true from by simp]
 refine dU ⟨n,x,rfl,ko.1,hz,_,rfl,dU ?_⟩;refine jx (fun ρ' Z'=>Z'=Z/\ρ'=[some (.d (.int n)),some (.d (.str (if ri=true then "rising" else "any"))),some (.d (.str (if lv=true then "leaves" else "depth"))),some (.d (.tup [wdD u,.int q,x.d])),some (.d (wdD u)),some (.d (.int q)),some (.d x.d)]) ?_ ?_
 ·walk_at "a1"
  intro N kN;refine fc (fun h=>?_) (fun h=>kN _ _ ⟨rfl,rfl⟩);have hr:ri=true:=(sw (by decide +kernel)).mp h
  exact⟨x,rfl,ko.2 hr,hd,_,rfl,dU (kN _ _ ⟨rfl,rfl⟩)⟩
 rintro ρ' Z' ⟨rfl,rfl⟩;walk_at "s1"
 have ei:(if (if lv=true then Str.ofString "leaves" else Str.ofString "depth")=Str.ofString "leaves" then (1:Int) else 0)=if lv=true then 1 else 0:=by
  cases lv
  ·rw[zad (by decide +kernel)];rfl
  ·rw[zaf rfl];rfl
 have eq:atI [AV.d (.int (x.dp:Nat)),AV.d (.int (x.lvs:Nat))] (if lv=true then (1:Int) else 0)=some (.d (.int (q:Nat))):=by
  rw[←en]
  unfold dv;cases lv<;>rfl
 refine⟨x,rfl,hz,_,.inr rfl,_,by rw[ei];exact eq,_,rfl,by simp[dep],?_⟩
 rw[dg];refine dU ⟨n,x,rfl,by omega,ko.1,hd,by omega,by omega,?_⟩
 refine eA (rs:=(Bq u u.length).map D.int) (by simp[Bq,dD]) (zbd (aV (by simp[dD];omega))) (fun j a r h1 h2 Q q=>?_) (fun ρ=>⟨_,be _,_,rfl,_,rfl,by simp[dep],?_⟩)
 ·simp only[dD,Bq,zaO,zam,zas] at h1 h2
  obtain⟨y,hy,rfl⟩:=h1;obtain⟨y',hy',rfl⟩:=h2;rw[hy] at hy';cases hy';have hyn:=zbk.mp (zaz hy);simp only[zaV,zdD] at q ⊢;walk_at "a1";have hb:=hu.2 _ (zaE hyn);rw[zag,zae hyn,zct] at q;refine⟨_,jm y rfl (by rw[zam,zam,zae hyn];rfl),_,rfl,⟨by omega,by omega,?_⟩,q⟩
  rcases hb with e|e<;>rw[e]<;>decide
 ·rw[aW,A4 hu.2,ew]
  unfold bT;rw[dg];exact k
theorem iJ.mem{n:Nat}{ri lv:Bool}{R:List Row}(C:iJ n ri lv R)(h1:1<=n)(h3:n<=3)(u:List Int):u∈R.map (·.1)↔u∈tbS n ri:=by
 have a:=zaB.mp (zaB.mp Ai n (thr h1 h3)) ri (by cases ri<;>simp)
 rw[zax] at a;constructor
 ·intro hu
  obtain⟨p,hp,rfl⟩:=zal.mp hu;obtain⟨k,w,c,_⟩:=C.row p hp;have tk:TOk (2^n) p.1:=by rw[←w];exact cO n _
  have g:(!ri || k9 n p.1)=true:=by
   cases ri with
   |false=>rfl
   |true=>rw[←w,ud k.1 (k.2 rfl)];rfl
  have b:=zaB.mp (zaB.mp (zaB.mp Ea n (thr h1 h3)) ri (by cases ri<;>simp)) p.1 (jP tk.1 tk.2)
  rw[c,g] at b;simp only[Bool.and_self,zbl,zcX,zax,zaZ] at b;obtain⟨⟨⟨b1,b2⟩,b3⟩,b4⟩:=b;have e:bT p.1-1+1=bT p.1:=by omega
  exact zal.mpr ⟨bT p.1-1,zdr.mpr ⟨zbk.mpr b2,by rw[e];exact b3⟩,by rw[e];exact b4⟩
 ·intro hu
  have b:=zaB.mp a.2 u hu;simp only[zax,zaZ] at b;obtain⟨⟨⟨b1,b2⟩,b3⟩,b4⟩:=b;have tk:TOk (2^n) u:=⟨b1,fun x hx=>by simpa using zaB.mp b2 x hx⟩
  obtain⟨y,y1,y2,_⟩:=AD h1 h3 tk b3 (ri:=ri) (fun hr=>by rw[hr] at b4;simpa using b4)
  obtain⟨p,hp,e⟩:=C.full y y1 (by rw[y2];exact b3)
  exact zal.mpr ⟨p,hp,by rw[e,y2]⟩
theorem Hm{n:Nat}(h1:1<=n)(h3:n<=3)(ri:Bool):(tbS n ri).Nodup:=by
 have a:=zaB.mp (zaB.mp Ai n (thr h1 h3)) ri (by cases ri<;>simp)
 rw[zax,zaZ] at a;exact a.1
theorem iJ.perm{n:Nat}{ri lv:Bool}{R:List Row}(C:iJ n ri lv R)(h1:1<=n)(h3:n<=3):(R.map (·.1)).Perm (tbS n ri):=
 (List.perm_ext_iff_of_nodup C.nd (Hm h1 h3 ri)).mpr (C.mem h1 h3)
theorem iJ.Lf{n:Nat}{ri lv:Bool}{R:List Row}(C:iJ n ri lv R):wn ((R.map (·.1)).map wdD):=by
 have:=C.ris;unfold AF at this;rw[←xC]
 exact List.pairwise_map.mpr this
theorem iJ.rows{n:Nat}{ri lv:Bool}{R:List Row}(C:iJ n ri lv R):Rows ((R.map (·.1)).map wdD):=by
 refine⟨fun d hd=>?_,fun d hd e he=>?_,.inl fun d hd=>?_⟩
 ·obtain⟨u,_,rfl⟩:=zal.mp hd
  exact m6 0 u
 ·obtain⟨u,_,rfl⟩:=zal.mp hd
  obtain⟨v,_,rfl⟩:=zal.mp he;exact ie u v
 ·obtain⟨u,hu,rfl⟩:=zal.mp hd
  obtain⟨p,hp,rfl⟩:=zal.mp hu;obtain⟨_,w,_⟩:=C.row p hp;have l:p.1.length=2^n:=by rw[←w];exact(cO n _).1
  have:1<=2^n:=Nat.one_le_two_pow
  cases e:p.1 with
  |nil=>rw[e] at l;simp at l;omega
  |cons x r=>exact⟨r.map D.int,.inr ⟨rfl,x,rfl⟩⟩
theorem iJ.same{n:Nat}{ri lv:Bool}{R S:List Row}(h1:1<=n)(h3:n<=3)(C:iJ n ri lv R)(E:iJ n ri lv S):(R.map fun p=>(p.1,p.2.1))=S.map fun p=>(p.1,p.2.1):=by
 have e:R.map (·.1)=S.map (·.1):=by
  have p:(R.map (·.1)).Perm (S.map (·.1)):=(C.perm h1 h3).trans (E.perm h1 h3).symm
  have:=rG C.rows (fun d hd=>hd) (p.map wdD) C.Lf E.Lf;have inj:∀(a b:List (List Int)),a.map wdD=b.map wdD->a=b:=fun a b=>lV fun _ _=>xc;exact inj _ _ this
 have hl:R.length=S.length:=by simpa using zcB List.length e
 refine zdo (by simpa using hl) fun i hi hj=>?_
 simp only[zaA] at hi hj;simp only[zcu]
 have ei:R[i].1=S[i].1:=by
  have:=zcB (fun l=>l[i]?) e;simpa[hi,hj] using this
 obtain⟨k1,w1,c1,n1,_,m1⟩:=C.row R[i] (zaE hi);obtain⟨k2,w2,c2,n2,_,m2⟩:=E.row S[i] (zaE hj);have a1:=m1 S[i].2.2 k2 (by rw[w2,ei])
 have a2:=m2 R[i].2.2 k1 (by rw[w1,ei])
 rw[ei]
 congr 1
 omega
theorem Jo:([1,2,3].all fun n=>ncT (wor n (.is 0 1)))=true:=by decide +kernel
theorem iJ.ne{n:Nat}{ri lv:Bool}{R:List Row}(h1:1<=n)(h3:n<=3)(C:iJ n ri lv R):R≠[]:=fun e=>by
 obtain⟨p,hp,_⟩:=C.full (.is 0 1) ⟨⟨by omega,by omega,.inr rfl⟩,fun _=>rfl⟩ (zaB.mp Jo n (thr h1 h3))
 rw[e] at hp;cases hp
theorem iJ.len{n:Nat}{ri lv:Bool}{R:List Row}(h3:n<=3)(C:iJ n ri lv R):R.length<=256:=by
 have h1:=C.nd.length_le_of_subset (l₂:=wl (2^n)) fun u hu=>by
  obtain⟨p,hp,rfl⟩:=zal.mp hu;obtain⟨_,w,_⟩:=C.row p hp;rw[←w]
  exact jP (cO n _).1 (cO n _).2
 rw[zaA,jZ] at h1;have h8:2^n<=8:=zaN (zaW (by decide) h3) (by decide)
 have:2^2^n<=2^8:=zaW (by decide) h8
 omega
noncomputable def sO(p:List Int×Nat):D:=.tup [wdD p.1,.int (p.2:Nat)]
theorem GK(T:Txt K mg t):a7 P t.wo K mg base CX0 30 t.iT t.uA ["_law_script"] (qM K):=by
 have G_l_pen:a7 P t.wo K mg base _ _ _ _ _ _:=F4 T;have G_l_draw:a7 P t.wo K mg base _ _ _ _ _ _:=Dq T;have G_catalogue:a7 P t.wo K mg base _ _ _ _ _ _:=HA T;have G_l_row_right:a7 P t.wo K mg base _ _ _ _ _ _:=GM T;have G_l_tables:a7 P t.wo K mg base _ _ _ _ _ _:=Ej T
 refine T.I0.okA gZ (fun xs Z Q h=>by obtain ⟨a,ns,rfl,_⟩:=h;rfl) (fun cdv A outer s H E hr=>⟨_,_,(ag (aO (i:=1) gZ.nd rfl (Or.inl rfl) (aH G_l_pen (hr.mono (by omega)) (by rfl) T.D0 T.Ev T.D7 .nil br (ab (pv 0) af)))
   (ag (eQ zbg rfl (ck rfl T.dm (aS ai af)) (au (i:=2) gZ.nd rfl (Or.inl rfl)) (ag (aO (i:=3) gZ.nd rfl (Or.inr rfl) (aE (aT dh (aT ca de)) ai (aH G_l_draw (hr.mono (by omega)) (by rfl) T.nz T.og T.mR .nil br (ab (pv 1) (aS ai af)))))
   (ag (aO (i:=4) gZ.nd rfl (Or.inr rfl) (bL (aP K rfl) (du (aS aQ (aS aQ af))) (aH G_l_draw (hr.mono (by omega)) (by rfl) T.nz T.og T.mR .nil br (ab (pv 1) (aS ai af))) (fun _ _=>rfl)))
   (ag (aO (i:=5) gZ.nd rfl (Or.inr rfl) (bL (aP K rfl) (du (aS aQ (aS aQ af))) (aH G_l_draw (hr.mono (by omega)) (by rfl) T.nz T.og T.mR .nil br (ab (pv 1) (aS ai af))) (fun _ _=>rfl)))
   (ag (aO (i:=6) gZ.nd rfl (Or.inl rfl) (aH G_catalogue (hr.mono (by omega)) (by rfl) T.kX T.k6 T.lD .nil br (ab (pv 3) (ab (pv 4) (ab (pv 5) af)))))
   (ag (bM (PW.pt (jA (dF (bt K rfl (aM f7 (by rfl) T.cn (by kernel_rfl) (ab (pv 6) (ab (ii (v:=.ty "list") (by rfl) T.uS (by kernel_rfl) (by rfl)) af))) (fun _=>rfl))) (iZ (dF (bt K rfl (aM (pJ K rfl rfl) (by rfl) T.Fh (by kernel_rfl) (ab (cq (N:=(["_law_row","_law_places","_law_rule","_law_by"] : List Str)) (src:=[none,some 3,some 4,some 5]) rfl (by show cf _ (defScope iQ) _ _ (["_law_script","_law_pen_here","_law_turn","_law_places","_law_rule","_law_by","_law_found","_law_due"] : List Str) = true;decide +kernel) (by intro g' h;cases h) (cy K rfl (pv 6)) (fun _ _ _ _ _ _=>(au (i:=0) (show (["_law_row","_law_places","_law_rule","_law_by"] : List Str).Nodup by decide +kernel) rfl (Or.inl rfl))) (fun _ _ _ _ _ _=>bB) (fun _ _ _ _ _ _=>(bV rfl rfl (aH G_l_row_right (hr.mono (by omega)) (by rfl) T.oB T.oQ T.oU .nil br (ab (pv 1) (ab (pv 2) (ab (pv 3) (ab (pv 0) af)))))))) af)) (fun _=>rfl)))))) (ak (aG eY)) a9)
   (ag (bM (aF (kj hr.Kx) (cq (N:=(["_law_row"] : List Str)) (src:=[none]) rfl (by show cf _ (defScope iQ) _ _ (["_law_script","_law_pen_here","_law_turn","_law_places","_law_rule","_law_by","_law_found","_law_due"] : List Str) = true;decide +kernel) (by intro g' h;cases h) (cy K rfl (pv 6)) (fun _ _ _ _ _ _=>(au (i:=0) (show (["_law_row"] : List Str).Nodup by decide +kernel) rfl (Or.inl rfl))) (fun _ _ _ _ _ _=>bB) (fun _ _ _ _ _ _=>(bV rfl rfl (bL (aP K rfl) (pv 0) ai (fun _ _=>rfl))))) (aH G_l_tables (hr.mono (by omega)) (by rfl) T.vk T.vR T.wz .nil br (ab (pv 3) (ab (pv 4) af))) (aR _)) (ak (aG eY)) a9)
   (ag (xD (i:=7) gZ.nd rfl (Or.inl rfl) (N:=(["_law_row"] : List Str)) (src:=[none]) rfl (by show cf _ (defScope iQ) _ _ (["_law_script","_law_pen_here","_law_turn","_law_places","_law_rule","_law_by","_law_found","_law_due"] : List Str) = true;decide +kernel) (by intro g' h;cases h) (cy K rfl (pv 6)) (fun _ _ _ _ _ _=>(au (i:=0) (show (["_law_row"] : List Str).Nodup by decide +kernel) rfl (Or.inl rfl))) (fun _ _ _ _ _ _=>bB) (fun _ _ _ _ _ _=>(bV rfl rfl (uG (zy K rfl) (pv 0) xb (wW ai)))))
   (ag (dq (jf zaG zbT zcn jW (pv 6)))
   (ag (dq (jf zaG PySem.F.slot_list_reverse PySem.F.type_list_reverse u5 (pv 6)))
   (ak (bM (aF (kj hr.Kx) (cq (N:=(["_law_row"]:List Str)) (src:=[none]) rfl (by show cf _ (defScope iQ) _ _ (["_law_script","_law_pen_here","_law_turn","_law_places","_law_rule","_law_by","_law_found","_law_due"]:List Str)=true;decide +kernel) (by intro g' h;cases h) (cy K rfl (aH G_catalogue (hr.mono (by omega)) (by rfl) T.kX T.k6 T.lD .nil br (ab (pv 3) (ab (pv 4) (ab (pv 5) af))))) (fun _ _ _ _ _ _=>(au (i:=0) (show (["_law_row"]:List Str).Nodup by decide +kernel) rfl (Or.inl rfl))) (fun _ _ _ _ _ _=>bB) (fun _ _ _ _ _ _=>(bV rfl rfl (uG (zy K rfl) (pv 0) xb (wW ai))))) (pv 7) (aR _)) (ak (aG eY)) a9))))))))))))
   (ak (aG eY)))),(aw (aZ (aX (ae aa aj)) am)
   (aw (gJ (gu (ae ap aj)) am (aw (aZ (aq fe ap (aX (ae aa (ae ap aj)))) am)
   (aw (aZ (aq dB (kU (ae bz (ae bz aj))) (aX (ae aa (ae ap aj)))) am)
   (aw (aZ (aq dB (kU (ae bz (ae bz aj))) (aX (ae aa (ae ap aj)))) am)
   (aw (aZ (aX (ae aa (ae aa (ae aa aj)))) am)
   (aw (dC (qP (fJ (fO (cI o9 (ae aa (ae pI aj))))) (fJ (fO (cI ER (ae (qu aa am gF (cN (aX (ae aa (ae aa (ae aa (ae aa aj))))))) aj))))) (a0 iX) bw)
   (aw (dC (aL (aq bR (qu aa am gF (cN (aq dB aa ap))) (aX (ae aa (ae aa aj))))) (a0 iX) bw)
   (aw (aZ (qu aa am gF (cN (HL aa Cu (AM ap)))) am)
   (aw (eZ (oY aa))
   (aw (eZ (yE aa))
   (dC (aL (aq bR (dW (fF (aX (ae aa (ae aa (ae aa aj))))) am gF (cN (HL aa Cu (AM ap)))) aa)) (a0 iX) bw)))))))))))
   (a0 iX))),fun xs Z Q h=>?_⟩)
 obtain⟨a,ns,rfl,hn,rfl,k⟩:=h;walk_at "s1";refine⟨a,ns,rfl,hn,fun p c0 hp=>?_⟩;have hp0:yA K (Om.put (fun _=>none) p (pdO K c0)) p:=jE;generalize Om.put (fun _=>none) p (pdO K c0)=Z0 at *;walk_at "s1";refine⟨by decide,by decide,io (fun i ρ Z'=>yA K Z' p/\∃v2 v3 v4 v5 v6 v7,ρ=[some (g9 K a ns),some (.r (.ref p)),v2,v3,v4,v5,v6,v7]) ⟨hp0,_,_,_,_,_,_,rfl⟩ ?_ ?_⟩
 ·rintro i ρ Z N hi ⟨hpd,v2,v3,v4,v5,v6,v7,rfl⟩ kN
  walk_at "s1";refine⟨p,3,rfl,hpd,by decide,by decide,fun r c r0 r1=>?_⟩
  obtain⟨n,en,n1,n3⟩:∃n:Nat,(1:Int)+r=n/\1<=n/\n<=3:=⟨(1+r).toNat,by omega,by omega,by omega⟩
  walk_at "s1";rw[en];refine⟨p,2,rfl,jE,by decide,by decide,fun r2 c2 s0 s1=>?_⟩
  rw[Om.Kz]
  obtain⟨ri,eri⟩:∃ri:Bool,atI [AV.d (.str "any"),AV.d (.str "rising")] r2=some (.d (.str (if ri=true then "rising" else "any"))):=by
   rcases(by omega:r2=0\/r2=1) with rfl|rfl
   ·exact⟨false,rfl⟩
   ·exact⟨true,rfl⟩
  refine⟨_,rfl,_,eri,?_⟩;walk_at "s1";refine⟨p,2,rfl,jE,by decide,by decide,fun r3 c3 q0 q1=>?_⟩
  rw[Om.Kz]
  obtain⟨lv,elv⟩:∃lv:Bool,atI [AV.d (.str "leaves"),AV.d (.str "depth")] r3=some (.d (.str (if lv=true then "leaves" else "depth"))):=by
   rcases(by omega:r3=0\/r3=1) with rfl|rfl
   ·exact⟨true,rfl⟩
   ·exact⟨false,rfl⟩
  refine⟨_,rfl,_,elv,?_⟩;have hpp:yA K (Z.put p (pdO K c3)) p:=jE;generalize Z.put p (pdO K c3)=Z1 at *;walk_at "s1";refine⟨n,ri,lv,rfl,n1,n3,fun R l Z2 C ex hl eo=>?_⟩;walk_at "s1";have hlen:=C.len n3;have hz:R.length<=sizeLine:=zbd (zbp hlen (aV (n:=256) (by decide)))
  have back:∀xs:List AV,Z2 l=some (.own xs)->(Z2.del l).put l (.own xs)=Z2:=fun xs h=>by rw[Om.K8,Om.K0 h]
  refine⟨.lst (R.map fy),by rw[eo];simp only[];rw[show (R.map fun p=>AV.d (fy p))=(R.map fy).map AV.d from by rw[zaO];rfl,be];rfl,by decide,dU ⟨_,eo,?_⟩⟩
  refine eA (rs:=(R.map fun _=>true).map D.bl) (by simp) (by simpa using hz) (fun j a r h1 h2 Q q=>?_) (fun ρ=>⟨_,be _,_,rfl,?_⟩)
  ·simp only[zaO,zam,zas] at h1 h2
   obtain⟨y,hy,rfl⟩:=h1;obtain⟨y',hy',rfl⟩:=h2;have hm:=zaz hy;obtain⟨k1,k2,k3,k4,_⟩:=C.row y hm;obtain⟨z1,z2⟩:=C.siz y hm;simp only[zaV] at q ⊢;walk_at "a1";exact⟨n,ri,lv,y,rfl,n1,n3,k1,k2,k4,by omega,z2,q⟩
  rw[show ((R.map fun _=>true).all id)=true from by simp]
  refine dU ?_;rw[back _ eo];walk_at "s1";refine⟨_,eo,?_⟩;refine eA (rs:=(R.map (·.1)).map wdD) (by simp) (by simpa using hz) (fun j a r h1 h2 Q q=>?_) (fun ρ=>⟨_,be _,?_⟩)
  ·simp only[zaO,zam,zas] at h1 h2
   obtain⟨y,hy,rfl⟩:=h1;obtain⟨y',hy',rfl⟩:=h2;rw[hy] at hy';cases hy';simp only[zaV,fy] at q ⊢;walk_at "a1";exact q
  rw[back _ eo];refine⟨n,ri,rfl,n1,n3,fun R2 hp2 hr2=>?_⟩;have e2:(R.map (·.1)).map wdD=R2:=rG C.rows (fun d hd=>hd) (((C.perm n1 n3).map wdD).trans hp2.symm) C.Lf hr2
  have dp1:dep (.lst ((R.map (·.1)).map wdD))<=100:=by
   have:bW ((R.map (·.1)).map wdD)<=1:=iu fun d hd=>by
    obtain⟨u,_,rfl⟩:=zal.mp hd;have:=eD u;simp only[wdD,dep];omega
   simp only[dep];omega
  refine⟨_,rfl,dp1,?_⟩;rw[e2,dg];refine dU ?_;walk_at "s1";refine⟨_,eo,?_⟩
  have cut2:∀(R:List Row)(Z3:Om)(L:List AV->SA->Om->Prop),R.length<=sizeLine->(∀ρ,L (((R.map fun p=>(p.1,p.2.1)).map sO).map AV.d) ρ Z3)->bK (eV 0) eg (jQ (aSl (eO 0) vM (vU (aC (D.int 2))))) (R.map fun p=>AV.d (fy p)) [] [none] Z3 L:=fun R Z3 L hz hL=>by
   refine eA (rs:=(R.map fun p=>(p.1,p.2.1)).map sO) (by simp) (by simpa using hz) (fun j a r h1 h2 Q q=>?_) hL
   simp only[zaO,zam,zas] at h1 h2;obtain⟨y,hy,rfl⟩:=h1;obtain⟨y',hy',rfl⟩:=h2;rw[hy] at hy';cases hy';simp only[zaV,fy,sO] at q ⊢;walk_at "a1";exact q
  refine cut2 R _ _ hz fun ρ=>⟨_,be _,?_⟩;rw[back _ eo];walk_at "s1";refine⟨_,eo,⟨_,List.getLast?_eq_some_getLast (by simpa using C.ne n1 n3)⟩,?_⟩
  walk_at "s1";generalize hX:(R.map fun p=>AV.d (fy p)).dropLast.reverse=X
  have hlp:l≠p:=fun e=>by
   obtain⟨c,hc⟩:=hpp;rw[e,hc] at hl;cases hl
  have hp3:yA K (Z2.put l (.own X)) p:=by
   obtain⟨c,hc⟩:=hpp;exact⟨c,by rw[Om.Kw (zbJ hlp),ex p (by rw[hc];rfl),hc]⟩
  generalize Z2.put l (.own X)=Z3 at *;refine⟨n,ri,lv,rfl,n1,n3,fun R' l' Z4 C' ex' hl' eo'=>?_⟩;dsimp only[];rw[Hs,eo'];refine⟨R'.map fy,by rw[show (R'.map fun p=>AV.d (fy p))=(R'.map fy).map AV.d from by rw[zaO];rfl,be],_,rfl,?_⟩
  rw[show (R'.map fy).map AV.d=(R'.map fun p=>AV.d (fy p)) from by rw[zaO];rfl]
  have hz':R'.length<=sizeLine:=zbd (zbp (C'.len n3) (aV (n:=256) (by decide)))
  refine cut2 R' _ _ hz' fun ρ=>⟨_,be _,?_,?_⟩
  ·have:bW ((R'.map fun p=>(p.1,p.2.1)).map sO)<=10:=iu fun d hd=>by
    obtain⟨u,_,rfl⟩:=zal.mp hd;have:=eD u.1;simp only[sO,wdD,dep,bW];omega
   simp only[dep];omega
  rw[C'.same n1 n3 C,dg];refine dU (kN _ _ ⟨?_,_,_,_,_,_,_,rfl⟩);obtain⟨c,hc⟩:=hp3;have hlp':l'≠p:=fun e=>by rw[e,hc] at hl';cases hl'
  exact⟨c,by rw[Om.Kw (zbJ hlp'),ex' p (by rw[hc];rfl),hc]⟩
 ·rintro ρ Z ⟨hpd,v2,v3,v4,v5,v6,v7,rfl⟩
  walk_at "a1";exact k _
end
theorem Dj{P:Program}{w:World}{K:W.Frag}{mg:Str->Option Value}{base:Heap}{t:Adr}(hw:t.wo=w)(T:Txt K mg t):a7 P w K mg base CX0 30 t.iT t.uA ["_law_script"] (qM K):=by
 subst hw;exact GK T
theorem FU(w:World){K:W.Frag}{h:Heap}{mg:Str->Option Value}(X:K.In h)(G:h.Ns mainGlobals mg){cg:Addr}{fd_all_words:FuncData}{fb:Addr}{fd_upward:FuncData}{dR:Addr}{fd_folded:FuncData}{bx:Addr}{fd_put_together:FuncData}{dN:Addr}{od_value an_value:Option Addr}{sl_value:Array (Option Value)}{oc_value kV_value dc_value pm_value cd_value ct_value:Value}{cR:Addr}{fd_table_by:FuncData}{ce:Addr}{fd_catalogue:FuncData}{bS:Addr}{fd_all_leaves:FuncData}{eX:Addr}{fd_splits:FuncData}{bI:Addr}{fd_put_in_twos:FuncData}{bu:Addr}{fd_joined_table:FuncData}{gg:Addr}{fd_l_pen:FuncData}{eJ:Addr}{fd_l_draw:FuncData}{dI:Addr}{fd_l_whole:FuncData}{da:Addr}{fd_l_mask:FuncData}{eS:Addr}{fd_l_size:FuncData}{bG:Addr}{fd_l_is_saying:FuncData}{dw:Addr}{fd_l_grows:FuncData}{cM:Addr}{fd_l_tables:FuncData}{bD:Addr}{fd_l_is_bare:FuncData}{bE:Addr}{fd_l_row_right:FuncData}{iT:Addr}{od_law an_law:Option Addr}{sl_law:Array (Option Value)}{oc_law kV_law dc_law pm_law cd_law ct_law:Value}{dG:Addr}{ep_AT_ONCE:Nat}{u_AT_ONCE_0 v_AT_ONCE_0 u_AT_ONCE_1 v_AT_ONCE_1:Tok}{cc_value pp_value:Addr}{ko_value:Value}{kd_value:Option Addr}{kf_value:Array Value}{ks_value:Array (Option Value)}(c8:fD K "all_words" fg cg fd_all_words)(fW:fD K "upward" nE fb fd_upward)(fY:fD K "folded" m4 dR fd_folded)(bO:fD K "put_together" eK bx fd_put_together)(qp:W.nsIn K mainGlobals "value"=some (some (.ref dN)))(l6:K.lookup dN=some ⟨oc_value,od_value,.func (W.fnOf "value" "value" (defArgs fh) (defBody fh) (defScope fh) .none kV_value dc_value pm_value an_value cd_value ct_value),sl_value⟩)(iq:W.codeIn K cd_value "value"=true)(lQ:W.keepIn K (.ref dN)=true)(dA:fD K "table_by" gv cR fd_table_by)(cX:fD K "catalogue" dQ ce fd_catalogue)(cr:fD K "all_leaves" dZ bS fd_all_leaves)(fP:fD K "splits" g0 eX fd_splits)(bY:fD K "put_in_twos" fi bI fd_put_in_twos)(bN:fD K "joined_table" cj bu fd_joined_table)(ir:fD K "_law_pen" rE gg fd_l_pen)(fK:fD K "_law_draw" nK eJ fd_l_draw)(eE:fD K "_law_whole" kI dI fd_l_whole)(fE:fD K "_law_mask" nA da fd_l_mask)(fN:fD K "_law_size" mH eS fd_l_size)(b0:fD K "_law_is_saying" fk bG fd_l_is_saying)(eC:fD K "_law_grows" kg dw fd_l_grows)(dL:fD K "_law_tables" gC cM fd_l_tables)(cU:fD K "_law_is_bare" g8 bD fd_l_is_bare)(bZ:fD K "_law_row_right" cG bE fd_l_row_right)(zx:W.nsIn K mainGlobals "law"=some (some (.ref iT)))(Bc:K.lookup iT=some ⟨oc_law,od_law,.func (W.fnOf "law" "law" (defArgs iQ) (defBody iQ) (defScope iQ) .none kV_law dc_law pm_law an_law cd_law ct_law),sl_law⟩)(Ay:W.codeIn K cd_law "law"=true)(yc:W.keepIn K (.ref iT)=true)(j6:W.nsIn K mainGlobals "AT_ONCE"=some (some (.ref dG)))(kF:K.lookup dG=some { cls:=.type "dict",data:=.dict #[⟨PyData.keyHash w.params "leaves",.str "leaves" u_AT_ONCE_0,.int 1 v_AT_ONCE_0⟩,⟨PyData.keyHash w.params "depth",.str "depth" u_AT_ONCE_1,.int 0 v_AT_ONCE_1⟩] ep_AT_ONCE })(rC:cd_value=.ref cc_value)(xp:K.lookup cc_value=some ⟨ko_value,kd_value,.fields kf_value,ks_value⟩)(xL:kf_value[11]?=some (.ref pp_value))(rA:(iY K).contains ("value",cc_value,pp_value)=true)(rB:yU K cc_value pp_value=true)(Cj:W.nsIn K mainGlobals "abs"=some none)(CP:W.nsIn K mainGlobals "all"=some none)(vz:W.nsIn K mainGlobals "bool"=some none)(Bk:W.nsIn K mainGlobals "int"=some none)(gr:W.nsIn K mainGlobals "isinstance"=some none)(zW:W.nsIn K mainGlobals "len"=some none)(wj:W.nsIn K mainGlobals "list"=some none)(AZ:W.nsIn K mainGlobals "max"=some none)(BE:W.nsIn K mainGlobals "min"=some none)(qU:W.nsIn K mainGlobals "range"=some none)(nN:W.nsIn K mainGlobals "sorted"=some none)(AY:W.nsIn K mainGlobals "str"=some none)(zY:W.nsIn K mainGlobals "sum"=some none)(qW:W.nsIn K mainGlobals "tuple"=some none)(Ah:W.nsIn K mainGlobals "zip"=some none):∃t,t.wo=w/\Txt K mg t:=by
 have F_value:=uP (st:=fh) l6 iq lQ;have F_law:=uP (st:=iQ) Bc Ay yc
 exact⟨⟨cg,_,fb,_,dR,_,bx,_,dN,_,cR,_,ce,_,bS,_,eX,_,bI,_,bu,_,gg,_,eJ,_,dI,_,da,_,eS,_,bG,_,dw,_,cM,_,bD,_,bE,_,iT,_,w,dG,cc_value,pp_value⟩,rfl,⟨zbK X G c8.g,c8.f,c8.e,c8.f.KH fun _ _ _ _ _ _ _=>rfl,
  zbK X G fW.g,fW.f,fW.e,fW.f.KB fun _ _ _ _ _ _ _ _=>rfl,
  zbK X G fY.g,fY.f,fY.e,fY.f.K2 fun _ _ _ _ _ _ _ _ _ _=>rfl,
  zbK X G bO.g,bO.f,bO.e,bO.f.KN fun _ _ _ _ _ _ _ _ _=>rfl,
  zbK X G qp,F_value,lQ,F_value.KB (p0:="saying") (p1:="word") fun _ _ _ _ _ _ _ _=>rfl,
  zbK X G dA.g,dA.f,dA.e,dA.f.KB fun _ _ _ _ _ _ _ _=>rfl,
  zbK X G cX.g,cX.f,cX.e,cX.f.KN fun _ _ _ _ _ _ _ _ _=>rfl,
  zbK X G cr.g,cr.f,cr.e,cr.f.KB fun _ _ _ _ _ _ _ _=>rfl,
  zbK X G fP.g,fP.f,fP.e,fP.f.KB fun _ _ _ _ _ _ _ _=>rfl,
  zbK X G bY.g,bY.f,bY.e,bY.f.KN fun _ _ _ _ _ _ _ _ _=>rfl,
  zbK X G bN.g,bN.f,bN.e,bN.f.KN fun _ _ _ _ _ _ _ _ _=>rfl,
  zbK X G ir.g,ir.f,ir.e,ir.f.KH fun _ _ _ _ _ _ _=>rfl,
  zbK X G fK.g,fK.f,fK.e,fK.f.KB fun _ _ _ _ _ _ _ _=>rfl,
  zbK X G eE.g,eE.f,eE.e,eE.f.KH fun _ _ _ _ _ _ _=>rfl,
  zbK X G fE.g,fE.f,fE.e,fE.f.KB fun _ _ _ _ _ _ _ _=>rfl,
  zbK X G fN.g,fN.f,fN.e,fN.f.KH fun _ _ _ _ _ _ _=>rfl,
  zbK X G b0.g,b0.f,b0.e,b0.f.KB fun _ _ _ _ _ _ _ _=>rfl,
  zbK X G eC.g,eC.f,eC.e,eC.f.KB fun _ _ _ _ _ _ _ _=>rfl,
  zbK X G dL.g,dL.f,dL.e,dL.f.KB fun _ _ _ _ _ _ _ _=>rfl,
  zbK X G cU.g,cU.f,cU.e,cU.f.KH fun _ _ _ _ _ _ _=>rfl,
  zbK X G bZ.g,bZ.f,bZ.e,bZ.f.K2 fun _ _ _ _ _ _ _ _ _ _=>rfl,
  zbK X G zx,F_law,yc,F_law.KH (p0:="_law_script") fun _ _ _ _ _ _ _=>rfl,
  fun s v=>.of_eq rfl,
  zbA X G Cj,
  zbA X G CP,
  zbA X G vz,
  zbA X G Bk,
  zbA X G gr,
  zbA X G zW,
  zbA X G wj,
  zbA X G AZ,
  zbA X G BE,
  zbA X G qU,
  zbA X G nN,
  zbA X G AY,
  zbA X G zY,
  zbA X G qW,
  zbA X G Ah,
  zbK X G j6,
  ⟨_,_,ep_AT_ONCE,kF,⟨rfl,rfl,rfl⟩,rfl,(.cons ⟨rfl,⟨_,rfl⟩,⟨_,rfl⟩⟩ (.cons ⟨rfl,⟨_,rfl⟩,⟨_,rfl⟩⟩ PySem.Paired.nil))⟩,
  D8 (st:=fh) l6 iq rC rA rB⟩⟩
noncomputable def inCls(s:PySem.Stmt)(j:Nat):PySem.Stmt:=match s with
 |.ClassDef _ _ _ b _ _ _ _ _ _ _=>b.getD j (.Pass ⟨0,0,0,0⟩)
 |_=>s
noncomputable abbrev oT(x:Array Value):Obj:=⟨.type "tuple",.none,.seq x 0,#[]⟩
noncomputable abbrev oF(n:Str)(i:Nat)(s:Str)(k:Tok)(c:Addr):Obj:=⟨.type "function",.none,.func (W.fnOf n n (defArgs (top i)) (defBody (top i)) (defScope (top i)) .none .none .none (.str s k) .none (.ref c) .none),#[]⟩
noncomputable abbrev oC(n:Str)(a b c:Tok)(l k:Int)(r:Addr)(e:Int)(u:Addr)(v w:Value)(x:Addr)(y:Int)(d:Tok):Obj:=⟨.type "code",.none,.fields #[.str n a,.str n b,.str "/claim/cut.py" c,.int l 0,.int k 0,.int 0 0,.int 0 0,.int 3 0,.ref r,.bool true,.int e 0,.ref u,.none,v,w,.ref x,.int y 0,.int l 0,.str "/claim/cut.py" d],#[]⟩
noncomputable def KK:PySem.Params->PySem.W.Frag:=fun P=>
 (nat_lit 2,⟨.none,.none,.dict #[] 0,#[]⟩)::
 (nat_lit 3,⟨.type "dict",.none,.dict #[⟨PyData.keyHash P "__name__",.str "__name__" 165,.str "law_unlikeplace_k43_catalogues_told" 299⟩,⟨PyData.keyHash P "__doc__",.str "__doc__" 166,.none⟩,⟨PyData.keyHash P "__package__",.str "__package__" 167,.none⟩,⟨PyData.keyHash P "__loader__",.str "__loader__" 168,.builtin "__main__.__loader__#opaque"⟩,⟨PyData.keyHash P "__spec__",.str "__spec__" 169,.none⟩,⟨PyData.keyHash P "__annotations__",.str "__annotations__" 170,.ref 6⟩,⟨PyData.keyHash P "__builtins__",.str "__builtins__" 171,.ref 4⟩,⟨PyData.keyHash P "__file__",.str "__file__" 173,.str "/claim/cut.py" 172⟩,⟨PyData.keyHash P "__cached__",.str "__cached__" 174,.none⟩,⟨PyData.keyHash P "all_words",.str "all_words" 194,.ref 19⟩,⟨PyData.keyHash P "upward",.str "upward" 207,.ref 26⟩,⟨PyData.keyHash P "folded",.str "folded" 221,.ref 33⟩,⟨PyData.keyHash P "AT_ONCE",.str "AT_ONCE" 230,.ref 34⟩,⟨PyData.keyHash P "put_together",.str "put_together" 239,.ref 41⟩,⟨PyData.keyHash P "value",.str "value" 250,.ref 48⟩,⟨PyData.keyHash P "table_by",.str "table_by" 256,.ref 53⟩,⟨PyData.keyHash P "catalogue",.str "catalogue" 264,.ref 58⟩,⟨PyData.keyHash P "all_leaves",.str "all_leaves" 270,.ref 63⟩,⟨PyData.keyHash P "splits",.str "splits" 276,.ref 68⟩,⟨PyData.keyHash P "put_in_twos",.str "put_in_twos" 292,.ref 75⟩,⟨PyData.keyHash P "joined_table",.str "joined_table" 298,.ref 80⟩,⟨PyData.keyHash P "_law_pen",.str "_law_pen" 307,.ref 87⟩,⟨PyData.keyHash P "_law_draw",.str "_law_draw" 320,.ref 94⟩,⟨PyData.keyHash P "_law_whole",.str "_law_whole" 327,.ref 101⟩,⟨PyData.keyHash P "_law_mask",.str "_law_mask" 340,.ref 108⟩,⟨PyData.keyHash P "_law_size",.str "_law_size" 352,.ref 115⟩,⟨PyData.keyHash P "_law_is_saying",.str "_law_is_saying" 362,.ref 122⟩,⟨PyData.keyHash P "_law_grows",.str "_law_grows" 372,.ref 129⟩,⟨PyData.keyHash P "_law_tables",.str "_law_tables" 378,.ref 134⟩,⟨PyData.keyHash P "_law_is_bare",.str "_law_is_bare" 388,.ref 141⟩,⟨PyData.keyHash P "_law_row_right",.str "_law_row_right" 394,.ref 146⟩,⟨PyData.keyHash P "law",.str "law" 400,.ref 151⟩] 32,#[]⟩)::
 (nat_lit 15,oT #[])::
 (nat_lit 18,oC "all_words" 189 190 191 2 1 15 181 16 .none .none 17 192 193)::
 (nat_lit 19,oF "all_words" 1 "unlikeplace.words" 187 18)::
 (nat_lit 20,oT #[])::
 (nat_lit 22,oT #[.str "tree" 200,.str "leaf" 201,.str "waiting" 202,.str "downward" 203,.str "part" 204])::
 (nat_lit 23,oT #[])::
 (nat_lit 25,oC "upward" 197 198 199 8 2 20 181 21 (.ref 22) (.ref 23) 24 205 206)::
 (nat_lit 26,oF "upward" 3 "unlikeplace.trees" 195 25)::
 (nat_lit 27,oT #[])::
 (nat_lit 29,oT #[.str "tree" 211,.str "leaf" 212,.str "of_leaf" 213,.str "of_fork" 214,.str "done" 215,.str "part" 216,.str "second" 217,.str "first" 218])::
 (nat_lit 30,oT #[])::
 (nat_lit 32,oC "folded" 208 209 210 18 4 27 181 28 (.ref 29) (.ref 30) 31 219 220)::
 (nat_lit 33,oF "folded" 4 "unlikeplace.trees" 195 32)::
 (nat_lit 34,⟨.type "dict",.none,.dict #[⟨PyData.keyHash P "leaves",.str "leaves" 224,.int 1 225⟩,⟨PyData.keyHash P "depth",.str "depth" 226,.int 0 227⟩] 2,#[]⟩)::
 (nat_lit 35,oT #[])::
 (nat_lit 37,oT #[.str "by" 234,.str "one" 235,.str "other" 236])::
 (nat_lit 38,oT #[])::
 (nat_lit 40,oC "put_together" 231 232 233 30 3 35 181 36 (.ref 37) (.ref 38) 39 237 238)::
 (nat_lit 41,oF "put_together" 7 "unlikeplace.floors" 222 40)::
 (nat_lit 42,oT #[])::
 (nat_lit 44,oT #[.str "saying" 245,.str "word" 246])::
 (nat_lit 45,oT #[.str "word" 247])::
 (nat_lit 47,oC "value" 242 243 244 33 2 42 181 43 (.ref 44) (.ref 45) 46 248 249)::
 (nat_lit 48,oF "value" 9 "unlikeplace.sayings" 240 47)::
 (nat_lit 49,oT #[])::
 (nat_lit 52,oC "table_by" 251 252 253 35 2 49 181 50 .none .none 51 254 255)::
 (nat_lit 53,oF "table_by" 10 "unlikeplace.sayings" 240 52)::
 (nat_lit 54,oT #[])::
 (nat_lit 57,oC "catalogue" 259 260 261 38 3 54 181 55 .none .none 56 262 263)::
 (nat_lit 58,oF "catalogue" 12 "unlikeplace.catalogue" 257 57)::
 (nat_lit 59,oT #[])::
 (nat_lit 62,oC "all_leaves" 265 266 267 50 2 59 181 60 .none .none 61 268 269)::
 (nat_lit 63,oF "all_leaves" 13 "unlikeplace.catalogue" 257 62)::
 (nat_lit 64,oT #[])::
 (nat_lit 67,oC "splits" 271 272 273 53 2 64 181 65 .none .none 66 274 275)::
 (nat_lit 68,oF "splits" 14 "unlikeplace.catalogue" 257 67)::
 (nat_lit 69,oT #[])::
 (nat_lit 71,oT #[.str "found" 280,.str "levels" 281,.str "ways" 282,.str "fresh" 283,.str "low" 284,.str "high" 285,.str "one" 286,.str "other" 287,.str "join" 288,.str "table" 289])::
 (nat_lit 72,oT #[])::
 (nat_lit 74,oC "put_in_twos" 277 278 279 57 3 69 181 70 (.ref 71) (.ref 72) 73 290 291)::
 (nat_lit 75,oF "put_in_twos" 15 "unlikeplace.catalogue" 257 74)::
 (nat_lit 76,oT #[])::
 (nat_lit 79,oC "joined_table" 293 294 295 67 3 76 181 77 .none .none 78 296 297)::
 (nat_lit 80,oF "joined_table" 16 "unlikeplace.catalogue" 257 79)::
 (nat_lit 81,oT #[])::
 (nat_lit 83,oT #[.str "_law_script" 304])::
 (nat_lit 84,oT #[])::
 (nat_lit 86,oC "_law_pen" 301 302 303 72 1 81 181 82 (.ref 83) (.ref 84) 85 305 306)::
 (nat_lit 87,oF "_law_pen" 18 "law_unlikeplace_k43_catalogues_told" 299 86)::
 (nat_lit 88,oT #[])::
 (nat_lit 90,oT #[.str "_law_pen_here" 311,.str "_law_many" 312,.str "_law_digit" 313,.str "_law_script" 314,.str "_law_at" 315,.str "_law_cell" 316,.str "_law_number" 317])::
 (nat_lit 91,oT #[])::
 (nat_lit 93,oC "_law_draw" 308 309 310 74 2 88 181 89 (.ref 90) (.ref 91) 92 318 319)::
 (nat_lit 94,oF "_law_draw" 19 "law_unlikeplace_k43_catalogues_told" 299 93)::
 (nat_lit 95,oT #[])::
 (nat_lit 97,oT #[.str "_law_thing" 324])::
 (nat_lit 98,oT #[])::
 (nat_lit 100,oC "_law_whole" 321 322 323 91 1 95 181 96 (.ref 97) (.ref 98) 99 325 326)::
 (nat_lit 101,oF "_law_whole" 20 "law_unlikeplace_k43_catalogues_told" 299 100)::
 (nat_lit 102,oT #[])::
 (nat_lit 104,oT #[.str "_law_places" 331,.str "_law_saying" 332,.str "_law_join" 333,.str "_law_one" 334,.str "_law_other" 335,.str "_law_found" 336,.str "_law_k" 337])::
 (nat_lit 105,oT #[])::
 (nat_lit 107,oC "_law_mask" 328 329 330 93 2 102 181 103 (.ref 104) (.ref 105) 106 338 339)::
 (nat_lit 108,oF "_law_mask" 21 "law_unlikeplace_k43_catalogues_told" 299 107)::
 (nat_lit 109,oT #[])::
 (nat_lit 111,oT #[.str "_law_saying" 344,.str "_law_waiting" 345,.str "_law_most" 346,.str "_law_many" 347,.str "_law_here" 348,.str "_law_far" 349])::
 (nat_lit 112,oT #[])::
 (nat_lit 114,oC "_law_size" 341 342 343 103 1 109 181 110 (.ref 111) (.ref 112) 113 350 351)::
 (nat_lit 115,oF "_law_size" 22 "law_unlikeplace_k43_catalogues_told" 299 114)::
 (nat_lit 116,oT #[])::
 (nat_lit 118,oT #[.str "_law_places" 356,.str "_law_thing" 357,.str "_law_waiting" 358,.str "_law_here" 359])::
 (nat_lit 119,oT #[])::
 (nat_lit 121,oC "_law_is_saying" 353 354 355 115 2 116 181 117 (.ref 118) (.ref 119) 120 360 361)::
 (nat_lit 122,oF "_law_is_saying" 23 "law_unlikeplace_k43_catalogues_told" 299 121)::
 (nat_lit 123,oT #[])::
 (nat_lit 125,oT #[.str "_law_places" 366,.str "_law_bits" 367,.str "_law_number" 368,.str "_law_k" 369])::
 (nat_lit 126,oT #[])::
 (nat_lit 128,oC "_law_grows" 363 364 365 131 2 123 181 124 (.ref 125) (.ref 126) 127 370 371)::
 (nat_lit 129,oF "_law_grows" 24 "law_unlikeplace_k43_catalogues_told" 299 128)::
 (nat_lit 130,oT #[])::
 (nat_lit 133,oC "_law_tables" 373 374 375 137 2 130 181 131 .none .none 132 376 377)::
 (nat_lit 134,oF "_law_tables" 25 "law_unlikeplace_k43_catalogues_told" 299 133)::
 (nat_lit 135,oT #[])::
 (nat_lit 137,oT #[.str "_law_saying" 382,.str "_law_join" 383,.str "_law_one" 384,.str "_law_other" 385])::
 (nat_lit 138,oT #[])::
 (nat_lit 140,oC "_law_is_bare" 379 380 381 143 1 135 181 136 (.ref 137) (.ref 138) 139 386 387)::
 (nat_lit 141,oF "_law_is_bare" 26 "law_unlikeplace_k43_catalogues_told" 299 140)::
 (nat_lit 142,oT #[])::
 (nat_lit 145,oC "_law_row_right" 389 390 391 148 4 142 181 143 .none .none 144 392 393)::
 (nat_lit 146,oF "_law_row_right" 27 "law_unlikeplace_k43_catalogues_told" 299 145)::
 (nat_lit 147,oT #[])::
 (nat_lit 150,oC "law" 395 396 397 159 1 147 181 148 .none .none 149 398 399)::
 (nat_lit 151,oF "law" 28 "law_unlikeplace_k43_catalogues_told" 299 150)::[]
end My
noncomputable def PySem.W.Fast.tw6894247980046229166:PySem.Params->PySem.W.Frag:=My.KK
theorem PySem.W.Fast.te6894247980046229166:My.KK=PySem.W.Fast.tw6894247980046229166:=rfl
noncomputable def PySem.W.Fast.tw8951706712310783001:PySem.Program:=PySem.Challenge.pw_unlikeplace_k43_catalogues_told
theorem PySem.W.Fast.te8951706712310783001:PySem.Challenge.pw_unlikeplace_k43_catalogues_told=PySem.W.Fast.tw8951706712310783001:=rfl
namespace PySem.W.Fast
theorem te1937674355498340416:True:=⟨⟩
theorem te5652851963100860480:True:=⟨⟩
theorem te15671993157466957280:True:=⟨⟩
theorem te11147423293900277568:True:=⟨⟩
theorem te6232197597982031840:True:=⟨⟩
theorem te1560527143464136769:True:=⟨⟩
noncomputable def My.sts_114:List PySem.Stmt:=[My.top 16,My.top 17,My.top 18,My.top 19,My.top 20,My.top 21,My.top 22,My.top 23,My.top 24,My.top 25,My.top 26,My.top 27,My.top 28]
noncomputable def tw5777741655728485537:List PySem.Stmt:=My.sts_114
theorem te5777741655728485537:My.sts_114=tw5777741655728485537:=rfl
theorem te7654119432248437953:True:=⟨⟩
theorem te12480188162315159969:True:=⟨⟩
theorem te16853923739333687809:True:=⟨⟩
theorem te2287956284596696641:True:=⟨⟩
theorem te2907557756644927169:True:=⟨⟩
theorem te17927987675729941249:True:=⟨⟩
theorem te15735733261021299585:True:=⟨⟩
theorem te15634606761758982081:True:=⟨⟩
theorem te9140801759400646722:True:=⟨⟩
theorem te3038912484989578338:True:=⟨⟩
theorem te18299539499139718306:True:=⟨⟩
theorem te6623021453715110562:True:=⟨⟩
theorem te10711057366510381730:True:=⟨⟩
theorem te756712711726685986:True:=⟨⟩
theorem te18297635391991111618:True:=⟨⟩
theorem te15474475738991378499:True:=⟨⟩
theorem te8593832162651094467:True:=⟨⟩
theorem te2956024413632835075:True:=⟨⟩
theorem te13814665524775397764:True:=⟨⟩
theorem te5836097716708555877:True:=⟨⟩
theorem te15466645082480588901:True:=⟨⟩
theorem te3545495988575784197:True:=⟨⟩
theorem te3061881304470221093:True:=⟨⟩
theorem te15874191322108030341:True:=⟨⟩
theorem te6637259366639764133:True:=⟨⟩
theorem te1898615343228175462:True:=⟨⟩
theorem te4532093598393396614:True:=⟨⟩
theorem te9065764794443268934:True:=⟨⟩
theorem te16032478908489937766:True:=⟨⟩
theorem te13686366055023401958:True:=⟨⟩
theorem te11137954470378604583:True:=⟨⟩
theorem te17163175236517655783:True:=⟨⟩
theorem te3564882184637480263:True:=⟨⟩
theorem te4565493467754216967:True:=⟨⟩
theorem te6374809642177546855:True:=⟨⟩
theorem te17849110909312590503:True:=⟨⟩
theorem te10713386643427208103:True:=⟨⟩
theorem te232045030306489608:True:=⟨⟩
theorem te18404918509373477833:True:=⟨⟩
theorem te449729078710764586:True:=⟨⟩
theorem te15307850434632169738:True:=⟨⟩
theorem te11351426593754640842:True:=⟨⟩
theorem te5179331927483933226:True:=⟨⟩
theorem te214763656590736042:True:=⟨⟩
theorem te9243734209645078282:True:=⟨⟩
theorem te11979329330259805066:True:=⟨⟩
theorem te12057493279864914091:True:=⟨⟩
theorem te2507650630955779307:True:=⟨⟩
theorem te6658772802217995787:True:=⟨⟩
theorem te2924765282615796651:True:=⟨⟩
theorem te18071063196506069004:True:=⟨⟩
theorem te2898953346142301452:True:=⟨⟩
theorem te7373819086253503852:True:=⟨⟩
theorem te13294157524518875820:True:=⟨⟩
theorem te13781923551014749100:True:=⟨⟩
theorem te1647158824561281581:True:=⟨⟩
theorem te17830742517988581965:True:=⟨⟩
theorem te2061626242703805421:True:=⟨⟩
theorem te3188597771088217582:True:=⟨⟩
theorem te11002433660436729422:True:=⟨⟩
theorem te13113969012417947246:True:=⟨⟩
theorem te7472303638149108398:True:=⟨⟩
theorem te9886300588404902862:True:=⟨⟩
theorem te7046247758254605455:True:=⟨⟩
theorem te13213623253890050223:True:=⟨⟩
theorem te13746471249873467663:True:=⟨⟩
theorem te15550825609770633551:True:=⟨⟩
theorem te3748493089717206767:True:=⟨⟩
theorem te8567878143739505519:True:=⟨⟩
theorem te810935661576335311:True:=⟨⟩
theorem te12678856043898433487:True:=⟨⟩
theorem te14380115602567754064:True:=⟨⟩
theorem te15968509910957243920:True:=⟨⟩
theorem te15615004155808456240:True:=⟨⟩
theorem te14148206048552615504:True:=⟨⟩
theorem te4540083400672229328:True:=⟨⟩
theorem te6172869343103782001:True:=⟨⟩
theorem te8967434158760456337:True:=⟨⟩
theorem te880549249505447057:True:=⟨⟩
theorem te13313031782216747185:True:=⟨⟩
theorem te642382208806871505:True:=⟨⟩
theorem te12899066503419340305:True:=⟨⟩
theorem te6863769928811459634:True:=⟨⟩
theorem te42118796411882994:True:=⟨⟩
theorem te1712843446471536370:True:=⟨⟩
theorem te15896021095386953586:True:=⟨⟩
theorem te1898953875006073459:True:=⟨⟩
theorem te435155269695156019:True:=⟨⟩
theorem te17238001425102042035:True:=⟨⟩
theorem te6240678850910389268:True:=⟨⟩
theorem te2630919900536101940:True:=⟨⟩
theorem te6385496516771363060:True:=⟨⟩
theorem te5797463616073368180:True:=⟨⟩
theorem te3659524564791202548:True:=⟨⟩
theorem te815910930535100212:True:=⟨⟩
theorem te683140278773274197:True:=⟨⟩
theorem te10744904245877318357:True:=⟨⟩
theorem te11739363113896301686:True:=⟨⟩
theorem te4379173595365674646:True:=⟨⟩
theorem te14122485365045440599:True:=⟨⟩
theorem te634711680787998071:True:=⟨⟩
noncomputable def My.view_39:PySem.Program:={ PySem.Challenge.pw_unlikeplace_k43_catalogues_told with main:={ PySem.Challenge.pw_unlikeplace_k43_catalogues_told.main with body:=[My.top 1,My.top 3,My.top 4,My.top 6,My.top 7,My.top 9,My.top 10,My.top 12,My.top 13,My.top 14,My.top 15,My.top 16,My.top 18,My.top 19,My.top 20,My.top 21,My.top 22,My.top 23,My.top 24,My.top 25,My.top 26,My.top 27,My.top 28] } }
noncomputable def tw8459710951742577335:PySem.Program:=My.view_39
theorem te8459710951742577335:My.view_39=tw8459710951742577335:=rfl
theorem te9307159409295498935:True:=⟨⟩
theorem te6620815187124939479:True:=⟨⟩
theorem te2793630380931736920:True:=⟨⟩
theorem te16686707390593325816:True:=⟨⟩
theorem te13867068034650839225:True:=⟨⟩
theorem te14567067471554530521:True:=⟨⟩
theorem te2382017814085765849:True:=⟨⟩
theorem te12382116217624280889:True:=⟨⟩
theorem te7094077239528019162:True:=⟨⟩
theorem te17869188181902347514:True:=⟨⟩
theorem te308360781209380570:True:=⟨⟩
theorem te1949385733213587450:True:=⟨⟩
noncomputable def My.sts_49:List PySem.Stmt:=[My.top 0,My.top 1,My.top 2,My.top 3,My.top 4,My.top 5,My.top 6,My.top 7,My.top 8,My.top 9,My.top 10,My.top 11,My.top 12,My.top 13,My.top 14,My.top 15]
noncomputable def tw14536265466689567835:List PySem.Stmt:=My.sts_49
theorem te14536265466689567835:My.sts_49=tw14536265466689567835:=rfl
theorem te10602501479337236923:True:=⟨⟩
theorem te12181206440034301403:True:=⟨⟩
theorem te5827635255844890491:True:=⟨⟩
theorem te5110682702405979035:True:=⟨⟩
theorem te8508147430729795676:True:=⟨⟩
theorem te13678395423042008284:True:=⟨⟩
theorem te12781488118818343388:True:=⟨⟩
theorem te18176739547859283484:True:=⟨⟩
theorem te10573108755869378172:True:=⟨⟩
theorem te10379229895626108604:True:=⟨⟩
theorem te3118037815551196125:True:=⟨⟩
theorem te14467222563903517918:True:=⟨⟩
theorem te3202983044108385566:True:=⟨⟩
theorem te11953508442171250142:True:=⟨⟩
theorem te10266823182544739966:True:=⟨⟩
theorem te15637207649085756126:True:=⟨⟩
theorem te913392075790429950:True:=⟨⟩
theorem te5429121775489319838:True:=⟨⟩
theorem te6690304295316916190:True:=⟨⟩
theorem te6416693292463342975:True:=⟨⟩
theorem te8736726233543868063:True:=⟨⟩
theorem te9214505969933104831:True:=⟨⟩
theorem te15119799671224889119:True:=⟨⟩
theorem te161833076476870431:True:=⟨⟩
theorem te13077708067229258719:True:=⟨⟩
theorem te14650022294672326623:True:=⟨⟩
end PySem.W.Fast
open PySem PySem.W PyProof.Rows
local macro_rules | `(tactic| walk_at "q")=>`(tactic| (refine' L2.Jf ?d1 ?d2 ?d3 ?d4;(case d1=>k_is);(case d2=>k_is);(case d3=>k_is);(case d4=>k_is)))
set_option maxRecDepth 100000 in
set_option maxHeartbeats 0 in
theorem PySem.Challenge.cw_unlikeplace_k43_catalogues_told_holds : PySem.Challenge.rw_unlikeplace_k43_catalogues_told.Holds := by
 w_on;o_law
 o_head (PySem.W.kmHook My.KK [nat_lit 2,nat_lit 3,nat_lit 15,nat_lit 18,nat_lit 19,nat_lit 20,nat_lit 22,nat_lit 23,nat_lit 25,nat_lit 26,nat_lit 27,nat_lit 29,nat_lit 30,nat_lit 32,nat_lit 33,nat_lit 34,nat_lit 35,nat_lit 37,nat_lit 38,nat_lit 40,nat_lit 41,nat_lit 42,nat_lit 44,nat_lit 45,nat_lit 47,nat_lit 48,nat_lit 49,nat_lit 52,nat_lit 53,nat_lit 54,nat_lit 57,nat_lit 58,nat_lit 59,nat_lit 62,nat_lit 63,nat_lit 64,nat_lit 67,nat_lit 68,nat_lit 69,nat_lit 71,nat_lit 72,nat_lit 74,nat_lit 75,nat_lit 76,nat_lit 79,nat_lit 80,nat_lit 81,nat_lit 83,nat_lit 84,nat_lit 86,nat_lit 87,nat_lit 88,nat_lit 90,nat_lit 91,nat_lit 93,nat_lit 94,nat_lit 95,nat_lit 97,nat_lit 98,nat_lit 100,nat_lit 101,nat_lit 102,nat_lit 104,nat_lit 105,nat_lit 107,nat_lit 108,nat_lit 109,nat_lit 111,nat_lit 112,nat_lit 114,nat_lit 115,nat_lit 116,nat_lit 118,nat_lit 119,nat_lit 121,nat_lit 122,nat_lit 123,nat_lit 125,nat_lit 126,nat_lit 128,nat_lit 129,nat_lit 130,nat_lit 133,nat_lit 134,nat_lit 135,nat_lit 137,nat_lit 138,nat_lit 140,nat_lit 141,nat_lit 142,nat_lit 145,nat_lit 146,nat_lit 147,nat_lit 150,nat_lit 151] (fun _=>by kernel_rfl) [43])
 (case hw=>w_witness2)
 k_fill
 refine L2.zH (l:=PySem.Challenge.rw_unlikeplace_k43_catalogues_told) (n:=63) (k:=30) (x:="_law_script") (CX:=L2.CX0) (sp:=My.qM) rfl (by decide) rfl ⟨rfl,by decide,by decide,rfl⟩ (fun w h Y=>by first | exact PySem.W.kIn_of Y | exact PySem.W.km_in_of Y) (fun w=>by kernel_rfl) ?F ?S ?C
 case F =>
  intro w mg fa h KX G hmg
  have T : ∃ t,t.wo = w/\My.Txt (L2.KOf KX) mg t:=by
   dsimp only [L2.KOf]
   refine' My.FU w KX G ?c8 ?fW ?fY ?bO ?qp ?l6 ?iq ?lQ ?dA ?cX ?cr ?fP ?bY ?bN ?ir ?fK ?eE ?fE ?fN ?b0 ?eC ?dL ?cU ?bZ ?zx ?Bc ?Ay ?yc ?j6 ?kF ?rC ?xp ?xL ?rA ?rB ?Cj ?CP ?vz ?Bk ?gr ?zW ?wj ?AZ ?BE ?qU ?nN ?AY ?zY ?qW ?Ah
   (case c8=>walk_at "q")
   (case fW=>walk_at "q")
   (case fY=>walk_at "q")
   (case bO=>walk_at "q")
   (case qp=>k_is)
   (case l6=>k_is)
   (case iq=>k_is)
   (case lQ=>k_is)
   (case dA=>walk_at "q")
   (case cX=>walk_at "q")
   (case cr=>walk_at "q")
   (case fP=>walk_at "q")
   (case bY=>walk_at "q")
   (case bN=>walk_at "q")
   (case ir=>walk_at "q")
   (case fK=>walk_at "q")
   (case eE=>walk_at "q")
   (case fE=>walk_at "q")
   (case fN=>walk_at "q")
   (case b0=>walk_at "q")
   (case eC=>walk_at "q")
   (case dL=>walk_at "q")
   (case cU=>walk_at "q")
   (case bZ=>walk_at "q")
   (case zx=>k_is)
   (case Bc=>k_is)
   (case Ay=>k_is)
   (case yc=>k_is)
   (case j6=>k_is)
   (case kF=>k_is)
   (case rC=>rfl)
   (case xp=>k_is)
   (case xL=>rfl)
   (case rA=>kernel_rfl)
   (case rB=>kernel_rfl)
   (case Cj=>k_is)
   (case CP=>k_is)
   (case vz=>k_is)
   (case Bk=>k_is)
   (case gr=>k_is)
   (case zW=>k_is)
   (case wj=>k_is)
   (case AZ=>k_is)
   (case BE=>k_is)
   (case qU=>k_is)
   (case nN=>k_is)
   (case AY=>k_is)
   (case zY=>k_is)
   (case qW=>k_is)
   (case Ah=>k_is)
  obtain ⟨t,hw,T⟩:=T
  have e0:=hmg.symm.trans T.Jr
  cases e0
  exact ⟨_,T.G0,fun base=>My.Dj hw T⟩
 case S=>exact fun K H a ns hl hO hS=>My.yS hl hO hS
 case C=>exact fun _ _ _ _ h=>h
