import PyProof.Rows.All
import Wide.All
import OpenK.AllK
import Wide.FinOn
import Lean
import PyProof.EqAt
import PyProof.EqKinds
import PyProof.TupleCall
import PyProof.ExcBaseAll.ValueError
import PyProof.ExcClass2
import PyProof.ExcAttrAll.ValueError
import PyProof.Rows.StrWeight2
import PyProof.FactsAll.str_0
import PyProof.FactsAll.str_5
import KE.KSortAsk
import KE.KSortTup
import KE.KSortKey
import PyProof.Conv_int_bool
import PyProof.StrOps2
import PySem.Challenge.RW_markhall_k51_whole_turned_about_and_plai
set_option Elab.async false
set_option linter.all false
set_option maxRecDepth 100000
namespace Hd
open PySem PySem.W PyProof.Rows
noncomputable def keepB:Stmt→Bool
 | .Assign (.Name x _::_) _ _=>!(x==("__name__":Str))
 | _=>true
noncomputable def view:Program:={PySem.Challenge.rw_markhall_k51_whole_turned_about_and_plai.row.toRowW.prog with main:={PySem.Challenge.rw_markhall_k51_whole_turned_about_and_plai.row.toRowW.prog.main with body:=PySem.Challenge.rw_markhall_k51_whole_turned_about_and_plai.row.toRowW.prog.main.body.filter keepB}}
local macro_rules|`(tactic| o_head $H)=>`(tactic| (refine holds_open (q:=Hd.view) (loose:=[]) (Xt:=fun s=>xlAt Hd.view [] s&&recOk (RowW.records PySem.Challenge.rw_markhall_k51_whole_turned_about_and_plai.row.toRowW) s) (XP:=XL Hd.view []) (Yf:=Hook.obs $H) (Ya:=Hook.val $H) (YP:=Hook.says $H) (N:=9000) ?hl (Hook.of $H) (Hook.keeps $H) (fun s e=>xl_of s (Bool.and_eq_true_iff.mp e).1) XL.keeps (by rfl) (by rfl) (by rfl) (fun s e=>recFacts_of (Bool.and_eq_true_iff.mp e).2) (by rfl) (by first|assumption|decide +kernel) (by decide +kernel) ⟨rfl,rfl,rfl,rfl,rfl,by decide +kernel⟩ ?hw ?hc;(case hl=>(intro w;unfold openEnds fencedOpening topFrom;rw[PySem.W.Fast.te14082659384304107361,PySem.W.Fast.te10274390034422433532,PySem.W.Fast.te14289696077712309145,PySem.W.Fast.te4187177175401517315,PySem.W.Fast.te1435165496053646825,PySem.W.Fast.te14364793385576792824];kernel_rfl))))
set_option maxHeartbeats 0 in
open_top top for PySem.Challenge.rw_markhall_k51_whole_turned_about_and_plai
end Hd
namespace L2
open PySem PySem.Spec PyProof.Rows
noncomputable abbrev Key:=Sum Int Str
noncomputable def keyIs:Key→Value→Bool
 | .inl k,v=>Value.isInt k v
 | .inr x,v=>Value.isStrOf x v
noncomputable def keyH (w:World):Key→Int
 | .inl k=>hashInt k
 | .inr x=>hashStr w x
theorem keyIs_shape:∀{k:Key}{v:Value},keyIs k v=true→(∃ i t,k=Sum.inl i∧v=Value.int i t)∨(∃ x t,k=Sum.inr x∧v=Value.str x t)
 | .inl i,v,h=>by
   obtain⟨t,e⟩:=Value.isInt_shape (k:=i) (v:=v) h
   exact .inl ⟨i,t,rfl,e⟩
 | .inr x,v,h=>by
   obtain⟨t,e⟩:=Value.isStrOf_shape (x:=x) (v:=v) h
   exact .inr ⟨x,t,rfl,e⟩
theorem key_ll (a b:Int):decide ((Sum.inl a:Key)=Sum.inl b)=(a==b):=by
 by_cases e:a=b
 ·subst e;simp
 ·have h:¬(Sum.inl a:Key)=Sum.inl b:=fun q=>e (Sum.inl.inj q)
  rw[decide_eq_false h]
  exact(beq_eq_false_iff_ne.mpr e).symm
theorem key_rr (a b:Str):decide ((Sum.inr a:Key)=Sum.inr b)=decide (a=b):=by
 by_cases e:a=b
 ·subst e;simp
 ·have h:¬(Sum.inr a:Key)=Sum.inr b:=fun q=>e (Sum.inr.inj q)
  rw[decide_eq_false h,decide_eq_false e]
theorem key_lr (a:Int) (b:Str):decide ((Sum.inl a:Key)=Sum.inr b)=false:=decide_eq_false (fun q=>nomatch q)
theorem key_rl (a:Str) (b:Int):decide ((Sum.inr a:Key)=Sum.inl b)=false:=decide_eq_false (fun q=>nomatch q)
noncomputable def mixKind (prog:Program)(w:World):PySem.KeyKind prog w Key where
 is:=keyIs
 hash:=keyH w
 inj:=fun v a b ha hb=>by
  rcases keyIs_shape ha with⟨i,t,rfl,rfl⟩|⟨x,t,rfl,rfl⟩
  ·rcases keyIs_shape hb with⟨j,u,rfl,e⟩|⟨y,u,rfl,e⟩
   ·injection e with e1 _;rw[e1]
   ·exact nomatch e
  ·rcases keyIs_shape hb with⟨j,u,rfl,e⟩|⟨y,u,rfl,e⟩
   ·exact nomatch e
   ·injection e with e1 _;rw[e1]
 byValue:=fun k v h=>by
  rcases keyIs_shape h with⟨i,t,rfl,rfl⟩|⟨x,t,rfl,rfl⟩<;>rfl
 pyHash:=fun hv h=>by
  rcases keyIs_shape hv with⟨i,t,rfl,rfl⟩|⟨x,t,rfl,rfl⟩
  ·exact wpAny_pyHash_int h
  ·exact wpAny_pyHash_str h
 eqBool:=fun hu hv h=>by
  rcases keyIs_shape hu with⟨i,t,rfl,rfl⟩|⟨x,t,rfl,rfl⟩
  ·rcases keyIs_shape hv with⟨j,u,rfl,rfl⟩|⟨y,u,rfl,rfl⟩
   ·rw[key_ll] at h;exact wpAny_eqBool_int h
   ·rw[key_lr] at h;exact SeqAt.EqAt.int_str i t y u _ _ _ _ h
  ·rcases keyIs_shape hv with⟨j,u,rfl,rfl⟩|⟨y,u,rfl,rfl⟩
   ·rw[key_rl] at h;exact SeqAt.EqAt.str_int x t j u _ _ _ _ h
   ·rw[key_rr] at h;exact wpAny_eqBool_str h
 «strs»:=fun k x t v h=>by
  rcases keyIs_shape h with⟨i,u,rfl,e⟩|⟨y,u,rfl,e⟩
  ·exact nomatch e
  ·injection e with e1 _
   subst e1
   cases v<;>rfl
end L2
namespace L2
open PySem PySem.Spec PyProof.Rows
inductive V where
 | non|bl (b:Bool)|int (i:Int)|str (x:Str)|byt (b:Array UInt8)|flt (b:UInt64)|ref (a:Addr)|ty (n:String)
 deriving DecidableEq
noncomputable def RelV:V→Value→Prop
 | .non,u=>u=Value.none
 | .bl b,u=>u=Value.bool b
 | .int i,u=>∃ t,u=Value.int i t
 | .str x,u=>∃ t,u=Value.str x t
 | .byt b,u=>∃ t,u=Value.bytes b t
 | .flt b,u=>∃ t,u=Value.float b t
 | .ref a,u=>u=Value.ref a
 | .ty n,u=>u=Value.type n
noncomputable abbrev Vals:List V→List Value→Prop:=Paired RelV
theorem Vals.length {xs:List V}{us:List Value}(r:Vals xs us):xs.length=us.length:=Paired.length r
theorem Vals.get:∀{xs:List V}{us:List Value}{i:Nat}{x:V},Vals xs us→xs[i]?=some x→∃ u,us[i]?=some u∧RelV x u
 | _,_,_,_,.nil,e=>by simp at e
 | _,_,0,_,.cons r _,e=>by simp at e;subst e;exact⟨_,rfl,r⟩
 | _,_,i+1,x,.cons _ t,e=>by
   obtain⟨u,h1,h2⟩:=Vals.get (i:=i) (x:=x) t (by simpa using e)
   exact⟨u,by simpa using h1,h2⟩
theorem Vals.append:∀{xs ys:List V}{us ws:List Value},Vals xs us→Vals ys ws→Vals (xs++ys) (us++ws)
 | _,_,_,_,.nil,s=>s
 | _,_,_,_,.cons r t,s=>.cons r (Vals.append t s)
theorem Vals.take:∀{xs:List V}{us:List Value} (n:Nat),Vals xs us→Vals (xs.take n) (us.take n)
 | _,_,0,_=>.nil
 | _,_,_+1,.nil=>.nil
 | _,_,n+1,.cons r t=>.cons r (Vals.take n t)
theorem Vals.drop:∀{xs:List V}{us:List Value} (n:Nat),Vals xs us→Vals (xs.drop n) (us.drop n)
 | _,_,0,r=>r
 | _,_,_+1,.nil=>.nil
 | _,_,n+1,.cons _ t=>Vals.drop n t
noncomputable def RelO:Option V→Option Value→Prop
 | some v,some u=>RelV v u
 | none,none=>True
 | _,_=>False
noncomputable def KV {κ:Type}:List (κ×V)→List (κ×Value)→Prop:=Paired fun(p:κ×V)(q:κ×Value)=>p.1=q.1∧RelV p.2 q.2
noncomputable def kV:Key→V
 | .inl i=>.int i
 | .inr x=>.str x
inductive HO where
  
 | lst (xs:List V)
  
 | tup (xs:List V)
  
 | dK (kvs:List (Key×V))|dT (kvs:List (List Key×V))
  
 | set (S:Int→Bool) (n:Nat)
  
 | ins (C dx:Addr)(fs:List (Str×V))
  
 | own (x:Addr)
  
 | xd (fs:List (Str×V))
  
 | met (f x:Addr)
  
 | rng (lo hi:Int)
  
 | frz (o:Obj)(u:HO)
  
 | tbl (ps:Array Value)
  
 | ext (φ:Heap→Prop)
noncomputable abbrev Hp:=Addr→Option HO
noncomputable def upd (H:Hp)(a:Addr)(o:HO):Hp:=fun b=>if b=a then some o else H b
theorem upd_same {H:Hp}{a:Addr}{o:HO}:upd H a o a=some o:=by unfold upd;rw[if_pos rfl]
theorem upd_ne {H:Hp}{a b:Addr}{o:HO}(h:b≠a):upd H a o b=H b:=by unfold upd;rw[if_neg h]
theorem ne_of {H:Hp}{a b:Addr}{o u:HO}(h:H a=some o)(h':H b=some u)(d:o≠u):a≠b:=by
 intro e;subst e;rw[h] at h';exact d (Option.some.inj h')
theorem ne_of_none {H:Hp}{a b:Addr}{o:HO}(h:H a=some o)(h':H b=none):a≠b:=by
 intro e;subst e;rw[h] at h';cases h'
section
variable (P:Program)(w:World)
noncomputable def ObjOk (H:Hp)(h:Heap)(a:Addr):HO→Prop
 | .lst xs=>xs.length≤sizeLine∧∃(its:List Value) (n:Nat),Vals xs its∧h.get? a=some {cls:=.type "list",data:=.seq its.toArray n}
 | .tup xs=>xs.length≤sizeLine∧∃ its:List Value,Vals xs its∧IsTup h a its.toArray
 | .dK kvs=>kvs.length≤sizeLine∧(a==sysModules)=false∧∃ vs,KV kvs vs∧h.DictOf (mixKind P w) a vs
 | .dT kvs=>kvs.length≤sizeLine∧(a==sysModules)=false∧∃ xs:List (List Key×Addr×Value),
   Paired (fun(p:List Key×V)(q:List Key×Addr×Value)=>p.1=q.1∧H q.2.1=some (.tup (p.1.map kV))∧RelV p.2 q.2.2) kvs xs ∧
   ∃ o es ep,h.get? a=some o∧o.ExactDict∧o.data=.dict es ep∧es.toList=xs.map (entryOfKey (tupleKind (mixKind P w)))∧(xs.map (·.1)).Nodup
 | .set S n=>h.SetOf (intKind P w) a S n
 | .ins C dx fs=>H dx=some (.own a)∧fs.length≤1000∧dx≠a∧h.get? a=some (PySem.W.instObj C dx) ∧
   ∃ mA,h.Ns1 dx mA∧(∀ f,RelO (fs.lookup f) (mA f))∧PySem.Within mA (fs.map (·.1))
 | .own _=>∃ o,h.get? a=some o
 | .xd fs=>∃ mA,h.Ns1 a mA∧∀ f,RelO (fs.lookup f) (mA f)
 | .rng lo hi=>∃ t u v,h.get? a=some {cls:=.type "range",data:=.fields #[.int lo t,.int hi u,.int 1 v]}
 | .frz o u=>h.get? a=some o∧ObjOk H h a u
 | .tbl ps=>h.get? a=some {cls:=.none,data:=.fields ps}
 | .met f x=>h.get? a=some (PySem.W.methodObj (.ref f) (.ref x))
 | .ext φ=>φ h∧(∃ o,h.get? a=some o)∧∀ h1 h2:Heap,φ h1→(∀ o,h1.get? a=some o→h2.get? a=some o)→φ h2
noncomputable def HOk (H:Hp)(h:Heap):Prop:=∀ a o,H a=some o→ObjOk P w H h a o
end
section
variable {P:Program}{w:World}{H H':Hp}{h h':Heap}{a:Addr}{o:HO}
theorem ObjOk.lt (x:ObjOk P w H h a o):a<h.objs.size:=by
 cases o with
 | lst xs=>obtain⟨_,_,_,_,e⟩:=x;exact Heap.lt_size e
 | tup xs=>obtain⟨_,_,_,p⟩:=x;exact p.lt
 | dK kvs=>obtain⟨_,_,_,_,o,_,_,e,_⟩:=x;exact Heap.lt_size e
 | dT kvs=>obtain⟨_,_,_,_,o,_,_,e,_⟩:=x;exact Heap.lt_size e
 | set S n=>obtain⟨o,_,_,_,e,_⟩:=x;exact Heap.lt_size e
 | ins C dx fs=>obtain⟨_,_,_,e,_⟩:=x;exact Heap.lt_size e
 | own y=>obtain⟨_,e⟩:=x;exact Heap.lt_size e
 | xd fs=>obtain⟨_,⟨_,_,_,e,_⟩,_⟩:=x;exact Heap.lt_size e
 | rng lo hi=>obtain⟨_,_,_,e⟩:=x;exact Heap.lt_size e
 | frz ob u=>obtain⟨e,_⟩:=x;exact Heap.lt_size e
 | tbl ps=>exact Heap.lt_size (show h.get? a=some _ from x)
 | met f y=>exact Heap.lt_size (show h.get? a=some _ from x)
 | ext φ=>obtain⟨_,⟨_,e⟩,_⟩:=x;exact Heap.lt_size e
theorem Paired.mapP {α β:Type}{F G:α→β→Prop}:∀{l₁:List α}{l₂:List β},Paired F l₁ l₂→(∀ a b,F a b→G a b)→Paired G l₁ l₂
 | _,_,.nil,_=>.nil
 | _,_,.cons r t,f=>.cons (f _ _ r) (Paired.mapP t f)
theorem ObjOk.stay (x:ObjOk P w H h a o)(k:∀ b u,(b=a∨H b=some (.own a))→h.get? b=some u→h'.get? b=some u)
  (ho:∀ b,H b=some (.own a)→H' b=some (.own a)) (ht:∀ b xs,H b=some (.tup xs)→H' b=some (.tup xs)):ObjOk P w H' h' a o:=by
 induction o with
 | lst xs=>obtain⟨z,its,n,r,e⟩:=x;exact⟨z,its,n,r,k _ _ (.inl rfl) e⟩
 | tup xs=>obtain⟨z,its,r,ob,e,c⟩:=x;exact⟨z,its,r,ob,k _ _ (.inl rfl) e,c⟩
 | dK kvs=>obtain⟨z,y,vs,r,ob,es,ep,e,c⟩:=x;exact⟨z,y,vs,r,ob,es,ep,k _ _ (.inl rfl) e,c⟩
 | dT kvs =>
   obtain⟨z,y,xs,r,ob,es,ep,e,c⟩:=x
   exact⟨z,y,xs,Paired.mapP r fun p q z=>⟨z.1,ht _ _ z.2.1,z.2.2⟩,ob,es,ep,k _ _ (.inl rfl) e,c⟩
 | set S n=>obtain⟨ob,es,ep,t,e,c⟩:=x;exact⟨ob,es,ep,t,k _ _ (.inl rfl) e,c⟩
 | ins C dx fs =>
   obtain⟨d,z,ne,e,mA,⟨od,es,ep,e2,c⟩,r⟩:=x
   exact⟨ho _ d,z,ne,k _ _ (.inl rfl) e,mA,⟨od,es,ep,k _ _ (.inr d) e2,c⟩,r⟩
 | own y=>obtain⟨ob,e⟩:=x;exact⟨ob,k _ _ (.inl rfl) e⟩
 | xd fs=>obtain⟨mA,⟨od,es,ep,e,c⟩,r⟩:=x;exact⟨mA,⟨od,es,ep,k _ _ (.inl rfl) e,c⟩,r⟩
 | rng lo hi=>obtain⟨t,u,v,e⟩:=x;exact⟨t,u,v,k _ _ (.inl rfl) e⟩
 | frz ob u ih=>obtain⟨e,q⟩:=x;exact⟨k _ _ (.inl rfl) e,ih q⟩
 | tbl ps =>
   have e:h.get? a=some {cls:=.none,data:=.fields ps}:=x
   show h'.get? a=some {cls:=.none,data:=.fields ps}
   exact k a _ (.inl rfl) e
 | met f y =>
   have e:h.get? a=some (PySem.W.methodObj (.ref f) (.ref y)):=x
   show h'.get? a=some (PySem.W.methodObj (.ref f) (.ref y))
   exact k a _ (.inl rfl) e
 | ext φ=>obtain⟨p,⟨o,e⟩,st⟩:=x;exact⟨st _ _ p fun o q=>k _ _ (.inl rfl) q,⟨o,k _ _ (.inl rfl) e⟩,st⟩
theorem HOk.lt (x:HOk P w H h)(e:H a=some o):a<h.objs.size:=(x a o e).lt
theorem HOk.fresh (x:HOk P w H h)(e:h.objs.size≤a):H a=none:=by
 cases q:H a with
 | none=>rfl
 | some u=>exact absurd (Nat.lt_of_lt_of_le (x.lt q) e) (Nat.lt_irrefl _)
theorem HOk.kept (x:HOk P w H h)(k:∀ b u,h.get? b=some u→h'.get? b=some u):HOk P w H h':=fun a o e =>
 (x a o e).stay (fun b u _ q=>k b u q) (fun _ q=>q) fun _ _ q=>q
theorem HOk.laid (x:HOk P w H h)(k:∀ b u,h.get? b=some u→h'.get? b=some u)(hp:h.objs.size≤a)(new:ObjOk P w (upd H a o) h' a o):HOk P w (upd H a o) h':=fun b u e=>by
 have hn:=x.fresh hp
 by_cases hb:b=a
 ·subst hb;rw[upd_same] at e;cases e;exact new
 ·rw[upd_ne hb] at e
  exact(x b u e).stay (fun c v _ q=>k c v q) (fun c q=>by rw[upd_ne (ne_of_none q hn)];exact q) fun c xs q=>by rw[upd_ne (ne_of_none q hn)];exact q
end
noncomputable def Rd (H:Hp)(a:Addr)(u:HO):Prop:=H a=some u∨∃ o,H a=some (.frz o u)
theorem Rd.ok {P:Program}{w:World}{H:Hp}{h:Heap}{a:Addr}{u:HO}(r:Rd H a u)(x:HOk P w H h):ObjOk P w H h a u:=by
 rcases r with r|⟨o,r⟩
 ·exact x a u r
 ·obtain⟨_,q⟩:=x a _ r
  exact q
noncomputable def Mut:Option HO→Prop
 | some (.lst _)=>True
 | some (.dK _)=>True
 | some (.dT _)=>True
 | some (.set _ _)=>True
 | some (.ins _ _ _)=>True
 | some (.ext _)=>True
 | _=>False
section
variable {P:Program}{w:World}{H:Hp}{h h':Heap}{x e:Addr}{o':HO}
theorem HOk.write (ok:HOk P w H h)(mu:Mut (H x)) (he:e=x∨H e=some (.own x)) (k:∀ b u,b≠e→h.get? b=some u→h'.get? b=some u)(heo:∃ u,h'.get? e=some u)
  (new:ObjOk P w (upd H x o') h' x o'):HOk P w (upd H x o') h':=fun b u q=>by
 have nown:∀ c y,H c=some (.own y)→c≠x:=fun c y r z=>by subst z;rw[r] at mu;exact mu
 have ntup:∀ c xs,H c=some (.tup xs)→c≠x:=fun c xs r z=>by subst z;rw[r] at mu;exact mu
 by_cases hb:b=x
 ·subst hb;rw[upd_same] at q;cases q;exact new
 ·rw[upd_ne hb] at q
  by_cases hbe:b=e
  ·have q':H b=some (.own x):=by
    rcases he with z|z
    ·exact absurd (hbe.trans z) hb
    ·rw[hbe];exact z
   rw[q] at q';cases q'
   obtain⟨v,hv⟩:=heo
   exact⟨v,by rw[hbe];exact hv⟩
  ·refine(ok b u q).stay (fun c v hc r=>k c v ?_ r) (fun c r=>by rw[upd_ne (nown c b r)];exact r) fun c xs r=>by rw[upd_ne (ntup c xs r)];exact r
   rcases hc with rfl|hc
   ·exact hbe
   ·rintro rfl
    rcases he with z|z
    ·exact nown c b hc z
    ·rw[hc] at z;cases z;exact hb rfl
end
structure Un (fs ex:List Addr)(H H':Hp)(h h':Heap):Prop where
 keep:∀ b o,h.get? b=some o→H b=none→b∉fs→b∉ex→h'.get? b=some o
 slot:∀ b o,h.get? b=some o→H b=none→b∈fs→b∉ex→∃ sl,h'.get? b=some {o with slots:=sl}
 free:∀ b o,h.get? b=some o→H b=none→b∉ex→H' b=none
 there:∀ b o,h.get? b=some o→b∉ex→∃ o',h'.get? b=some o'
 tups:∀ b xs,H b=some (.tup xs)→H' b=some (.tup xs)
 frzs:∀ b o u,H b=some (.frz o u)→H' b=some (.frz o u)
 tbls:∀ b ps,H b=some (.tbl ps)→∃ more,H' b=some (.tbl (ps++more))
section
variable {fs fs' ex ex':List Addr}{H H1 H2:Hp}{h h1 h2 h':Heap}{a x e:Addr}{o:HO}
theorem Un.any (u:Un fs ex H H1 h h1){b:Addr}{ob:Obj}(q:h.get? b=some ob)(n:H b=none)(hx:b∉ex):∃ sl,h1.get? b=some {ob with slots:=sl}:=by
 by_cases hb:b∈fs
 ·exact u.slot b ob q n hb hx
 ·exact⟨ob.slots,u.keep b ob q n hb hx⟩
theorem Un.kept (k:∀ b u,h.get? b=some u→h'.get? b=some u):Un fs ex H H h h' :=
 ⟨fun b ob q _ _ _=>k b ob q,fun b ob q _ _ _=>⟨ob.slots,k b ob q⟩,fun _ _ _ n _=>n,fun b ob q _=>⟨ob,k b ob q⟩,fun _ _ q=>q,fun _ _ _ q=>q,fun _ ps q=>⟨#[],by rw[q];simp⟩⟩
theorem Un.refl:Un fs ex H H h h:=Un.kept fun _ _ q=>q
theorem Un.laid (k:∀ b u,h.get? b=some u→h'.get? b=some u)(hp:h.objs.size≤a)(hn:H a=none):Un fs ex H (upd H a o) h h' where
 keep:=fun b u q _ _ _=>k b u q
 slot:=fun b u q _ _ _=>⟨u.slots,k b u q⟩
 free:=fun b u q n _=>by rw[upd_ne (Nat.ne_of_lt (Nat.lt_of_lt_of_le (Heap.lt_size q) hp))];exact n
 there:=fun b u q _=>⟨u,k b u q⟩
 tups:=fun b xs q=>by rw[upd_ne (ne_of_none q hn)];exact q
 frzs:=fun b u xs q=>by rw[upd_ne (ne_of_none q hn)];exact q
 tbls:=fun b ps q=>⟨#[],by rw[upd_ne (ne_of_none q hn),q];simp⟩
theorem Un.write (mu:Mut (H x)) (he:e=x∨H e=some (.own x)) (k:∀ b u,b≠e→h.get? b=some u→h'.get? b=some u)(heo:∃ u,h'.get? e=some u):Un fs ex H (upd H x o) h h':=by
 have hx:∀ b,H b=none→b≠x:=fun b n z=>by subst z;rw[n] at mu;exact mu
 have hb:∀ b,H b=none→b≠e:=fun b n z=>by
  subst z
  rcases he with r|r
  ·exact hx b n r
  ·rw[n] at r;cases r
 have hm:∀ b u,H b=some u→¬ Mut (some u)→b≠x:=fun b u q nm z=>by subst z;rw[q] at mu;exact nm mu
 refine⟨fun b u q n _ _=>k b u (hb b n) q,fun b u q n _ _=>⟨u.slots,k b u (hb b n) q⟩,fun b u q n _=>by rw[upd_ne (hx b n)];exact n,fun b u q _=>?_,
  fun b xs q=>by rw[upd_ne (hm b _ q fun z=>z)];exact q,fun b u xs q=>by rw[upd_ne (hm b _ q fun z=>z)];exact q,fun b ps q=>⟨#[],by rw[upd_ne (hm b _ q fun z=>z),q];simp⟩⟩
 by_cases hbe:b=e
 ·subst hbe;exact heo
 ·exact⟨u,k b u hbe q⟩
end
noncomputable def trk (h:Heap)(H:Hp):List Addr:=(List.range h.objs.size).filter fun a=>(H a).isSome
noncomputable def hidT (h:Heap)(H:Hp):Heap:=PySem.W.hideAll h (trk h H)
theorem hidT_size (h:Heap)(H:Hp):(hidT h H).objs.size=h.objs.size:=PySem.W.hideAll_size _ _
theorem hidT_get {h:Heap}{H:Hp}{b:Addr}{o:Obj}(e:h.get? b=some o)(n:H b=none):(hidT h H).get? b=some o :=
 PySem.W.hideAll_get _ e fun hm=>by
  have q:(H b).isSome=true:=(List.mem_filter.mp hm).2
  rw[n] at q;simp at q
theorem of_hidT {h:Heap}{H:Hp}{b:Addr}{o:Obj}(e:(hidT h H).get? b=some o):h.get? b=some o∧H b=none:=by
 have e':h.get? b=some o:=PySem.W.of_hideAll (trk h H) e
 refine⟨e',?_⟩
 cases q:H b with
 | none=>rfl
 | some x =>
   have hm:b∈trk h H:=List.mem_filter.mpr ⟨List.mem_range.mpr (Heap.lt_size e'),by simp [q]⟩
   have z:(hidT h H).get? b=none:=PySem.W.hideAll_none (trk h H) hm
   rw[z] at e;cases e
noncomputable def allNews (g h:Heap)(L:Addr):List (Addr×Obj):=(List.range h.objs.size).filterMap fun a=>if a=L∨(g.get? a).isSome=true then none else (h.get? a).map fun o=>(a,o)
noncomputable def rest (g h:Heap)(L d:Addr):List (Addr×Obj):=(allNews g h L).filter fun p=>decide (p.1≠d)
end L2
namespace L2
open PySem PySem.Spec PyProof.Rows
structure Mod (K:PySem.W.Frag)(mg:Str→Option Value)(base:Heap):Prop where
 kin:K.In base
 glob:base.Ns mainGlobals mg
 blt:∃ mb,base.Ns builtinsNs mb∧∀ x:Str,x≠"__name__"→mb x=bootBuiltins x
 nolimit:base.NoLimit
structure Cx where
 prog:Program
 w:World
 K:PySem.W.Frag
 mg:Str→Option Value
 base:Heap
 A:Around
 N:List Str
 s₀:Shared
 H₀:Hp
 env:Env
 outer:List Env
 stack:List Env
 ex:List Addr
 fn:Str→Bool
 calm:Bool
 pn:List (Addr×Obj)
 xe:Value→Shared→Prop
noncomputable def frs (l:List Env):List Addr:=l.filterMap (·.frame)
noncomputable abbrev Cx.fs (X:Cx):List Addr:=frs X.outer
noncomputable def Vis (sc:Scope) (x:Str):Prop:=sc.names.lookup x=some .local∨sc.names.lookup x=some .cell∨sc.names.lookup x=some .free
noncomputable def Loc (sc:Scope) (x:Str):Prop:=sc.names.lookup x=some .local∨sc.names.lookup x=some .cell
noncomputable def Look (env:Env)(h:Heap)(m:Str→Option Value) (x:Str)(u:Value):Prop :=
 (env.kindOf x=some .local∧m x=some u)∨((env.kindOf x=some .cell∨env.kindOf x=some .free)∧∃ c,env.cells.lookup x=some c∧h.IsCell c (some u))
structure Cx.Ok (X:Cx):Prop where
 mod:Mod X.K X.mg X.base
 kind:X.env.scope.kind=.function
 glob:X.env.globals=mainGlobals
 blt:X.env.builtins=builtinsNs
 above:X.s₀.heap.objs.size≤X.env.locals
 inj:∀ x y c,X.env.cells.lookup x=some c→X.env.cells.lookup y=some c→x=y
 has:∀ x,(X.env.kindOf x=some .cell∨X.env.kindOf x=some .free)→∃ c,X.env.cells.lookup x=some c
 cab:∀ x c,X.fn x=true→X.env.cells.lookup x=some c→X.s₀.heap.objs.size≤c
 hd:X.calm=true→X.A.handled=none
 frames:X.A.frames=some X.stack
 stk:X.stack=X.outer∨(X.stack=X.env::X.outer∧X.env.frame=some X.env.locals)
 exf:∀ b∈X.ex,b≠X.env.locals∧∀ x c,X.env.cells.lookup x=some c→c≠b
 bs:∀ b o,X.base.get? b=some o→X.s₀.heap.get? b=some o∧X.H₀ b=none
 bsz:X.base.objs.size≤X.s₀.heap.objs.size
 noex:∀ b o,X.base.get? b=some o→b∉X.ex
 exfs:∀ b∈X.ex,b∉X.fs
 funs:X.s₀.heap.FunFrames X.base X.outer
 frf:∀ b∈X.fs,X.H₀ b=none
structure Inv (X:Cx)(pins:List (Addr×Obj)) (σ:List (Option V)) (H:Hp)(s:Shared):Prop where
 ok:X.Ok
 os:s.os=X.s₀.os
 bare:AllBare s.gens
 base:Un X.fs X.ex X.H₀ H X.s₀.heap s.heap
 loc:∃ m,s.heap.Ns X.env.locals m∧∀(i:Nat) (x:Str)(v:V),X.N[i]?=some x→σ[i]?=some (some v)→Vis X.env.scope x→∃ u,RelV v u∧Look X.env s.heap m x u
 cell:∀ x c,X.env.cells.lookup x=some c→∃ v,s.heap.IsCell c v
 free:H X.env.locals=none
 freeC:∀ x c,X.env.cells.lookup x=some c→H c=none
 pin:∀ p∈X.pn++pins,s.heap.get? p.1=some p.2∧H p.1=none∧p.1≠X.env.locals∧p.1∉X.fs∧∀ v,p.2.data≠.cell v
 hok:HOk X.prog X.w H s.heap
 len:σ.length=X.N.length
section
variable {X:Cx}{pins:List (Addr×Obj)}{σ:List (Option V)}{H H':Hp}{s:Shared}{h':Heap}
theorem Cx.Ok.nofr (ok:X.Ok){b:Addr}{o:Obj}(e:X.base.get? b=some o):b∉X.fs:=fun hb=>by
 have:=(ok.funs.mem hb).1
 rw[e] at this;cases this
theorem Inv.bs (I:Inv X pins σ H s):∀ b o,X.base.get? b=some o→s.heap.get? b=some o∧H b=none:=fun b o e =>
 ⟨I.base.keep b o (I.ok.bs b o e).1 (I.ok.bs b o e).2 (I.ok.nofr e) (I.ok.noex b o e),I.base.free b o (I.ok.bs b o e).1 (I.ok.bs b o e).2 (I.ok.noex b o e)⟩
theorem Inv.bk (I:Inv X pins σ H s):∀ b o,X.base.get? b=some o→s.heap.get? b=some o:=fun b o e=>(I.bs b o e).1
theorem Inv.mod (I:Inv X pins σ H s):Mod X.K X.mg X.base:=I.ok.mod
theorem Inv.kIn (I:Inv X pins σ H s):X.K.In s.heap:=I.ok.mod.kin.keeps I.bk
theorem Inv.lt (I:Inv X pins σ H s):X.env.locals<s.heap.objs.size:=let ⟨_,hn,_⟩:=I.loc;hn.lt
theorem Inv.sz (I:Inv X pins σ H s):X.s₀.heap.objs.size≤s.heap.objs.size:=Nat.le_trans I.ok.above (Nat.le_of_lt I.lt)
theorem Inv.nofs (I:Inv X pins σ H s){a:Addr}(h:s.heap.objs.size≤a):a∉X.fs:=fun hb=>by
 obtain⟨_,o,ho,_⟩:=I.ok.funs.mem hb
 exact absurd (Nat.lt_of_lt_of_le (Heap.lt_size ho) (Nat.le_trans I.sz h)) (Nat.lt_irrefl _)
theorem Inv.cne (I:Inv X pins σ H s):∀ x c,X.env.cells.lookup x=some c→c≠X.env.locals:=fun x c e z=>by
 obtain⟨v,o,ho,hd⟩:=I.cell x c e
 obtain⟨m,⟨o',es,ep,ho',hd',_⟩,_⟩:=I.loc
 rw[z,ho'] at ho;cases ho;rw[hd'] at hd;cases hd
theorem Inv.funs (I:Inv X pins σ H s):s.heap.FunFrames X.base X.outer:=by
 have all:∀(l:List Env),(∀ b∈frs l,b∈X.fs)→X.s₀.heap.FunFrames X.base l→s.heap.FunFrames X.base l:=by
  intro l
  induction l with
  | nil=>intro _ _;trivial
  | cons env r ih =>
    intro hs hl
    obtain⟨hk,⟨L,o,hf,hn,ho,hd⟩,hr⟩:=hl
    have hL:L∈X.fs:=hs L (by unfold frs;rw[List.filterMap_cons,hf];exact List.mem_cons_self)
    obtain⟨sl,e⟩:=I.base.slot L o ho (I.ok.frf L hL) hL fun z=>I.ok.exfs L z hL
    exact⟨hk,⟨L,_,hf,hn,e,hd⟩,ih (fun b hb=>hs b (by unfold frs;rw[List.filterMap_cons,hf];exact List.mem_cons_of_mem _ hb)) hr⟩
 exact all X.outer (fun _ hb=>hb) I.ok.funs
theorem Inv.stack (I:Inv X pins σ H s):s.heap.FunFrames X.base X.stack:=by
 rcases I.ok.stk with e|⟨e,hf⟩
 ·rw[e];exact I.funs
 ·rw[e]
  obtain⟨m,hn,_⟩:=I.loc
  refine .cons (by rw[I.ok.kind];decide) hf hn ?_ I.funs
  exact Heap.get?_none_of_le (Nat.le_trans I.ok.bsz I.ok.above)
theorem Inv.stkSub (I:Inv X pins σ H s):∀ b∈frs X.stack,b∈X.env.locals::X.fs:=fun b hb=>by
 rcases I.ok.stk with e|⟨e,hf⟩
 ·rw[e] at hb;exact List.mem_cons_of_mem _ hb
 ·rw[e] at hb
  unfold frs at hb
  rw[List.filterMap_cons,hf] at hb
  exact hb
theorem Inv.stkFree (I:Inv X pins σ H s):∀ b∈frs X.stack,H b=none:=fun b hb=>by
 rcases List.mem_cons.mp (I.stkSub b hb) with e|hb
 ·rw[e];exact I.free
 ·obtain⟨_,o,ho,_⟩:=I.ok.funs.mem hb
  exact I.base.free b o ho (I.ok.frf b hb) fun z=>I.ok.exfs b z hb
theorem Inv.step {g':Array GenState}{t':Nat}{d':Drawn}{ch:List Addr}(I:Inv X pins σ H s)
  (hch:∀ b∈ch,(b∈X.ex∨X.s₀.heap.objs.size≤b)∧b≠X.env.locals∧(∀ x c,X.env.cells.lookup x=some c→c≠b)∧∀ p∈X.pn++pins,p.1≠b)
  (keep:∀ b o,b≠X.env.locals→b∉X.fs→b∉ch→s.heap.get? b=some o→H b=none→h'.get? b=some o)
  (slot:∀ b o,b≠X.env.locals→b∈X.fs→b∉ch→s.heap.get? b=some o→H b=none→∃ sl,h'.get? b=some {o with slots:=sl}) (free:∀ b o,b∉ch→s.heap.get? b=some o→H b=none→H' b=none)
  (there:∀ b o,b∉ch→s.heap.get? b=some o→∃ o',h'.get? b=some o')
  (tups:∀ b xs,H b=some (.tup xs)→H' b=some (.tup xs)) (frzs:∀ b o u,H b=some (.frz o u)→H' b=some (.frz o u)) (tbls:∀ b ps,H b=some (.tbl ps)→∃ more,H' b=some (.tbl (ps++more)))
  (ns:∀ m,s.heap.Ns X.env.locals m→h'.Ns X.env.locals m)(hok:HOk X.prog X.w H' h')(hg:AllBare g') :
  Inv X pins σ H' {s with heap:=h',gens:=g',drawn:=d',toks:=t'}:=by
 have neL:∀ b o,X.s₀.heap.get? b=some o→b≠X.env.locals:=fun b o e=>Nat.ne_of_lt (Nat.lt_of_lt_of_le (Heap.lt_size e) I.ok.above)
 have neC:∀ b o,X.s₀.heap.get? b=some o→b∉X.ex→b∉ch:=fun b o e hx hb=>by
  rcases(hch b hb).1 with z|z
  ·exact hx z
  ·exact absurd (Nat.lt_of_lt_of_le (Heap.lt_size e) z) (Nat.lt_irrefl _)
 have cellK:∀ x c,X.env.cells.lookup x=some c→∀ v,s.heap.IsCell c v→h'.IsCell c v:=fun x c e v ⟨o,ho,hd⟩=>by
  have nch:c∉ch:=fun z=>(hch c z).2.2.1 x c e rfl
  by_cases hc:c∈X.fs
  ·obtain⟨sl,q⟩:=slot c o (I.cne x c e) hc nch ho (I.freeC x c e)
   exact⟨_,q,hd⟩
  ·exact⟨o,keep c o (I.cne x c e) hc nch ho (I.freeC x c e),hd⟩
 refine⟨I.ok,I.os,hg,⟨fun b o e n hb hx=>?_,fun b o e n hb hx=>?_,fun b o e n hx=>?_,fun b o e hx=>?_,fun b xs e=>tups b xs (I.base.tups b xs e),fun b o xs e=>frzs b o xs (I.base.frzs b o xs e),fun b ps e=>?_⟩,?_,fun x c e=>?_,?_,fun x c e=>?_,fun p hp=>?_,hok,I.len⟩
 ·exact keep b o (neL b o e) hb (neC b o e hx) (I.base.keep b o e n hb hx) (I.base.free b o e n hx)
 ·obtain⟨sl,e1⟩:=I.base.slot b o e n hb hx
  obtain⟨sl',e2⟩:=slot b _ (neL b o e) hb (neC b o e hx) e1 (I.base.free b o e n hx)
  exact⟨sl',e2⟩
 ·obtain⟨o',e1⟩:=I.base.there b o e hx
  exact free b o' (neC b o e hx) e1 (I.base.free b o e n hx)
 ·obtain⟨o',e1⟩:=I.base.there b o e hx
  exact there b o' (neC b o e hx) e1
 ·obtain⟨m1,e1⟩:=I.base.tbls b ps e
  obtain⟨m2,e2⟩:=tbls b _ e1
  exact⟨m1++m2,by rw[e2,Array.append_assoc]⟩
 ·obtain⟨m,hn,hl⟩:=I.loc
  refine⟨m,ns m hn,fun i x v e1 e2 e3=>?_⟩
  obtain⟨u,r,l⟩:=hl i x v e1 e2 e3
  refine⟨u,r,?_⟩
  rcases l with l|⟨k,c,e,z⟩
  ·exact .inl l
  ·exact .inr ⟨k,c,e,cellK x c e _ z⟩
 ·obtain⟨v,z⟩:=I.cell x c e
  exact⟨v,cellK x c e v z⟩
 ·obtain⟨m,⟨o,_,_,ho,_⟩,_⟩:=I.loc
  exact free _ o (fun z=>(hch _ z).2.1 rfl) ho I.free
 ·obtain⟨v,o,ho,hd⟩:=I.cell x c e
  exact free c o (fun z=>(hch c z).2.2.1 x c e rfl) ho (I.freeC x c e)
 ·obtain⟨e,n,ne,nf,d⟩:=I.pin p hp
  have nch:p.1∉ch:=fun z=>(hch p.1 z).2.2.2 p hp rfl
  exact⟨keep p.1 p.2 ne nf nch e n,free p.1 p.2 nch e n,ne,nf,d⟩
theorem Inv.un {t':Nat}(I:Inv X pins σ H s)(u:Un X.fs [] H H' s.heap h')(hok:HOk X.prog X.w H' h'):Inv X pins σ H' {s with heap:=h',toks:=t'}:=by
 obtain⟨m,⟨o,es,ep,ho,r⟩,_⟩:=id I.loc
 obtain⟨sl,hL⟩:=u.any ho I.free (by simp)
 exact I.step (g':=s.gens) (d':=s.drawn) (ch:=[]) (fun _ z=>nomatch z) (fun b o _ hb _ e n=>u.keep b o e n hb (by simp)) (fun b o _ hb _ e n=>u.slot b o e n hb (by simp)) (fun b o _ e n=>u.free b o e n (by simp)) (fun b o _ e=>u.there b o e (by simp)) u.tups u.frzs u.tbls (fun m' hm=>by
  obtain⟨o',es',ep',ho',r'⟩:=hm
  rw[ho] at ho';cases ho'
  exact⟨_,es',ep',hL,r'⟩) hok I.bare
theorem Inv.call {g':Array GenState}{t':Nat}{d':Drawn}{ch:List Addr}(I:Inv X pins σ H s)(u:Un (frs X.stack) ch H H' s.heap h') (hok:HOk X.prog X.w H' h')(hg:AllBare g')
  (hch:∀ b∈ch,(b∈X.ex∨X.s₀.heap.objs.size≤b)∧b≠X.env.locals∧(∀ x c,X.env.cells.lookup x=some c→c≠b)∧∀ p∈X.pn++pins,p.1≠b) :
  Inv X pins σ H' {s with heap:=h',gens:=g',drawn:=d',toks:=t'}:=by
 obtain⟨m,⟨o,es,ep,ho,r⟩,_⟩:=id I.loc
 obtain⟨sl,hL⟩:=u.any ho I.free fun z=>(hch _ z).2.1 rfl
 exact I.step (ch:=ch) hch (fun b o hL hb hc e n=>u.keep b o e n (fun z=>(List.mem_cons.mp (I.stkSub b z)).elim hL hb) hc) (fun b o _ _ hc e n=>u.any e n hc) (fun b o hc e n=>u.free b o e n hc) (fun b o hc e=>u.there b o e hc) u.tups u.frzs u.tbls (fun m' hm=>by
  obtain⟨o',es',ep',ho',r'⟩:=hm
  rw[ho] at ho';cases ho'
  exact⟨_,es',ep',hL,r'⟩) hok hg
theorem Inv.turned {t':Nat}{it:Addr}(I:Inv X pins σ H s)(k:∀ b o,b≠it→s.heap.get? b=some o→h'.get? b=some o)(hn:H it=none)(hL:it≠X.env.locals)
  (h1:it∈X.ex∨X.s₀.heap.objs.size≤it)(h2:∀ x c,X.env.cells.lookup x=some c→c≠it)(h3:∀ p∈X.pn++pins,p.1≠it):Inv X pins σ H {s with heap:=h',toks:=t'}:=by
 have nit:∀ b u,H b=some u→b≠it:=fun b u e z=>by rw[z,hn] at e;cases e
 refine I.step (g':=s.gens) (d':=s.drawn) (ch:=[it]) (fun b hb=>?_) (fun b o _ _ hc e _=>k b o (fun z=>hc (by simp [z])) e) (fun b o _ _ hc e _=>⟨o.slots,k b o (fun z=>hc (by simp [z])) e⟩) (fun _ _ _ _ n=>n)
  (fun b o hc e=>⟨o,k b o (fun z=>hc (by simp [z])) e⟩) (fun _ _ e=>e) (fun _ _ _ e=>e) (fun b ps e=>⟨#[],by rw[e];simp⟩) (fun m hm=>?_) (fun b u e=>?_) I.bare
 ·have e:b=it:=by simpa using hb
  subst e
  exact⟨h1,hL,h2,h3⟩
 ·obtain⟨o,es,ep,ho,r⟩:=hm
  exact⟨o,es,ep,k _ o (Ne.symm hL) ho,r⟩
 ·refine(I.hok b u e).stay (fun c v hc q=>k c v ?_ q) (fun _ q=>q) fun _ _ q=>q
  rcases hc with z|z
  ·rw[z];exact nit b u e
  ·exact nit c _ z
theorem Inv.tok (I:Inv X pins σ H s) (t:Nat):Inv X pins σ H {s with toks:=t}:=I.un (h':=s.heap) (t':=t) Un.refl I.hok
theorem Inv.kept {t':Nat}(I:Inv X pins σ H s)(k:∀ b u,s.heap.get? b=some u→h'.get? b=some u):Inv X pins σ H {s with heap:=h',toks:=t'}:=I.un (Un.kept k) (I.hok.kept k)
theorem Inv.laid {a:Addr}{o:HO}{t':Nat}(I:Inv X pins σ H s)(k:∀ b u,s.heap.get? b=some u→h'.get? b=some u)(hp:s.heap.objs.size≤a)(new:ObjOk X.prog X.w (upd H a o) h' a o) :
  Inv X pins σ (upd H a o) {s with heap:=h',toks:=t'}:=I.un (Un.laid k hp (I.hok.fresh hp)) (I.hok.laid k hp new)
theorem Inv.write {x e:Addr}{o:HO}{t':Nat}(I:Inv X pins σ H s)(mu:Mut (H x)) (he:e=x∨H e=some (.own x)) (k:∀ b u,b≠e→s.heap.get? b=some u→h'.get? b=some u)(heo:∃ u,h'.get? e=some u)
  (new:ObjOk X.prog X.w (upd H x o) h' x o):Inv X pins σ (upd H x o) {s with heap:=h',toks:=t'}:=I.un (Un.write mu he k heo) (I.hok.write mu he k heo new)
theorem Inv.weak {σ':List (Option V)}(I:Inv X pins σ H s)(hl:σ'.length=σ.length)(w:∀(i:Nat) v,σ'[i]?=some (some v)→σ[i]?=some (some v)):Inv X pins σ' H s :=
 ⟨I.ok,I.os,I.bare,I.base,let ⟨m,hn,hl'⟩:=I.loc;⟨m,hn,fun i x v e1 e2 e3=>hl' i x v e1 (w i v e2) e3⟩,I.cell,I.free,I.freeC,I.pin,I.hok,hl.trans I.len⟩
theorem Inv.pins_of {pins':List (Addr×Obj)}(I:Inv X pins σ H s)(h:∀ p∈pins',s.heap.get? p.1=some p.2∧H p.1=none∧p.1≠X.env.locals∧p.1∉X.fs∧∀ v,p.2.data≠.cell v):Inv X pins' σ H s :=
 ⟨I.ok,I.os,I.bare,I.base,I.loc,I.cell,I.free,I.freeC,fun p hp=>(List.mem_append.mp hp).elim (fun z=>I.pin p (List.mem_append_left _ z)) (h p),I.hok,I.len⟩
theorem nodup_ix {N:List Str}(hN:N.Nodup){i j:Nat}{x:Str}(a:N[i]?=some x)(b:N[j]?=some x):i=j:=by
 obtain⟨h1,e1⟩:=List.getElem?_eq_some_iff.mp a
 obtain⟨h2,e2⟩:=List.getElem?_eq_some_iff.mp b
 exact(List.getElem_inj hN).mp (e1.trans e2.symm)
theorem store_ok2 {M:Model}{A:Around}{E:Value→Shared→Prop}{i:Nat}{x:Str}{v:V}{u:Value}{Q:Unit→Shared→Prop}(I:Inv X pins σ H s)(hN:X.N.Nodup)(hi:X.N[i]?=some x)(hx:Loc X.env.scope x)(r:RelV v u)
  (h:∀ s',Inv X pins (σ.set i (some v)) H s'→(∃ a,Heap.SameBut a s.heap s'.heap∧(a=X.env.locals∨X.env.cells.lookup x=some a))→Q () s') (hf:X.fn x=true∨X.env.scope.names.lookup x=some .local:=by first|exact .inl rfl|exact .inr rfl|assumption):wpAny M A (storeName X.env x u) Q E s:=by
 obtain⟨m,hn,hl⟩:=id I.loc
 have hcls:(X.env.scope.kind==.class||(X.env.scope.kind==.module&&X.env.locals != X.env.globals))=false:=by rw[I.ok.kind];rfl
 have hiσ:i<σ.length:=by rw[I.len];exact(List.getElem?_eq_some_iff.mp hi).1
 have cne:=I.cne
 have tracked:∀{a:Addr}{h':Heap},(∃ o,s.heap.get? a=some o∧H a=none)→Heap.SameBut a s.heap h'→HOk X.prog X.w H h':=fun{a h'} ha hs b ob e=>by
  obtain⟨_,_,hfree⟩:=ha
  refine(I.hok b ob e).stay (fun c w' hc q=>(hs.2 c ?_).trans q) (fun _ q=>q) fun _ _ q=>q
  rintro rfl
  rcases hc with rfl|hc
  ·rw[hfree] at e;cases e
  ·rw[hfree] at hc;cases hc
 rcases hx with hk|hk
 ·refine wpAny_storeName_local hk hn (fun h' hn' hs=>?_) hcls
  obtain⟨oL,_,_,hoL,_⟩:=id hn
  refine h _ ⟨I.ok,I.os,I.bare,⟨fun b o e n hb hx=>?_,fun b o e n hb hx=>?_,I.base.free,fun b o e hx=>?_,I.base.tups,I.base.frzs,I.base.tbls⟩,⟨_,hn',fun j y v' e1 e2 e3=>?_⟩,fun y c e=>?_,I.free,I.freeC,fun p hp=>?_,tracked ⟨oL,hoL,I.free⟩ hs,by simpa using I.len⟩ ⟨_,hs,.inl rfl⟩
  ·exact(hs.2 b (Nat.ne_of_lt (Nat.lt_of_lt_of_le (Heap.lt_size e) I.ok.above))).trans (I.base.keep b o e n hb hx)
  ·obtain⟨sl,e1⟩:=I.base.slot b o e n hb hx
   exact⟨sl,(hs.2 b (Nat.ne_of_lt (Nat.lt_of_lt_of_le (Heap.lt_size e) I.ok.above))).trans e1⟩
  ·obtain⟨o',e1⟩:=I.base.there b o e hx
   exact⟨o',(hs.2 b (Nat.ne_of_lt (Nat.lt_of_lt_of_le (Heap.lt_size e) I.ok.above))).trans e1⟩
  ·by_cases hj:j=i
   ·subst hj
    rw[hi] at e1;cases e1
    rw[List.getElem?_set_self hiσ] at e2
    cases e2
    exact⟨u,r,.inl ⟨hk,by simp⟩⟩
   ·rw[List.getElem?_set_ne (Ne.symm hj)] at e2
    obtain⟨u',r',q⟩:=hl j y v' e1 e2 e3
    refine⟨u',r',?_⟩
    rcases q with⟨k,e⟩|⟨k,c,e,z⟩
    ·refine .inl ⟨k,?_⟩
     have:y≠x:=fun e=>hj (nodup_ix hN e1 (e▸hi))
     simp [this,e]
    ·exact .inr ⟨k,c,e,z.sameBut hs (cne y c e)⟩
  ·obtain⟨w',z⟩:=I.cell y c e
   exact⟨w',z.sameBut hs (cne y c e)⟩
  ·obtain⟨e,n,ne,nf,d⟩:=I.pin p hp
   exact⟨(hs.2 p.1 ne).trans e,n,ne,nf,d⟩
 ·have hfn:X.fn x=true:=by
   rcases hf with z|z
   ·exact z
   ·rw[z] at hk;cases hk
  obtain⟨c,hc⟩:=I.ok.has x (.inl hk)
  obtain⟨w',z⟩:=I.cell x c hc
  refine wpAny_storeName_cell I.ok.kind hk hc z (fun h' hc' hs=>?_)
  obtain⟨oc,hoc,hocd⟩:=id z
  refine h {s with heap:=h'} ⟨I.ok,I.os,I.bare,⟨fun b o e n hb hx=>?_,fun b o e n hb hx=>?_,I.base.free,fun b o e hx=>?_,I.base.tups,I.base.frzs,I.base.tbls⟩,⟨m,hn.sameBut hs (Ne.symm (cne x c hc)),fun j y v' e1 e2 e3=>?_⟩,fun y c' e=>?_,I.free,I.freeC,fun p hp=>?_,tracked ⟨oc,hoc,I.freeC x c hc⟩ hs,by simpa using I.len⟩ ⟨c,hs,.inr hc⟩
  ·exact(hs.2 b (Nat.ne_of_lt (Nat.lt_of_lt_of_le (Heap.lt_size e) (I.ok.cab x c hfn hc)))).trans (I.base.keep b o e n hb hx)
  ·obtain⟨sl,e1⟩:=I.base.slot b o e n hb hx
   exact⟨sl,(hs.2 b (Nat.ne_of_lt (Nat.lt_of_lt_of_le (Heap.lt_size e) (I.ok.cab x c hfn hc)))).trans e1⟩
  ·obtain⟨o',e1⟩:=I.base.there b o e hx
   exact⟨o',(hs.2 b (Nat.ne_of_lt (Nat.lt_of_lt_of_le (Heap.lt_size e) (I.ok.cab x c hfn hc)))).trans e1⟩
  ·by_cases hj:j=i
   ·subst hj
    rw[hi] at e1;cases e1
    rw[List.getElem?_set_self hiσ] at e2
    cases e2
    exact⟨u,r,.inr ⟨.inl hk,c,hc,hc'⟩⟩
   ·rw[List.getElem?_set_ne (Ne.symm hj)] at e2
    obtain⟨u',r',q⟩:=hl j y v' e1 e2 e3
    refine⟨u',r',?_⟩
    rcases q with q|⟨k,c',e,z'⟩
    ·exact .inl q
    ·refine .inr ⟨k,c',e,z'.sameBut hs ?_⟩
     rintro rfl
     exact hj (nodup_ix hN e1 (I.ok.inj _ _ _ e hc▸hi))
  ·by_cases hcc:c'=c
   ·subst hcc;exact⟨_,hc'⟩
   ·obtain⟨w2,z2⟩:=I.cell y c' e
    exact⟨w2,z2.sameBut hs hcc⟩
  ·obtain⟨e,n,ne,nf,d⟩:=I.pin p hp
   refine⟨(hs.2 p.1 ?_).trans e,n,ne,nf,d⟩
   intro q
   rw[q,hoc] at e
   have q':oc=p.2:=Option.some.inj e
   exact d w' (by rw[← q'];exact hocd)
theorem store_ok {M:Model}{A:Around}{E:Value→Shared→Prop}{i:Nat}{x:Str}{v:V}{u:Value}{Q:Unit→Shared→Prop}(I:Inv X pins σ H s)(hN:X.N.Nodup)(hi:X.N[i]?=some x)(hx:Loc X.env.scope x)(r:RelV v u)
  (h:∀ s',Inv X pins (σ.set i (some v)) H s'→Q () s') (hf:X.fn x=true∨X.env.scope.names.lookup x=some .local:=by first|exact .inl rfl|exact .inr rfl|assumption):wpAny M A (storeName X.env x u) Q E s :=
 store_ok2 I hN hi hx r (fun s' I' _=>h s' I') hf
theorem Inv.call' {s':Shared}{ch:List Addr}(I:Inv X pins σ H s)(ho:s'.os=s.os)(u:Un (frs X.stack) ch H H' s.heap s'.heap) (hok:HOk X.prog X.w H' s'.heap)(hg:AllBare s'.gens)
  (hch:∀ b∈ch,(b∈X.ex∨X.s₀.heap.objs.size≤b)∧b≠X.env.locals∧(∀ x c,X.env.cells.lookup x=some c→c≠b)∧∀ p∈X.pn++pins,p.1≠b):Inv X pins σ H' s':=by
 obtain⟨h',g',d',t',o'⟩:=s'
 have e:o'=s.os:=ho
 subst e
 exact I.call (g':=g') (t':=t') (d':=d') u hok hg hch
end
noncomputable abbrev XK:=Value→Option Addr→Hp→Prop
noncomputable abbrev St:=List (Option V)
noncomputable abbrev VK:=V→Hp→Prop
noncomputable abbrev TE:=St→Hp→VK→Prop
noncomputable abbrev TT:=St→Hp→(Bool→Hp→Prop)→Prop
noncomputable abbrev TA:=St→Hp→(List V→Hp→Prop)→Prop
structure Ends where
 nx:St→Hp→Prop
 rt:VK
 bk:St→Hp→Prop:=fun _ _=>False
 ct:St→Hp→Prop:=fun _ _=>False
noncomputable abbrev TS:=Ends→St→Hp→Prop
noncomputable def EP (X:Cx)(pins:List (Addr×Obj)) (σ:St)(Q:VK)(u:Value)(s':Shared):Prop:=∃ v H',Inv X pins σ H' s'∧RelV v u∧Q v H'
noncomputable def TP (X:Cx)(pins:List (Addr×Obj)) (σ:St)(Q:Bool→Hp→Prop)(b:Bool)(s':Shared):Prop:=∃ H',Inv X pins σ H' s'∧Q b H'
noncomputable def AP (X:Cx)(pins:List (Addr×Obj)) (σ:St)(Q:List V→Hp→Prop)(us:List Value)(s':Shared):Prop:=∃ vs H',Inv X pins σ H' s'∧Vals vs us∧Q vs H'
noncomputable def SP (X:Cx)(pins:List (Addr×Obj)) (D:Ends)(f:Flow)(s':Shared):Prop :=
 match f with
 | .next=>∃ σ' H',Inv X pins σ' H' s'∧D.nx σ' H'
 | .brk=>∃ σ' H',Inv X pins σ' H' s'∧D.bk σ' H'
 | .cont=>∃ σ' H',Inv X pins σ' H' s'∧D.ct σ' H'
 | .ret u=>∃ v σ' H',Inv X pins σ' H' s'∧RelV v u∧D.rt v H'
noncomputable def PE (X:Cx)(e:Expr)(t:TE):Prop :=
 ∀(pins:List (Addr×Obj)) (s:Shared)(σ:St)(H:Hp)(Q:VK),Inv X pins σ H s→t σ H Q→wpAny (model X.prog X.w) X.A (eval e X.env) (EP X pins σ Q) X.xe s
noncomputable def PT (X:Cx)(e:Expr)(t:TT):Prop :=
 ∀(pins:List (Addr×Obj)) (s:Shared)(σ:St)(H:Hp)(Q:Bool→Hp→Prop),Inv X pins σ H s→t σ H Q→wpAny (model X.prog X.w) X.A (isTrue e X.env (eval e X.env)) (TP X pins σ Q) X.xe s
noncomputable def PW (X:Cx)(e:Expr)(t:TT):Prop :=
 ∀(whole:Sem Value)(pins:List (Addr×Obj)) (s:Shared)(σ:St)(H:Hp)(Q:Bool→Hp→Prop),Inv X pins σ H s→t σ H Q→wpAny (model X.prog X.w) X.A (isTrue e X.env whole) (TP X pins σ Q) X.xe s
theorem PW.pt {X:Cx}{e:Expr}{t:TT}(h:PW X e t):PT X e t:=h _
noncomputable def PA (X:Cx)(es:List Expr)(t:TA):Prop :=
 ∀(pos:Pos)(pins:List (Addr×Obj)) (s:Shared)(σ:St)(H:Hp)(Q:List V→Hp→Prop),Inv X pins σ H s→t σ H Q→wpAny (model X.prog X.w) X.A (spliced (backTo pos (starEach es X.env))) (AP X pins σ Q) X.xe s
noncomputable def PS (X:Cx)(st:Stmt)(t:TS):Prop :=
 ∀(pins:List (Addr×Obj)) (s:Shared)(σ:St)(H:Hp)(D:Ends),Inv X pins σ H s→t D σ H→wpAny (model X.prog X.w) X.A (exec st X.env) (SP X pins D) X.xe s
noncomputable def PSs (X:Cx)(st:List Stmt)(t:TS):Prop :=
 ∀(pins:List (Addr×Obj)) (s:Shared)(σ:St)(H:Hp)(D:Ends),Inv X pins σ H s→t D σ H→wpAny (model X.prog X.w) X.A (execs st X.env) (SP X pins D) X.xe s
theorem thn {α:Type}{t:Sem α}{Q Q':α→Shared→Prop}{M:Model}{A:Around}{E:Value→Shared→Prop}{s:Shared}(h:wpAny M A t Q E s)(hQ:∀ a s,Q a s→Q' a s):wpAny M A t Q' E s:=wpAny_mono h hQ fun _ _ x=>x
end L2
namespace L2
open PySem PySem.Spec PyProof.Rows
section
variable {X:Cx}
noncomputable def tVar (i:Nat):TE:=fun σ H Q=>∃ v,σ[i]?=some (some v)∧Q v H
noncomputable def tC (v:V):TE:=fun _ H Q=>Q v H
theorem pe_var {i:Nat}{x:Str}{pos:Pos}(hN:X.N[i]?=some x)(hv:Vis X.env.scope x)(hd:(x==("__debug__":Str))=false:=by decide) (hcd:(x==("__classdict__":Str))=false:=by decide):PE X (.Name x pos) (tVar i):=by
 intro pins s σ H Q I h
 obtain⟨v,e,h⟩:=h
 obtain⟨m,hn,hl⟩:=I.loc
 obtain⟨u,r,l⟩:=hl i x v hN e hv
 have fin:EP X pins σ Q u s:=⟨v,H,I,r,h⟩
 rcases l with⟨hk,hm⟩|⟨hk,c,hc,hcell⟩
 ·exact wpAny_Name (wpAny_loadName_local I.ok.kind hk hn hm fin) hd
 ·rcases hk with hk|hk
  ·exact wpAny_Name (wpAny_loadName_cell I.ok.kind hk hc hcell fin) hd
  ·exact wpAny_Name (wpAny_loadName_free I.ok.kind hk hc hcell fin hcd) hd
theorem pe_int {i j pos}:PE X (.Constant (.int i) j pos) (tC (.int i)):=fun _ _ _ H _ I h=>wpAny_Constant_int ⟨.int i,H,I.tok _,⟨_,rfl⟩,h⟩
theorem pe_bl {b j pos}:PE X (.Constant (.bool b) j pos) (tC (.bl b)):=fun _ _ _ H _ I h=>Constant_bool ⟨.bl b,H,I,rfl,h⟩
noncomputable def Gl (X:Cx) (x:Str):Prop:=X.env.kindOf x=some .globalImplicit
theorem ld_glob {E:Value→Shared→Prop}{pins:List (Addr×Obj)}{s:Shared}{σ:St}{H:Hp}{x:Str}{u:Value}{pos:Pos}{Q:Value→Shared→Prop}(I:Inv X pins σ H s)(hg:Gl X x)(hm:X.mg x=some u)(h:Q u s)
  (hd:(x==("__debug__":Str))=false:=by decide):wpAny (model X.prog X.w) X.A (eval (.Name x pos) X.env) Q E s :=
 Calls.Name_function_global I.ok.kind hg (Calls.loadGlobal_global (by rw[I.ok.glob];exact I.mod.glob.keeps I.bk) hm h) hd
theorem ld_blt {E:Value→Shared→Prop}{pins:List (Addr×Obj)}{s:Shared}{σ:St}{H:Hp}{x:Str}{u:Value}{pos:Pos}{Q:Value→Shared→Prop}(I:Inv X pins σ H s)(hg:Gl X x)(hm:X.mg x=none)(hv:bootBuiltins x=some u)(h:Q u s)
  (hn:x≠"__name__":=by decide)(hd:(x==("__debug__":Str))=false:=by decide):wpAny (model X.prog X.w) X.A (eval (.Name x pos) X.env) Q E s:=by
 obtain⟨mb,h1,h2⟩:=I.mod.blt
 exact Calls.Name_function_global I.ok.kind hg (Calls.loadGlobal_builtin (by rw[I.ok.glob];exact I.mod.glob.keeps I.bk) hm (by rw[I.ok.blt];exact h1.keeps I.bk) ((h2 x hn).trans hv) h) hd
theorem pe_glob {x:Str}{v:V}{u:Value}{pos:Pos}(hg:Gl X x)(hm:X.mg x=some u)(r:RelV v u)(hd:(x==("__debug__":Str))=false:=by decide):PE X (.Name x pos) (tC v) :=
 fun _ _ _ H _ I h=>ld_glob I hg hm ⟨v,H,I,r,h⟩ hd
noncomputable def t2I (ta tb:TE)(k:Int→Int→Hp→Prop):St→Hp→Prop:=fun σ H=>ta σ H fun x H1=>tb σ H1 fun y H2=>∃ i j,x=.int i∧y=.int j∧k i j H2
noncomputable def tAdd (ta tb:TE):TE:=fun σ H Q=>t2I ta tb (fun i j H2=>Q (.int (i+j)) H2) σ H
noncomputable def tSub (ta tb:TE):TE:=fun σ H Q=>t2I ta tb (fun i j H2=>Q (.int (i - j)) H2) σ H
noncomputable def tMul (ta tb:TE):TE:=fun σ H Q=>t2I ta tb (fun i j H2=>(-(2 ^ 64)<i∧i<2 ^ 64)∧Q (.int (i * j)) H2) σ H
variable {a b:Expr}{ta tb:TE}{pos:Pos}
noncomputable def tB (t:TE):TT:=fun σ H Q=>t σ H fun x H1=>∃ c,x=.bl c∧Q c H1
theorem pt_val {e:Expr}{t:TE}(h:PE X e t)(he:∀ whole,isTrue e X.env whole=(do let v ← whole;standAt e.pos;holding [v] (truthy v)):=by intro _;rfl):PT X e (tB t):=by
 intro pins s σ H Q I hw
 refine isTrue_plain (thn (h pins s σ H _ I hw) fun v s1 ⟨x,H1,I1,r1,q1⟩=>?_) (he _)
 obtain⟨d,rfl,q⟩:=q1
 cases r1
 exact wpAny_truthy_bool ⟨H1,I1,q⟩
variable {tA tB':TT}{rest:List Expr}
noncomputable def tOr (t u:TT):TT:=fun σ H Q=>t σ H fun c H1=>if c=true then Q true H1 else u σ H1 Q
noncomputable def tNot (t:TT):TT:=fun σ H Q=>t σ H fun c H1=>Q (!c) H1
theorem pw_or1 (ha:PT X a tA):PW X (.BoolOp .Or [a] pos) tA:=by
 intro wh pins s σ H Q I h
 refine isTrue_or (thn (ha pins s σ H Q I h) fun c s1 e=>?_)
 cases c with
 | false=>exact isTrue_or_nil e
 | true=>exact e
theorem pw_or (ha:PT X a tA)(hb:PW X (.BoolOp .Or (b::rest) pos) tB'):PW X (.BoolOp .Or (a::b::rest) pos) (tOr tA tB'):=by
 intro wh pins s σ H Q I h
 refine isTrue_or (thn (ha pins s σ H _ I h) fun c s1 ⟨H1,I1,q1⟩=>?_)
 cases c with
 | true=>exact⟨H1,I1,q1⟩
 | false=>exact hb wh pins s1 σ H1 Q I1 q1
theorem pt_not (ha:PT X a tA):PT X (.UnaryOp .Not a pos) (tNot tA):=by
 intro pins s σ H Q I h
 exact isTrue_not (ha pins s σ H (fun c H1=>Q (!c) H1) I h)
noncomputable def tIf (t:TT)(ta tb:TE):TE:=fun σ H Q=>t σ H fun c H1=>if c=true then ta σ H1 Q else tb σ H1 Q
theorem pe_ifExp {c:Expr}(hc:PT X c tA)(ha:PE X a ta)(hb:PE X b tb):PE X (.IfExp c a b pos) (tIf tA ta tb):=by
 intro pins s σ H Q I h
 refine wpAny_IfExp (thn (hc pins s σ H _ I h) fun d s1 ⟨H1,I1,q1⟩=>?_)
 cases d with
 | true=>exact ha pins s1 σ H1 Q I1 q1
 | false=>exact hb pins s1 σ H1 Q I1 q1
end
end L2
namespace L2
open PySem PySem.Spec PyProof.Rows
noncomputable def SqL (K:PySem.W.Frag)(H:Hp)(a:Addr)(xs:List V):Prop :=
 Rd H a (.lst xs) ∨
  ∃(o:Obj)(its:Array Value) (n:Nat),K.lookup a=some o∧o.cls=.type "list"∧o.dict=none∧o.data=.seq its n∧its.size≤sizeLine∧Vals xs its.toList
noncomputable def SqT (K:PySem.W.Frag)(H:Hp)(a:Addr)(xs:List V):Prop :=
 Rd H a (.tup xs) ∨
  ∃(o:Obj)(its:Array Value) (n:Nat),K.lookup a=some o∧o.cls=.type "tuple"∧o.data=.seq its n∧its.size≤sizeLine∧Vals xs its.toList
noncomputable def absV:Value→Option V
 | .none=>some .non
 | .bool b=>some (.bl b)
 | .int i _=>some (.int i)
 | .str x _=>some (.str x)
 | .bytes b _=>some (.byt b)
 | .float b _=>some (.flt b)
 | .ref a=>some (.ref a)
 | .type n=>some (.ty n)
 | _=>none
theorem RelV.abs {x:V}{u:Value}(r:RelV x u):absV u=some x:=by
 cases x with
 | non=>cases r;rfl
 | bl _=>cases r;rfl
 | int _=>obtain⟨t,rfl⟩:=r;rfl
 | str _=>obtain⟨t,rfl⟩:=r;rfl
 | byt _=>obtain⟨t,rfl⟩:=r;rfl
 | flt _=>obtain⟨t,rfl⟩:=r;rfl
 | ref _=>cases r;rfl
 | ty _=>cases r;rfl
theorem RelV.inj {x y:V}{u:Value}(r:RelV x u)(q:RelV y u):x=y:=Option.some.inj (r.abs.symm.trans q.abs)
theorem Vals.inj:∀{xs ys:List V}{us:List Value},Vals xs us→Vals ys us→xs=ys
 | _,_,_,.nil,.nil=>rfl
 | _,_,_,.cons r t,.cons r' t'=>by rw[r.inj r',Vals.inj t t']
section
variable {X:Cx}{pins:List (Addr×Obj)}{σ:St}{H:Hp}{s:Shared}{a:Addr}{xs ys:List V}
theorem SqL.of {K:PySem.W.Frag}(h:H a=some (.lst xs)):SqL K H a xs:=.inl (.inl h)
theorem SqT.of {K:PySem.W.Frag}(h:H a=some (.tup xs)):SqT K H a xs:=.inl (.inl h)
theorem Inv.list (I:Inv X pins σ H s)(h:SqL X.K H a xs):∃ its:List Value,Vals xs its∧PlainL s.heap a its.toArray∧xs.length≤sizeLine:=by
 rcases h with h|⟨o,its,n,hk,hc,hd,hs,hz,r⟩
 ·obtain⟨z,its,n,r,e⟩:=h.ok I.hok
  exact⟨its,r,⟨_,n,e,rfl,rfl,rfl⟩,z⟩
 ·refine⟨its.toList,r,⟨o,n,I.kIn a o hk,hc,hd,by simpa using hs⟩,?_⟩
  have e:=r.length
  simp only[Array.length_toList] at e
  omega
theorem Inv.tuple (I:Inv X pins σ H s)(h:SqT X.K H a xs):∃ its:List Value,Vals xs its∧IsTup s.heap a its.toArray∧xs.length≤sizeLine:=by
 rcases h with h|⟨o,its,n,hk,hc,hs,hz,r⟩
 ·obtain⟨z,its,r,p⟩:=h.ok I.hok
  exact⟨its,r,p,z⟩
 ·refine⟨its.toList,r,⟨o,I.kIn a o hk,hc,n,by simpa using hs⟩,?_⟩
  have e:=r.length
  simp only[Array.length_toList] at e
  omega
theorem Inv.list_inj (I:Inv X pins σ H s)(h:SqL X.K H a xs)(h':SqL X.K H a ys):xs=ys:=by
 obtain⟨its,r,⟨o,n,e,_,_,d⟩,_⟩:=I.list h
 obtain⟨its',r',⟨o',n',e',_,_,d'⟩,_⟩:=I.list h'
 rw[e] at e';cases e'
 rw[d] at d'
 injection d' with d1 _
 have:its=its':=by simpa using congrArg Array.toList d1
 subst this
 exact r.inj r'
theorem Inv.tuple_inj (I:Inv X pins σ H s)(h:SqT X.K H a xs)(h':SqT X.K H a ys):xs=ys:=by
 obtain⟨its,r,⟨o,e,_,n,d⟩,_⟩:=I.tuple h
 obtain⟨its',r',⟨o',e',_,n',d'⟩,_⟩:=I.tuple h'
 rw[e] at e';cases e'
 rw[d] at d'
 injection d' with d1 _
 have:its=its':=by simpa using congrArg Array.toList d1
 subst this
 exact r.inj r'
end
noncomputable abbrev Cx.wish (X:Cx)(E:Value→Shared→Prop):Cx:={X with xe:=E}
noncomputable abbrev Cx.nox (X:Cx):Cx:=X.wish fun _ _=>False
theorem Cx.Ok.wish {X:Cx}(ok:X.Ok)(E:Value→Shared→Prop):(X.wish E).Ok :=
 ⟨ok.mod,ok.kind,ok.glob,ok.blt,ok.above,ok.inj,ok.has,ok.cab,ok.hd,ok.frames,ok.stk,ok.exf,ok.bs,ok.bsz,ok.noex,ok.exfs,ok.funs,ok.frf⟩
theorem Cx.Ok.unwish {X:Cx}{E:Value→Shared→Prop}(ok:(X.wish E).Ok):X.Ok :=
 ⟨ok.mod,ok.kind,ok.glob,ok.blt,ok.above,ok.inj,ok.has,ok.cab,ok.hd,ok.frames,ok.stk,ok.exf,ok.bs,ok.bsz,ok.noex,ok.exfs,ok.funs,ok.frf⟩
section
variable {X:Cx}{pins:List (Addr×Obj)}{σ:St}{H:Hp}{s:Shared}{E:Value→Shared→Prop}
theorem Inv.wish (I:Inv X pins σ H s)(E:Value→Shared→Prop):Inv (X.wish E) pins σ H s:=⟨I.ok.wish E,I.os,I.bare,I.base,I.loc,I.cell,I.free,I.freeC,I.pin,I.hok,I.len⟩
theorem Inv.unwish (I:Inv (X.wish E) pins σ H s):Inv X pins σ H s:=⟨I.ok.unwish,I.os,I.bare,I.base,I.loc,I.cell,I.free,I.freeC,I.pin,I.hok,I.len⟩
theorem SP.unwish {D:Ends}{f:Flow}{s':Shared}(h:SP (X.wish E) pins D f s'):SP X pins D f s':=by
 cases f with
 | next=>obtain⟨σ',H',I,q⟩:=h;exact⟨σ',H',I.unwish,q⟩
 | brk=>obtain⟨σ',H',I,q⟩:=h;exact⟨σ',H',I.unwish,q⟩
 | cont=>obtain⟨σ',H',I,q⟩:=h;exact⟨σ',H',I.unwish,q⟩
 | ret u=>obtain⟨v,σ',H',I,r,q⟩:=h;exact⟨v,σ',H',I.unwish,r,q⟩
theorem PSs.nox {st:List Stmt}{t:TS}(h:PSs X.nox st t):PSs X st t:=fun pins s σ H D I hw =>
 wpAny_mono (h pins s σ H D (I.wish _) hw) (fun _ _ q=>q.unwish) fun _ _ z=>False.elim z
end
section
variable {X:Cx}{st:Stmt}{rest:List Stmt}{t u:TS}{e:Expr}{te:TE}{pos:Pos}
noncomputable def tNext:TS:=fun D σ H=>D.nx σ H
noncomputable def tSeq (t u:TS):TS:=fun D σ H=>t {D with nx:=u D} σ H
theorem pss_nil:PSs X [] tNext:=fun _ _ σ H _ I h=>wpAny_execs_nil ⟨σ,H,I,h⟩
theorem pss_cons (h1:PS X st t)(h2:PSs X rest u):PSs X (st::rest) (tSeq t u):=by
 intro pins s σ H D I h
 refine wpAny_execs_cons (thn (h1 pins s σ H {D with nx:=u D} I h) fun f s1 q=>?_)
 cases f with
 | next =>
   obtain⟨σ',H',I',q⟩:=q
   exact h2 pins s1 σ' H' D I' q
 | ret v=>exact q
 | brk=>exact q
 | cont=>exact q
theorem pss_one (h1:PS X st t):PSs X [st] t:=by
 intro pins s σ H D I h
 refine wpAny_execs_cons (thn (h1 pins s σ H D I h) fun f s1 q=>?_)
 cases f with
 | next=>exact wpAny_execs_nil q
 | ret v=>exact q
 | brk=>exact q
 | cont=>exact q
theorem Inv.quiet {pins:List (Addr×Obj)}{σ:St}{H:Hp}{s:Shared}(I:Inv X pins σ H s):interactive X.env=false:=by simp [interactive,I.ok.kind]
noncomputable def tDrop (te:TE):TS:=fun D σ H=>te σ H fun _ H1=>D.nx σ H1
theorem ps_expr (he:PE X e te)(hs:swapsWith e none pos.line X.env=pure false:=by rfl):PS X (.Expr e pos) (tDrop te):=by
 intro pins s σ H D I h
 exact wpAny_Expr_any (thn (he pins s σ H _ I h) fun v s1 ⟨x,H1,I1,r1,q1⟩=>⟨σ,H1,I1,q1⟩) I.quiet hs
noncomputable def tRet (te:TE):TS:=fun D σ H=>te σ H D.rt
theorem ps_ret (he:PE X e te):PS X (.Return (some e) pos) (tRet te):=by
 intro pins s σ H D I h
 exact wpAny_Return_some (thn (he pins s σ H _ I h) fun v s1 ⟨x,H1,I1,r1,q1⟩=>⟨x,σ,H1,I1,r1,q1⟩)
noncomputable def tIfS (c:TT)(t u:TS):TS:=fun D σ H=>c σ H fun b H1=>if b=true then t D σ H1 else u D σ H1
theorem ps_if {c:Expr}{a b:List Stmt}{tc:TT}(hc:PT X c tc)(ha:PSs X a t)(hb:PSs X b u):PS X (.If c a b pos) (tIfS tc t u):=by
 intro pins s σ H D I h
 refine wpAny_If (thn (hc pins s σ H _ I h) fun d s1 ⟨H1,I1,q1⟩=>?_)
 cases d with
 | true=>exact ha pins s1 σ H1 D I1 q1
 | false=>exact hb pins s1 σ H1 D I1 q1
end
noncomputable abbrev TG:=V→St→Hp→(St→Hp→Prop)→Prop
noncomputable abbrev TGs:=List V→St→Hp→(St→Hp→Prop)→Prop
noncomputable def PG (X:Cx)(target:Expr)(t:TG):Prop :=
 ∀(pins:List (Addr×Obj)) (s:Shared)(σ:St)(H:Hp)(v:V)(u:Value)(Q:St→Hp→Prop),Inv X pins σ H s→RelV v u→t v σ H Q →
  wpAny (model X.prog X.w) X.A (assign target X.env u) (fun _ s'=>∃ σ' H',Inv X pins σ' H' s'∧Q σ' H') X.xe s
noncomputable def PGs (X:Cx)(ts:List Expr)(t:TGs):Prop :=
 ∀(pins:List (Addr×Obj)) (s:Shared)(σ:St)(H:Hp)(vs:List V)(us:List Value)(Q:St→Hp→Prop),Inv X pins σ H s→Vals vs us→t vs σ H Q →
  wpAny (model X.prog X.w) X.A (assignInOrder ((assignEach ts X.env).map (·.2)) us) (fun _ s'=>∃ σ' H',Inv X pins σ' H' s'∧Q σ' H') X.xe s
section
variable {X:Cx}{pos:Pos}
noncomputable def gName (i:Nat):TG:=fun v σ H Q=>Q (σ.set i (some v)) H
theorem pg_name {i:Nat}{x:Str}(hN:X.N.Nodup)(hi:X.N[i]?=some x)(hx:Loc X.env.scope x)(hf:X.fn x=true∨X.env.scope.names.lookup x=some .local:=by first|exact .inl rfl|exact .inr rfl|assumption):PG X (.Name x pos) (gName i):=by
 intro pins s σ H v u Q I r h
 exact wpAny_assign_Name (store_ok I hN hi hx r (fun s' I'=>⟨_,H,I',h⟩) hf)
noncomputable def gNil:TGs:=fun vs σ H Q=>vs=[]∧Q σ H
noncomputable def gCons (t:TG)(u:TGs):TGs:=fun vs σ H Q=>∃ v r,vs=v::r∧t v σ H fun σ' H'=>u r σ' H' Q
theorem pgs_nil:PGs X [] gNil:=by
 intro pins s σ H vs us Q I r h
 obtain⟨e,h⟩:=h
 subst e
 cases r
 exact assignInOrder_nil ⟨σ,H,I,h⟩
theorem pgs_cons {e:Expr}{es:List Expr}{t:TG}{u:TGs}(h1:PG X e t)(h2:PGs X es u)
  (hs:(assignEach (e::es) X.env).map (·.2)=assign e X.env::(assignEach es X.env).map (·.2):=by rfl):PGs X (e::es) (gCons t u):=by
 intro pins s σ H vs us Q I r h
 obtain⟨v,vr,e1,h⟩:=h
 subst e1
 cases r with
 | cons r rr =>
   rw[hs]
   refine assignInOrder_cons (thn (h1 pins s σ H _ _ _ I r h) fun _ s1 ⟨σ1,H1,I1,q1⟩=>?_)
   exact h2 pins s1 σ1 H1 _ _ Q I1 rr q1
noncomputable def gTup (K:PySem.W.Frag) (n:Nat)(t:TGs):TG:=fun v σ H Q=>∃ a xs,v=.ref a∧SqT K H a xs∧xs.length=n∧t xs σ H Q
theorem pg_tup {es:List Expr}{k:Nat}{t:TGs}{n:Nat}(hc:X.calm=true)(h:PGs X es t)
  (hn:(assignEach es X.env).length=n:=by rfl) (hst:(assignEach es X.env).findIdx? (·.1)=none:=by rfl):PG X (.Tuple es k pos) (gTup X.K n t):=by
 intro pins s σ H v u Q I r hw
 obtain⟨a,xs,e1,hq,hl,hw⟩:=hw
 subst e1
 cases r
 obtain⟨its,rv,ht,hz⟩:=I.tuple hq
 refine assign_Tuple_tuple (I.ok.hd hc) ht (by simp [hn,← hl,rv.length]) hst fun h' hx=>?_
 have I1:Inv X pins σ H {s with heap:=h'}:=I.kept (t':=s.toks) fun b o e=>hx b o (Nat.ne_of_lt (Heap.lt_size e)) e
 exact h pins _ σ H xs _ Q I1 (by simpa using rv) hw
noncomputable def tAsg (te:TE)(g:TG):TS:=fun D σ H=>te σ H fun x H1=>g x σ H1 D.nx
theorem ps_set {i:Nat}{x:Str}{e:Expr}{te:TE}{pos':Pos}(hN:X.N.Nodup)(hi:X.N[i]?=some x)(hx:Loc X.env.scope x)(he:PE X e te)(hs:swapsWith e (some (.Name x pos')) pos.line X.env=pure false:=by rfl) (hf:X.fn x=true∨X.env.scope.names.lookup x=some .local:=by first|exact .inl rfl|exact .inr rfl|assumption) :
  PS X (.Assign [.Name x pos'] e pos) (tAsg te (gName i)):=by
 intro pins s σ H D I h
 refine wpAny_Assign_Name (thn (he pins s σ H _ I h) fun v s1 ⟨y,H1,I1,r1,q1⟩=>?_) hs
 exact store_ok I1 hN hi hx r1 (fun s2 I2=>⟨_,H1,I2,q1⟩) hf
end
section
variable {X:Cx}{pos:Pos}
noncomputable def tWhile (c:TT)(tb:TS):TS:=fun D σ H=>∃ W:Nat→St→Hp→Prop,(∃ m,W m σ H)∧∀ m σ H,W m σ H →
 c σ H fun b H1=>if b=true then ∃ N:St→Hp→Prop,(∀ σ' H',N σ' H'→∃ m',m'<m∧W m' σ' H')∧tb {D with nx:=N,ct:=N,bk:=D.nx} σ H1 else D.nx σ H1
theorem ps_while {c:Expr}{body:List Stmt}{tc:TT}{tb:TS}(hp:PassesOwn (model X.prog X.w) X.A X.env X.xe) (hc:PT X c tc)(hb:PSs X body tb):PS X (.While c body [] pos) (tWhile tc tb):=by
 intro pins s σ H D I h
 obtain⟨W,⟨m0,w0⟩,turn⟩:=h
 refine wpAny_While (codeAny_whileLoop (fun n s'=>∃ σ' H',Inv X pins σ' H' s'∧W n σ' H') ?_ m0 ⟨σ,H,I,w0⟩)
 rintro n s1 ⟨σ1,H1,I1,w1⟩
 refine wpAny_passesOwn hp (thn (hc pins s1 σ1 H1 _ I1 (turn n σ1 H1 w1)) fun b s2 ⟨H2,I2,q2⟩=>?_)
 cases b with
 | true =>
   obtain⟨N,hN,q2⟩:=q2
   rw[if_pos rfl]
   refine wpAny_passesOwn hp (thn (hb pins s2 σ1 H2 _ I2 q2) fun f s3 q3=>?_)
   cases f with
   | next =>
     obtain⟨σ3,H3,I3,n3⟩:=q3
     obtain⟨m',hm,w3⟩:=hN σ3 H3 n3
     exact⟨m',hm,σ3,H3,I3,w3⟩
   | cont =>
     obtain⟨σ3,H3,I3,n3⟩:=q3
     obtain⟨m',hm,w3⟩:=hN σ3 H3 n3
     exact⟨m',hm,σ3,H3,I3,w3⟩
   | brk=>exact q3
   | ret v=>exact q3
 | false =>
   rw[if_neg Bool.false_ne_true]
   exact wpAny_execs_nil ⟨σ1,H2,I2,q2⟩
end
structure It where
 go:Nat→Hp→Prop
 yld:Nat→Hp→V→Hp→Prop
 stop:Nat→Hp→Prop
noncomputable def FpOk (X:Cx)(pins:List (Addr×Obj)) (H:Hp)(b:Addr):Prop :=
 H b=none∧b≠X.env.locals∧b∉X.fs∧(b∈X.ex∨X.s₀.heap.objs.size≤b)∧(∀ x c,X.env.cells.lookup x=some c→c≠b)∧∀ p∈X.pn++pins,p.1≠b
theorem Inv.fpOk {X:Cx}{pins:List (Addr×Obj)}{σ:St}{H H':Hp}{s:Shared}{b:Addr}(I:Inv X pins σ H s)(hb:s.heap.objs.size≤b)(hn:H' b=none):FpOk X pins H' b:=by
 refine⟨hn,Nat.ne_of_gt (Nat.lt_of_lt_of_le I.lt hb),I.nofs hb,.inr (Nat.le_trans I.sz hb),fun x c e z=>?_,fun p hp z=>?_⟩
 ·obtain⟨v,q⟩:=I.cell x c e
  exact absurd (Nat.lt_of_lt_of_le q.lt (by rw[z];exact hb)) (Nat.lt_irrefl _)
 ·exact absurd (Nat.lt_of_lt_of_le (Heap.lt_size (I.pin p hp).1) (by rw[z];exact hb)) (Nat.lt_irrefl _)
structure Turn (P:Program)(w:World)(K:PySem.W.Frag)(tg:Expr)(J:It)(fp:List Addr)(it:Addr)(tn:Nat→Heap→Prop):Prop where
 mem:it∈fp
 obj:∀ i h,tn i h→∀ b∈fp,∃ o,h.get? b=some o∧∀ v,o.data≠.cell v
 keep:∀ i h h',tn i h→(∀ b∈fp,∀ o,h.get? b=some o→h'.get? b=some o)→tn i h'
 item:∀(X:Cx),X.prog=P→X.w=w→X.K=K→X.calm=true→∀(i:Nat)(pins:List (Addr×Obj)) (s:Shared)(σ:St)(H:Hp)(E:Value→Shared→Prop),Inv X pins σ H s→(∀ b∈fp,FpOk X pins H b)→tn i s.heap→J.go i H →
  wpAny (model P w) X.A (pyNext (.ref it)) (fun r s1=>∃ u,r=some u ∧
   wpAny (model P w) X.A (letOwnedTupleGo tg (.ref it) u) (fun _ s2=>∃ x H',Inv X pins σ H' s2∧RelV x u∧J.yld i H x H'∧tn (i+1) s2.heap∧∀ b∈fp,H' b=none) E s1) E s
 done:∀(X:Cx),X.prog=P→X.w=w→X.K=K→X.calm=true→∀(i:Nat)(pins:List (Addr×Obj)) (s:Shared)(σ:St)(H:Hp)(E:Value→Shared→Prop),Inv X pins σ H s→(∀ b∈fp,FpOk X pins H b)→tn i s.heap→J.stop i H →
  wpAny (model P w) X.A (pyNext (.ref it)) (fun r s1=>r=none∧Inv X pins σ H s1) E s
 self:∀(A:Around) (i:Nat)(s:Shared)(Q:Value→Shared→Prop)(E:Value→Shared→Prop),tn i s.heap→Q (.ref it) s→wpAny (model P w) A (pyIter (.ref it)) Q E s
noncomputable abbrev TI:=St→Hp→(It→Hp→Prop)→Prop
noncomputable def PIE (X:Cx)(pins:List (Addr×Obj)) (σ:St)(tg:Expr)(R:It→Hp→Prop)(itv:Value)(s2:Shared):Prop :=
 ∃(it:Addr)(fp:List Addr)(tn:Nat→Heap→Prop)(J:It)(H':Hp),itv=.ref it∧Inv X pins σ H' s2∧Turn X.prog X.w X.K tg J fp it tn∧tn 0 s2.heap∧(∀ b∈fp,FpOk X pins H' b)∧R J H'
noncomputable def PI (X:Cx)(tg iter:Expr)(wi:TI):Prop :=
 ∀(pins:List (Addr×Obj)) (s:Shared)(σ:St)(H:Hp)(R:It→Hp→Prop),Inv X pins σ H s→wi σ H R →
  wpAny (model X.prog X.w) X.A (eval iter X.env) (fun v s1=>wpAny (model X.prog X.w) X.A (pyIter v) (PIE X pins σ tg R) X.xe s1) X.xe s
theorem go_of {M:Model}{A:Around}{E:Value→Shared→Prop}{s:Shared}{tg:Expr}{it:Addr}{u:Value}{o:Obj}{n:String}{vs:Array Value}{Q:Unit→Shared→Prop}(ho:s.heap.get? it=some o)(hc:o.cls=.type n)(hd:o.data=.fields vs)
  (hn:["enumerate","zip","dict_itemiterator","dict_reverseitemiterator","odict_iterator","itertools.zip_longest","itertools.pairwise"].contains n=false)(hQ:Q () s):wpAny M A (letOwnedTupleGo tg (.ref it) u) Q E s:=by
 unfold letOwnedTupleGo
 cases tg<;>first
  | exact wpAny_pure hQ
  | (cases u<;>first
    | exact wpAny_pure hQ
    | (refine wpAny_bind (wpAny_load ho ?_)
       rw[hc,hd]
       show wpAny M A (if (["enumerate","zip","dict_itemiterator","dict_reverseitemiterator","odict_iterator","itertools.zip_longest","itertools.pairwise"].contains n&&vs[0]?==some (rawInt _))=true then _ else _) Q E s
       rw[if_neg (by intro h;rw[hn,Bool.false_and] at h;cases h)]
       exact wpAny_pure hQ))
noncomputable def Itl (K:PySem.W.Frag)(a:Addr):It :=
 ⟨fun i H=>∃ xs x,SqL K H a xs∧xs[i]?=some x,fun i H x H'=>H'=H∧∀ xs,SqL K H a xs→xs[i]?=some x,fun i H=>∃ xs,SqL K H a xs∧xs.length≤i⟩
noncomputable def Itt (K:PySem.W.Frag)(a:Addr):It :=
 ⟨fun i H=>∃ xs x,SqT K H a xs∧xs[i]?=some x,fun i H x H'=>H'=H∧∀ xs,SqT K H a xs→xs[i]?=some x,fun i H=>∃ xs,SqT K H a xs∧xs.length≤i⟩
noncomputable def Itr (lo:Int) (n:Nat):It:=⟨fun i _=>i<n,fun i H x H'=>H'=H∧x=.int (lo+i),fun i _=>n≤i⟩
theorem turn_list {P:Program}{w:World}{K:PySem.W.Frag}{tg:Expr}(a it:Addr):Turn P w K tg (Itl K a) [it] it (fun i h=>h.IsListIter it a i) where
 mem:=by simp
 obj:=fun i h st b hb=>by
  have e:b=it:=by simpa using hb
  subst e
  obtain⟨o,e,c,d⟩:=st
  exact⟨o,e,fun v z=>by rw[d] at z;cases z⟩
 keep:=fun i h h' st k=>st.at fun o e=>k it (by simp) o e
 item:=by
  intro X hP hw hK hc i pins s σ H E I hf st hg
  subst hP hw hK
  obtain⟨xs,x,hq,hx⟩:=hg
  obtain⟨its,rv,p,hz⟩:=I.list hq
  obtain⟨u,hu,ru⟩:=rv.get hx
  obtain⟨f0,f1,f2,f3,f4,f5⟩:=hf it (by simp)
  refine wpAny_pyNext_list_item st p.isList (x:=u) (by simpa using hu) fun h' st' sb=>?_
  have I1:Inv X pins σ H {s with heap:=h'}:=I.turned (t':=s.toks) (fun b o hb e=>(sb.2 b hb).trans e) f0 f1 f3 f4 f5
  obtain⟨o,e,c,d⟩:=id st'
  exact⟨u,rfl,go_of (s:={s with heap:=h'}) e c d (by decide) ⟨x,H,I1,ru,⟨rfl,fun ys hy=>by rw[I.list_inj hy hq];exact hx⟩,st',fun b hb=>(hf b hb).1⟩⟩
 done:=by
  intro X hP hw hK hc i pins s σ H E I hf st hg
  subst hP hw hK
  obtain⟨xs,hq,hx⟩:=hg
  obtain⟨its,rv,p,hz⟩:=I.list hq
  obtain⟨f0,f1,f2,f3,f4,f5⟩:=hf it (by simp)
  have hl:=rv.length
  exact wpAny_pyNext_list_end (I.ok.hd hc) st p.isList (by simp;omega) fun h' eb=>⟨rfl,I.turned (t':=s.toks) (fun b o hb e=>eb b o hb e) f0 f1 f3 f4 f5⟩
 self:=fun _ _ _ _ _ st h=>wpAny_pyIter_listiter st h
theorem turn_tuple {P:Program}{w:World}{K:PySem.W.Frag}{tg:Expr}(a it:Addr):Turn P w K tg (Itt K a) [it] it (fun i h=>h.IsTupleIter it a i) where
 mem:=by simp
 obj:=fun i h st b hb=>by
  have e:b=it:=by simpa using hb
  subst e
  obtain⟨o,e,c,d⟩:=st
  exact⟨o,e,fun v z=>by rw[d] at z;cases z⟩
 keep:=fun i h h' st k=>st.at fun o e=>k it (by simp) o e
 item:=by
  intro X hP hw hK hc i pins s σ H E I hf st hg
  subst hP hw hK
  obtain⟨xs,x,hq,hx⟩:=hg
  obtain⟨its,rv,p,hz⟩:=I.tuple hq
  obtain⟨u,hu,ru⟩:=rv.get hx
  obtain⟨f0,f1,f2,f3,f4,f5⟩:=hf it (by simp)
  refine wpAny_pyNext_tuple_item st (show s.heap.IsTuple a its.toArray from p) (x:=u) (by simpa using hu) fun h' st' sb=>?_
  have I1:Inv X pins σ H {s with heap:=h'}:=I.turned (t':=s.toks) (fun b o hb e=>(sb.2 b hb).trans e) f0 f1 f3 f4 f5
  obtain⟨o,e,c,d⟩:=id st'
  exact⟨u,rfl,go_of (s:={s with heap:=h'}) e c d (by decide) ⟨x,H,I1,ru,⟨rfl,fun ys hy=>by rw[I.tuple_inj hy hq];exact hx⟩,st',fun b hb=>(hf b hb).1⟩⟩
 done:=by
  intro X hP hw hK hc i pins s σ H E I hf st hg
  subst hP hw hK
  obtain⟨xs,hq,hx⟩:=hg
  obtain⟨its,rv,p,hz⟩:=I.tuple hq
  obtain⟨f0,f1,f2,f3,f4,f5⟩:=hf it (by simp)
  have hl:=rv.length
  exact wpAny_pyNext_tuple_end (I.ok.hd hc) st (show s.heap.IsTuple a its.toArray from p) (by simp;omega) fun h' eb=>⟨rfl,I.turned (t':=s.toks) (fun b o hb e=>eb b o hb e) f0 f1 f3 f4 f5⟩
 self:=fun _ _ _ _ _ st h=>wpAny_pyIter_tupleiter st h
theorem turn_range {P:Program}{w:World}{K:PySem.W.Frag}{tg:Expr}(it:Addr) (lo:Int) (n:Nat):Turn P w K tg (Itr lo n) [it] it (fun i h=>IsRangeIter h it (lo+(i:Nat) * 1) ((n:Int) - (i:Nat)) 1) where
 mem:=by simp
 obj:=fun i h st b hb=>by
  have e:b=it:=by simpa using hb
  subst e
  exact⟨_,st,fun v z=>by
   have z':Data.fields _=Data.cell v:=z
   cases z'⟩
 keep:=fun i h h' st k=>k it (by simp) _ st
 item:=by
  intro X hP hw hK hc i pins s σ H E I hf st hg
  subst hP hw hK
  obtain⟨f0,f1,f2,f3,f4,f5⟩:=hf it (by simp)
  have W:=Walks.range (prog:=X.prog) (w:=X.w) (I.ok.hd hc) it lo 1 n
  refine W.item i s _ _ hg st fun v h' tk hv st' kk=>?_
  obtain⟨t,rfl⟩:=hv
  have I1:Inv X pins σ H {s with heap:=h',toks:=tk}:=I.turned (fun b o hb e=>kk b o (by simpa using hb) e) f0 f1 f3 f4 f5
  refine⟨_,rfl,go_of (s:={s with heap:=h',toks:=tk}) (n:="range_iterator") st' rfl rfl (by decide) ⟨.int (lo+i),H,I1,⟨t,?_⟩,⟨rfl,rfl⟩,st',fun b hb=>(hf b hb).1⟩⟩
  rw[Int.mul_one]
 done:=by
  intro X hP hw hK hc i pins s σ H E I hf st hg
  subst hP hw hK
  obtain⟨f0,f1,f2,f3,f4,f5⟩:=hf it (by simp)
  exact wpAny_pyNext_range_end (I.ok.hd hc) st (by have:n≤i:=hg;omega) fun h' eb=>⟨rfl,I.turned (t':=s.toks) (fun b o hb e=>eb b o hb e) f0 f1 f3 f4 f5⟩
 self:=fun _ _ _ _ _ st h=>wpAny_pyIter_rangeiter st h
end L2
namespace L2
open PySem PySem.Spec PyProof.Rows
section
variable {X:Cx}{tg:Expr}
theorem range_it {pins:List (Addr×Obj)}{σ:St}{H:Hp}{s:Shared}{R:It→Hp→Prop}{E:Value→Shared→Prop}{lo hi:Int}{t u v:Tok}{tk:Nat}(I:Inv X pins σ H s)(h1 : -(2 ^ 62)≤lo) (h2:lo<2 ^ 62)(h3 : -(2 ^ 62)≤hi) (h4:hi<2 ^ 62)
  (q:R (Itr lo (hi - lo).toNat) H):wpAny (model X.prog X.w) X.A (pyIter (.ref s.heap.objs.size)) (PIE X pins σ tg R) E {s with heap:=s.heap.push {cls:=.type "range",data:=.fields #[.int lo t,.int hi u,.int 1 v]},toks:=tk}:=by
 refine wpAny_pyIter_range (IsRange.new ..) (small_one h1 h2 h3 h4) ?_
 have I1:Inv X pins σ H {s with heap:=s.heap.push {cls:=.type "range",data:=.fields #[.int lo t,.int hi u,.int 1 v]},toks:=tk}:=I.kept fun b o e=>Heap.get?_push_of_some _ e
 refine⟨(s.heap.push {cls:=.type "range",data:=.fields #[.int lo t,.int hi u,.int 1 v]}).objs.size,[(s.heap.push {cls:=.type "range",data:=.fields #[.int lo t,.int hi u,.int 1 v]}).objs.size],_,_,H,rfl,
  I1.kept (t':=tk) fun b o e=>Heap.get?_push_of_some _ e,turn_range _ lo (hi - lo).toNat,?_,fun b hb=>?_,q⟩
 ·have e1:lo+((0:Nat):Int) * 1=lo:=by simp
  have e2:(((hi - lo).toNat:Nat):Int) - ((0:Nat):Int)=Builtin.Range.rangeSize lo hi 1:=by rw[rangeSize_one];split<;>omega
  show IsRangeIter _ _ (lo+((0:Nat):Int) * 1) ((((hi - lo).toNat:Nat):Int) - ((0:Nat):Int)) 1
  rw[e1,e2]
  exact Heap.get?_push_size _ rfl
 ·have e:b=(s.heap.push {cls:=.type "range",data:=.fields #[.int lo t,.int hi u,.int 1 v]}).objs.size:=by simpa using hb
  subst e
  exact I1.fpOk (Nat.le_refl _) (I1.hok.fresh (Nat.le_refl _))
noncomputable def iRng1 (ta:TA):TI:=fun σ H R=>ta σ H fun vs H1=>∃ j:Int,vs=[.int j] ∧ -(2 ^ 62)≤j∧j<2 ^ 62∧R (Itr 0 j.toNat) H1
noncomputable def iRng2 (ta:TA):TI:=fun σ H R=>ta σ H fun vs H1=>∃ i j:Int,vs=[.int i,.int j]∧(-(2 ^ 62)≤i∧i<2 ^ 62 ∧ -(2 ^ 62)≤j∧j<2 ^ 62)∧R (Itr i (j - i).toNat) H1
theorem pi_range1 {a:Expr}{ta:TA}{p pos:Pos}(hg:Gl X "range")(hm:X.mg "range"=none)(ha:PA X [a] ta)(hs:starEach [a] X.env=[(false,eval a X.env)]:=by rfl):PI X tg (.Call (.Name "range" p) [a] [] pos) (iRng1 ta):=by
 intro pins s σ H R I h
 refine Call_ (ld_blt I hg hm boot_range (PyProof.Rows.callWith_type1 (thn (ha pos pins s σ H _ I h) fun us s1 ⟨vs,H1,I1,r1,q1⟩=>?_) hs rfl))
 obtain⟨j,e,q1,q2,q⟩:=q1
 subst e
 cases r1 with
 | cons r rr =>
   cases rr
   obtain⟨t,rfl⟩:=r
   exact call_range_1 (range_it I1 (by omega) (by omega) q1 q2 (by simpa using q))
theorem pi_range2 {a b:Expr}{ta:TA}{p pos:Pos}(hg:Gl X "range")(hm:X.mg "range"=none)(ha:PA X [a,b] ta)(hs:starEach [a,b] X.env=[(false,eval a X.env),(false,eval b X.env)]:=by rfl) (hs2:starEach [b] X.env=[(false,eval b X.env)]:=by rfl) :
  PI X tg (.Call (.Name "range" p) [a,b] [] pos) (iRng2 ta):=by
 intro pins s σ H R I h
 refine Call_ (ld_blt I hg hm boot_range (PyProof.Rows.callWith_type1 (thn (ha pos pins s σ H _ I h) fun us s1 ⟨vs,H1,I1,r1,q1⟩=>?_) (by rw[hs,hs2]) (by rw[hs2];rfl)))
 obtain⟨i,j,e,⟨q1,q2,q3,q4⟩,q⟩:=q1
 subst e
 cases r1 with
 | cons r rr =>
   cases rr with
   | cons r' rr =>
     cases rr
     obtain⟨t,rfl⟩:=r
     obtain⟨t',rfl⟩:=r'
     exact call_range_2 (range_it I1 q1 q2 q3 q4 q)
noncomputable def tFor (wi:TI)(g:TG)(tb:TS):TS:=fun D σ H=>wi σ H fun J H1=>∃ W:Nat→Nat→St→Hp→Prop,(∃ m,W 0 m σ H1)∧∀ i m σ H,W i m σ H →
 (J.stop i H∧D.nx σ H)∨(J.go i H∧∃ N:St→Hp→Prop,(∀ σ' H',N σ' H'→∃ m',m'<m∧W (i+1) m' σ' H')∧∀ x H',J.yld i H x H'→g x σ H' fun σ2 H2=>tb {D with nx:=N,ct:=N,bk:=D.nx} σ2 H2)
noncomputable def pinsAt (fp:List Addr)(h:Heap):List (Addr×Obj):=fp.filterMap fun b=>(h.get? b).map fun o=>(b,o)
theorem mem_pinsAt {fp:List Addr}{h:Heap}{b:Addr}{o:Obj}(hb:b∈fp)(e:h.get? b=some o):(b,o)∈pinsAt fp h:=List.mem_filterMap.mpr ⟨b,hb,by rw[e];rfl⟩
theorem of_pinsAt {fp:List Addr}{h:Heap}{p:Addr×Obj}(hp:p∈pinsAt fp h):p.1∈fp∧h.get? p.1=some p.2:=by
 obtain⟨b,hb,e⟩:=List.mem_filterMap.mp hp
 cases q:h.get? b with
 | none=>rw[q] at e;cases e
 | some o =>
   rw[q] at e
   have e':(b,o)=p:=Option.some.inj e
   subst e'
   exact⟨hb,q⟩
theorem Inv.pinned {pins:List (Addr×Obj)}{σ:St}{H:Hp}{s:Shared}{fp:List Addr}(I:Inv X pins σ H s)(hf:∀ b∈fp,FpOk X pins H b)(ho:∀ b∈fp,∃ o,s.heap.get? b=some o∧∀ v,o.data≠.cell v):Inv X (pins++pinsAt fp s.heap) σ H s :=
 I.pins_of fun p hp=>(List.mem_append.mp hp).elim (fun z=>I.pin p (List.mem_append_right _ z)) fun z=>by
  obtain⟨hb,e⟩:=of_pinsAt z
  obtain⟨f0,f1,f2,_⟩:=hf p.1 hb
  obtain⟨o,e',d⟩:=ho p.1 hb
  rw[e] at e';cases e'
  exact⟨e,f0,f1,f2,d⟩
theorem Inv.unpinned {pins pl:List (Addr×Obj)}{σ:St}{H:Hp}{s:Shared}(I:Inv X (pins++pl) σ H s):Inv X pins σ H s:=I.pins_of fun p hp=>I.pin p (List.mem_append_right _ (List.mem_append_left _ hp))
theorem ps_for {iter:Expr}{body:List Stmt}{wi:TI}{g:TG}{tb:TS}{pos:Pos}(hp:PassesOwn (model X.prog X.w) X.A X.env X.xe) (hc:X.calm=true)(hi:PI X tg iter wi)(hg:PG X tg g)(hb:PSs X body tb)
  (hs:∀ x,foldedSetIterable iter X.env x=pure x:=by intro _;rfl):PS X (.For tg iter body [] pos) (tFor wi g tb):=by
 intro pins s σ H D I h
 refine wpAny_For (thn (hi pins s σ H _ I h) fun v s1 h1=>thn h1 fun itv s2 h2=>?_) hs
 obtain⟨it,fp,tn,J,H2,e,I2,T,st2,f2,W,⟨m0,w0⟩,turn⟩:=h2
 subst e
 have stat:∀{H':Hp},(∀ b∈fp,H' b=none)→∀ b∈fp,FpOk X pins H' b:=fun hn b hb=>⟨hn b hb,(f2 b hb).2⟩
 refine codeAny_forLoop_any (fun n s'=>∃ i σ' H',Inv X pins σ' H' s'∧tn i s'.heap∧(∀ b∈fp,H' b=none)∧W i n σ' H') ?_ m0 ⟨0,σ,H2,I2,st2,fun b hb=>(f2 b hb).1,w0⟩
 rintro n s3 ⟨i,σ3,H3,I3,st3,fr3,w3⟩
 rcases turn i n σ3 H3 w3 with⟨stop,qn⟩|⟨go,N,hN,step⟩
 ·refine wpAny_passesOwn hp (thn (T.done X rfl rfl rfl hc i pins s3 σ3 H3 X.xe I3 (stat fr3) st3 stop) fun r s4 ⟨hr,I4⟩=>?_)
  subst hr
  exact wpAny_execs_nil ⟨σ3,H3,I4,qn⟩
 ·refine wpAny_passesOwn hp (thn (T.item X rfl rfl rfl hc i pins s3 σ3 H3 X.xe I3 (stat fr3) st3 go) fun r s4 ⟨u,hr,h4⟩=>?_)
  subst hr
  refine wpAny_passesOwn hp (thn h4 fun _ s5 ⟨x,H5,I5,r5,y5,st5,fr5⟩=>?_)
  have I5':=I5.pinned (stat fr5) (T.obj _ _ st5)
  refine wpAny_passesOwn hp (thn (hg _ s5 σ3 H5 x u _ I5' r5 (step x H5 y5)) fun _ s6 ⟨σ6,H6,I6,q6⟩=>?_)
  refine wpAny_passesOwn hp (thn (hb _ s6 σ6 H6 _ I6 q6) fun f s7 q7=>?_)
  have again:∀{σ7:St}{H7:Hp},Inv X (pins++pinsAt fp s5.heap) σ7 H7 s7→N σ7 H7→∃ m,m<n∧∃ i σ' H',Inv X pins σ' H' s7∧tn i s7.heap∧(∀ b∈fp,H' b=none)∧W i m σ' H':=fun{σ7 H7} I7 n7=>by
   obtain⟨m',hm,w7⟩:=hN σ7 H7 n7
   refine⟨m',hm,i+1,σ7,H7,I7.unpinned,T.keep _ _ _ st5 fun b hb o e=>(I7.pin (b,o) (List.mem_append_right _ (List.mem_append_right _ (mem_pinsAt hb e)))).1,fun b hb=>?_,w7⟩
   obtain⟨o,e,d⟩:=T.obj _ _ st5 b hb
   exact(I7.pin (b,o) (List.mem_append_right _ (List.mem_append_right _ (mem_pinsAt hb e)))).2.1
  cases f with
  | next=>obtain⟨σ7,H7,I7,n7⟩:=q7;exact again I7 n7
  | cont=>obtain⟨σ7,H7,I7,n7⟩:=q7;exact again I7 n7
  | brk=>obtain⟨σ7,H7,I7,q7⟩:=q7;exact⟨σ7,H7,I7.unpinned,q7⟩
  | ret v=>obtain⟨x7,σ7,H7,I7,r7,q7⟩:=q7;exact⟨x7,σ7,H7,I7.unpinned,r7,q7⟩
end
end L2
namespace L2
open PySem PySem.Spec PyProof.Rows
noncomputable abbrev R2:=V→V→Hp→VK→Prop
noncomputable def OpR (X:Cx)(f:Value→Value→Sem Value)(r:R2):Prop :=
 ∀(pins:List (Addr×Obj)) (s:Shared)(σ:St)(H:Hp)(x y:V)(v u:Value)(Q:VK),Inv X pins σ H s→RelV x v→RelV y u→r x y H Q →
  wpAny (model X.prog X.w) X.A (f v u) (EP X pins σ Q) X.xe s
noncomputable def UnR (X:Cx)(f:Value→Sem Value)(r:V→Hp→VK→Prop):Prop :=
 ∀(pins:List (Addr×Obj)) (s:Shared)(σ:St)(H:Hp)(x:V)(v:Value)(Q:VK),Inv X pins σ H s→RelV x v→r x H Q →
  wpAny (model X.prog X.w) X.A (f v) (EP X pins σ Q) X.xe s
noncomputable def CallR (X:Cx)(f:Value)(r:List V→Hp→VK→Prop):Prop :=
 ∀(pins:List (Addr×Obj)) (s:Shared)(σ:St)(H:Hp)(xs:List V)(us:List Value)(Q:VK),Inv X pins σ H s→Vals xs us→r xs H Q →
  wpAny (model X.prog X.w) X.A (call f us) (EP X pins σ Q) X.xe s
noncomputable def TruR (X:Cx)(r:V→Hp→(Bool→Hp→Prop)→Prop):Prop :=
 ∀(pins:List (Addr×Obj)) (s:Shared)(σ:St)(H:Hp)(x:V)(v:Value)(Q:Bool→Hp→Prop),Inv X pins σ H s→RelV x v→r x H Q →
  wpAny (model X.prog X.w) X.A (truthy v) (TP X pins σ Q) X.xe s
noncomputable def tOp (r:R2)(ta tb:TE):TE:=fun σ H Q=>ta σ H fun x H1=>tb σ H1 fun y H2=>r x y H2 Q
noncomputable def tUn (r:V→Hp→VK→Prop)(ta:TE):TE:=fun σ H Q=>ta σ H fun x H1=>r x H1 Q
noncomputable def rI (C:Int→Int→Prop)(g:Int→Int→V):R2:=fun x y H Q=>∃ i j,x=.int i∧y=.int j∧C i j∧Q (g i j) H
noncomputable def rI0 (g:Int→Int→V):R2:=fun x y H Q=>∃ i j,x=.int i∧y=.int j∧Q (g i j) H
noncomputable def rU (g:Int→V):V→Hp→VK→Prop:=fun x H Q=>∃ i,x=.int i∧Q (g i) H
section
variable {X:Cx}{a b c:Expr}{ta tb tc:TE}{pos:Pos}
theorem binT (ha:PE X a ta)(hb:PE X b tb){pins:List (Addr×Obj)}{s:Shared}{σ:St}{H:Hp}{R:V→V→Hp→Prop}(I:Inv X pins σ H s)
  (h:ta σ H fun x H1=>tb σ H1 fun y H2=>R x y H2){Q:Value→Shared→Prop}{f:Value→Value→Sem Value}
  (hf:∀ v u s2 x y H2,Inv X pins σ H2 s2→RelV x v→RelV y u→R x y H2→wpAny (model X.prog X.w) X.A (f v u) Q X.xe s2) :
  wpAny (model X.prog X.w) X.A (eval a X.env) (fun v s₁=>wpAny (model X.prog X.w) X.A (eval b X.env) (fun u s₂=>wpAny (model X.prog X.w) X.A (f v u) Q X.xe s₂) X.xe s₁) X.xe s:=by
 refine thn (ha pins s σ H _ I h) fun v s1 ⟨x,H1,I1,r1,q1⟩=>?_
 refine thn (hb pins s1 σ H1 _ I1 q1) fun u s2 ⟨y,H2,I2,r2,q2⟩=>?_
 exact hf v u s2 x y H2 I2 r1 r2 q2
theorem pe_op {op:Operator}{r:R2}(ho:OpR X (binaryOp op) r) (ha:PE X a ta)(hb:PE X b tb):PE X (.BinOp a op b pos) (tOp r ta tb):=by
 intro pins s σ H Q I h
 exact wpAny_BinOp (binT ha hb I h fun v u s2 x y H2 I2 rx ry q=>ho pins s2 σ H2 x y v u Q I2 rx ry q)
theorem pe_un {op:UnaryOp}{r:V→Hp→VK→Prop}(ho:UnR X (unaryOp op) r) (ha:PE X a ta):PE X (.UnaryOp op a pos) (tUn r ta):=by
 intro pins s σ H Q I h
 exact UnaryOp_ (thn (ha pins s σ H _ I h) fun v s1 ⟨x,H1,I1,r1,q1⟩=>ho pins s1 σ H1 x v Q I1 r1 q1)
theorem opI {f:Value→Value→Sem Value}{C:Int→Int→Prop}{g:Int→Int→Int}
  (rule:∀(i j:Int)(t u:Tok)(s:Shared)(Q:Value→Shared→Prop)(E:Value→Shared→Prop),C i j→Q (.int (g i j) s.toks) {s with toks:=s.toks+1}→wpAny (model X.prog X.w) X.A (f (.int i t) (.int j u)) Q E s) :
  OpR X f (rI C fun i j=>.int (g i j)):=by
 intro pins s σ H x y v u Q I rx ry h
 obtain⟨i,j,rfl,rfl,hc,q⟩:=h
 obtain⟨t,rfl⟩:=rx
 obtain⟨t',rfl⟩:=ry
 exact rule i j t t' s _ _ hc ⟨.int (g i j),H,I.tok _,⟨_,rfl⟩,q⟩
theorem opI0 {f:Value→Value→Sem Value}{g:Int→Int→Int}
  (rule:∀(i j:Int)(t u:Tok)(s:Shared)(Q:Value→Shared→Prop)(E:Value→Shared→Prop),Q (.int (g i j) s.toks) {s with toks:=s.toks+1}→wpAny (model X.prog X.w) X.A (f (.int i t) (.int j u)) Q E s) :
  OpR X f (rI0 fun i j=>.int (g i j)):=by
 intro pins s σ H x y v u Q I rx ry h
 obtain⟨i,j,rfl,rfl,q⟩:=h
 obtain⟨t,rfl⟩:=rx
 obtain⟨t',rfl⟩:=ry
 exact rule i j t t' s _ _ ⟨.int (g i j),H,I.tok _,⟨_,rfl⟩,q⟩
theorem opB0 {f:Value→Value→Sem Value}{g:Int→Int→Bool}
  (rule:∀(i j:Int)(t u:Tok)(s:Shared)(Q:Value→Shared→Prop)(E:Value→Shared→Prop),Q (.bool (g i j)) s→wpAny (model X.prog X.w) X.A (f (.int i t) (.int j u)) Q E s) :
  OpR X f (rI0 fun i j=>.bl (g i j)):=by
 intro pins s σ H x y v u Q I rx ry h
 obtain⟨i,j,rfl,rfl,q⟩:=h
 obtain⟨t,rfl⟩:=rx
 obtain⟨t',rfl⟩:=ry
 exact rule i j t t' s _ _ ⟨.bl (g i j),H,I,rfl,q⟩
noncomputable def CDiv (i j:Int):Prop:=0<j∧j<1073741824
noncomputable def CMul (i j:Int):Prop:=(-(2 ^ 64)<i∧i<2 ^ 64)∨(-(2 ^ 64)<j∧j<2 ^ 64)
theorem CMul.ok {i j:Int}(h:CMul i j):IntMulOk i j:=by
 rcases h with⟨h1,h2⟩|⟨h1,h2⟩
 ·exact .of_left (intBits_le_64 h1 h2)
 ·exact .of_right (intBits_le_64 h1 h2)
theorem op_add:OpR X (binaryOp .Add) (rI0 fun i j=>.int (i+j)):=opI0 fun _ _ _ _ _ _ _ q=>add_int q
theorem op_mul:OpR X (binaryOp .Mult) (rI CMul fun i j=>.int (i * j)):=opI fun _ _ _ _ _ _ _ hc q=>mul_int q hc.ok
theorem op_fdiv:OpR X (binaryOp .FloorDiv) (rI CDiv fun i j=>.int (i / j)):=opI fun i j _ _ _ _ _ hc q=>by
 have h1:(0:Int)<j:=hc.1
 have h2:j<1073741824:=hc.2
 exact floordiv_int (by omega) (by rw[Int.fdiv_eq_ediv_of_nonneg i (by omega)];exact q) (.inl (PyProof.noPylong_small (by omega)))
theorem op_mod:OpR X (binaryOp .Mod) (rI (fun _ j=>0<j) fun i j=>.int (i % j)):=opI fun i j _ _ _ _ _ hc q=>by
 have h1:(0:Int)<j:=hc
 exact mod_int' (by omega) (by rw[Int.fmod_eq_emod_of_nonneg i (by omega)];exact q)
theorem unI {f:Value→Sem Value}{g:Int→Int}
  (rule:∀(i:Int)(t:Tok)(s:Shared)(Q:Value→Shared→Prop)(E:Value→Shared→Prop),Q (.int (g i) s.toks) {s with toks:=s.toks+1}→wpAny (model X.prog X.w) X.A (f (.int i t)) Q E s) :
  UnR X f (rU fun i=>.int (g i)):=by
 intro pins s σ H x v Q I rx h
 obtain⟨i,rfl,q⟩:=h
 obtain⟨t,rfl⟩:=rx
 exact rule i t s _ _ ⟨.int (g i),H,I.tok _,⟨_,rfl⟩,q⟩
theorem un_neg:UnR X (unaryOp .USub) (rU fun i=>.int (-i)):=unI fun _ _ _ _ _ q=>neg_int q
end
section
variable {X:Cx}{a b c:Expr}{ta tb tc:TE}{pos:Pos}
theorem op_lt:OpR X (compareOp .Lt) (rI0 fun i j=>.bl (decide (i<j))):=opB0 fun _ _ _ _ _ _ _ q=>lt_int q
theorem op_le:OpR X (compareOp .LtE) (rI0 fun i j=>.bl (decide (i≤j))):=opB0 fun _ _ _ _ _ _ _ q=>le_int q
theorem op_gt:OpR X (compareOp .Gt) (rI0 fun i j=>.bl (decide (j<i))):=opB0 fun _ _ _ _ _ _ _ q=>gt_int q
theorem nomark (b:Expr){op:CmpOp}(h:op≠.In:=by decide)(h2:op≠.NotIn:=by decide):behindInMarks op b=false:=by
 have e1:(op==CmpOp.In)=false:=by cases op<;>first|rfl|exact absurd rfl h
 have e2:(op==CmpOp.NotIn)=false:=by cases op<;>first|rfl|exact absurd rfl h2
 cases b<;>simp [behindInMarks,e1,e2]
theorem pe_cmpR {op:CmpOp}{r:R2}(ho:OpR X (compareOp op) r) (ha:PE X a ta)(hb:PE X b tb)(hm:behindInMarks op b=false):PE X (.Compare a [op] [b] pos) (tOp r ta tb):=by
 intro pins s σ H Q I h
 exact wpAny_Compare1 (binT ha hb I h fun v u s2 x y H2 I2 rx ry q=>ho pins s2 σ H2 x y v u Q I2 rx ry q) hm
noncomputable def tTest (t:TE):TT:=fun σ H Q=>t σ H fun x H'=>∃ k,x=.bl k∧Q k H'
theorem pt_cmpR {op:CmpOp}{r:R2}(ho:OpR X (compareOp op) r) (ha:PE X a ta)(hb:PE X b tb)(hm:behindInMarks op b=false):PT X (.Compare a [op] [b] pos) (tTest (tOp r ta tb)):=by
 intro pins s σ H Q I h
 refine wpAny_isTrue_Compare1 (thn (ha pins s σ H _ I h) fun v s1 ⟨x,H1,I1,r1,q1⟩=>thn (hb pins s1 σ H1 _ I1 q1) fun u s2 ⟨y,H2,I2,r2,q2⟩ =>
  thn (ho pins s2 σ H2 x y v u _ I2 r1 r2 q2) fun c s3 ⟨z,H3,I3,r3,k,e,q3⟩=>?_) hm
 subst e
 cases r3
 exact wpAny_truthy_bool ⟨H3,I3,q3⟩
noncomputable def tChain (r r':R2)(ta tb tc:TE):TE:=fun σ H Q=>ta σ H fun x H1=>tb σ H1 fun y H2=>r x y H2 fun z H3=>∃ k,z=.bl k ∧
 (if k=true then tc σ H3 fun w' H4=>r' y w' H4 Q else Q (.bl false) H3)
theorem pt_chain {op op':CmpOp}{r r':R2}(ho:OpR X (compareOp op) r) (ho':OpR X (compareOp op') r') (ha:PE X a ta)(hb:PE X b tb)(hc:PE X c tc)
  (hm:lastMarks [op,op'] [b,c]=false:=by with_unfolding_all rfl):PT X (.Compare a [op,op'] [b,c] pos) (tTest (tChain r r' ta tb tc)):=by
 intro pins s σ H Q I h
 refine isTrue_chain (thn (ha pins s σ H _ I h) fun v s1 ⟨x,H1,I1,r1,q1⟩=>test_link (thn (hb pins s1 σ H1 _ I1 q1) fun u s2 ⟨y,H2,I2,r2,q2⟩ =>
  thn (ho pins s2 σ H2 x y v u _ I2 r1 r2 q2) fun d s3 ⟨z,H3,I3,r3,k,e,q3⟩=>?_)) hm
 subst e
 cases r3
 refine wpAny_truthy_bool ?_
 cases k with
 | false =>
   obtain⟨k',e',q'⟩:=q3
   cases e'
   exact ite_ff ⟨H3,I3,q'⟩
 | true =>
   refine ite_tt (test_last (thn (hc pins s3 σ H3 _ I3 q3) fun w' s4 ⟨z',H4,I4,r4,q4⟩=>thn (ho' pins s4 σ H4 y z' u w' _ I4 r2 r4 q4) fun d' s5 ⟨z2,H5,I5,r5,k2,e2,q5⟩=>?_))
   subst e2
   cases r5
   exact wpAny_truthy_bool ⟨H5,I5,q5⟩
noncomputable def TruV (K:PySem.W.Frag)(x:V)(H:Hp)(k:Bool):Prop :=
 match x with
 | .non=>k=false
 | .bl b=>k=b
 | .int i=>k=(i != 0)
 | .str y=>y.length≤sizeLine∧k=((y.length:Int) != 0)
 | .byt y=>y.size≤sizeLine∧k=((y.size:Int) != 0)
 | .ref p=>(∃ xs,SqL K H p xs∧k=!xs.isEmpty)∨(∃ xs,SqT K H p xs∧k=!xs.isEmpty)∨∃ kvs,H p=some (.dK kvs)∧k=!kvs.isEmpty
 | _=>False
theorem isEmpty_kv {κ:Type}{kvs:List (κ×V)}{vs:List (κ×Value)}(r:KV kvs vs):(!vs.isEmpty)=!kvs.isEmpty:=by
 cases r<;>rfl
theorem isEmpty_of {xs:List V}{its:List Value}(r:Vals xs its):(!its.toArray.isEmpty)=!xs.isEmpty:=by
 cases r<;>simp
theorem line63:(sizeLine:Nat)<2 ^ 63:=by rw[sizeLine_eq];decide
theorem tru_ok:TruR X (fun x H Q=>∃ k,TruV X.K x H k∧Q k H):=by
 intro pins s σ H x v Q I rx h
 obtain⟨k,e,q⟩:=h
 have hl:=line63
 have hs:sizeLine=16777216:=sizeLine_eq
 cases x with
 | non =>
   cases rx
   have e':k=false:=e
   subst e'
   exact truthy_none ⟨H,I,q⟩
 | bl b =>
   cases rx
   have e':k=b:=e
   subst e'
   exact wpAny_truthy_bool ⟨H,I,q⟩
 | int i =>
   obtain⟨t,rfl⟩:=rx
   have e':k=(i != 0):=e
   subst e'
   exact PySem.P.truthy_int ⟨H,I,q⟩
 | str y =>
   obtain⟨t,rfl⟩:=rx
   obtain⟨hy,e'⟩:y.length≤sizeLine∧k=((y.length:Int) != 0):=e
   subst e'
   exact PySem.P.truthy_str (by omega) ⟨H,I.tok _,q⟩
 | byt y =>
   obtain⟨t,rfl⟩:=rx
   obtain⟨hy,e'⟩:y.size≤sizeLine∧k=((y.size:Int) != 0):=e
   subst e'
   exact PySem.W.truthy_bytes (by omega) ⟨H,I.tok _,q⟩
 | ref p =>
   cases rx
   have e':(∃ xs,SqL X.K H p xs∧k=!xs.isEmpty)∨(∃ xs,SqT X.K H p xs∧k=!xs.isEmpty)∨∃ kvs,H p=some (.dK kvs)∧k=!kvs.isEmpty:=e
   rcases e' with⟨xs,hx,e'⟩|⟨xs,hx,e'⟩|⟨kvs,hx,e'⟩
   ·subst e'
    obtain⟨its,r,pl,hz⟩:=I.list hx
    have hlen:=r.length
    exact wpAny_truthy_list pl.isList (by simp only[List.size_toArray];omega) ⟨H,I.tok _,by rw[isEmpty_of r];exact q⟩
   ·subst e'
    obtain⟨its,r,pl,hz⟩:=I.tuple hx
    have hlen:=r.length
    exact truthy_tuple pl (by simp only[List.size_toArray];omega) ⟨H,I.tok _,by rw[isEmpty_of r];exact q⟩
   ·subst e'
    obtain⟨hz,hS,vs,r,m⟩:kvs.length≤sizeLine∧(p==sysModules)=false∧∃ vs,KV kvs vs∧s.heap.DictOf (mixKind X.prog X.w) p vs:=I.hok p _ hx
    have hlen:kvs.length=vs.length:=Paired.length r
    exact wpAny_truthy_dict hS m (by omega) ⟨H,I.tok _,by rw[isEmpty_kv r];exact q⟩
 | _=>exact(show False from e).elim
theorem pt_truth (ha:PE X a ta)(he:∀ whole,isTrue a X.env whole=(do let v ← whole;standAt a.pos;holding [v] (truthy v))) :
  PT X a (fun σ H Q=>ta σ H fun x H'=>∃ k,TruV X.K x H' k∧Q k H'):=by
 intro pins s σ H Q I h
 exact isTrue_plain (thn (ha pins s σ H _ I h) fun v s1 ⟨x,H1,I1,r1,q1⟩=>tru_ok pins s1 σ H1 x v Q I1 r1 q1) (he _)
theorem op_add_str:OpR X (binaryOp .Add) (fun x y H Q=>∃ i j,x=.str i∧y=.str j∧i.length+j.length≤sizeLine∧Q (.str (i++j)) H):=by
 intro pins s σ H x y v u Q I rx ry h
 obtain⟨i,j,rfl,rfl,hz,q⟩:=h
 obtain⟨t,rfl⟩:=rx
 obtain⟨t',rfl⟩:=ry
 exact add_str (fun t' tk=>⟨.str (i++j),H,I.tok _,⟨_,rfl⟩,q⟩) hz
theorem vals1 {x:V}{us:List Value}(r:Vals [x] us):∃ u,us=[u]∧RelV x u:=by
 cases r with
 | cons r1 r2=>cases r2;exact⟨_,rfl,r1⟩
theorem vals2 {x y:V}{us:List Value}(r:Vals [x,y] us):∃ u w',us=[u,w']∧RelV x u∧RelV y w':=by
 cases r with
 | cons r1 r2 =>
   cases r2 with
   | cons r3 r4=>cases r4;exact⟨_,_,rfl,r1,r3⟩
theorem call_min2 (hc:X.calm=true):CallR X (.builtin "min") (fun xs H Q=>∃ i j,xs=[.int i,.int j]∧Q (.int (if j<i then j else i)) H):=by
 intro pins s σ H xs us Q I r h
 obtain⟨i,j,rfl,q⟩:=h
 obtain⟨u,w',rfl,⟨t,rfl⟩,⟨t',rfl⟩⟩:=vals2 r
 refine min_two_ints (I.ok.hd hc) fun h' tk k=>⟨_,H,I.kept k,?_,q⟩
 by_cases hj:j<i
 ·rw[if_pos hj,if_pos hj];exact⟨_,rfl⟩
 ·rw[if_neg hj,if_neg hj];exact⟨_,rfl⟩
end
end L2
namespace L2
open PySem PySem.Spec PyProof.Rows
structure ObjM (h:Heap)(x dx C:Addr)(mA:Str→Option Value):Prop where
 obj:h.get? x=some (PySem.W.instObj C dx)
 ns:h.Ns1 dx mA
 ne:dx≠x
section
variable {prog:Program}{w:World}{A:Around}{E:Value→Shared→Prop}{s:Shared}{K:PySem.W.Frag}{x dx C f:Addr}{mA:Str→Option Value}{name:Str}{v:Value}
end
section
variable {P:Program}{w:World}{H H':Hp}{h h':Heap}{a C dx:Addr}{fs fs':List (Str×V)}
end
structure Cls (K:PySem.W.Frag)(C:Addr):Prop where
 pg:PySem.W.plainGet K C Str.empty=true
 hd:PySem.W.hasDictIn K C=true
 po:PySem.W.plainOver K C=true
 sa:PySem.W.findIn K (.ref C) "__setattr__"=some (some (.builtin "object.__setattr__"))
structure Con (K:PySem.W.Frag)(C:Addr) (f:Str)(v:V)(u:Value):Prop where
 at_:PySem.W.findIn K (.ref C) f=some (some u)
 rel:RelV v u
 get:PySem.W.specialIn K u "__get__"=some none
 cp:PySem.W.copiedNames.contains f=false
structure Meth (K:PySem.W.Frag)(C:Addr) (m:Str)(f:Addr):Prop where
 at_:PySem.W.findIn K (.ref C) m=some (some (.ref f))
 fn:PySem.W.isFn K (.ref f)=true
 kp:PySem.W.keepIn K (.ref f)=true
section
variable {X:Cx}{pins:List (Addr×Obj)}{σ:St}{H:Hp}{s:Shared}{a C dx:Addr}{fs:List (Str×V)}{f:Str}{v:V}{A:Around}{E:Value→Shared→Prop}
end
section
variable {X:Cx}{o e value:Expr}{f:Str}{pos pos' tpos:Pos}{ta tv:TE}
end
section
variable {X:Cx}{pins:List (Addr×Obj)}{σ:St}{H:Hp}{s:Shared}{A:Around}{E:Value→Shared→Prop}{Q:Value→Shared→Prop}{c:Value}{b:Bool}
inductive TyOf (K:PySem.W.Frag)(H:Hp):V→Value→Prop where
 | non:TyOf K H .non (.type "NoneType")
 | bl (x:Bool):TyOf K H (.bl x) (.type "bool")
 | int (i:Int):TyOf K H (.int i) (.type "int")
 | str (x:Str):TyOf K H (.str x) (.type "str")
 | flt (x:UInt64):TyOf K H (.flt x) (.type "float")
 | lst {a:Addr}{xs:List V}(e:H a=some (.lst xs)):TyOf K H (.ref a) (.type "list")
 | frz {a:Addr}{o:Obj}{xs:List V}(e:H a=some (.frz o (.lst xs))):TyOf K H (.ref a) (.type "list")
 | tup {a:Addr}{xs:List V}(e:H a=some (.tup xs)):TyOf K H (.ref a) (.type "tuple")
 | dK {a:Addr}{kvs:List (Key×V)}(e:H a=some (.dK kvs)):TyOf K H (.ref a) (.type "dict")
 | dT {a:Addr}{kvs:List (List Key×V)}(e:H a=some (.dT kvs)):TyOf K H (.ref a) (.type "dict")
 | ins {a C dx:Addr}{fs:List (Str×V)}(e:H a=some (.ins C dx fs)) (cl:Cls K C)(ha:PySem.W.findIn K (.ref C) "__class__"=some (some (.builtin "object.__class__")))
   (hn:PySem.W.specialIn K (.builtin "object.__class__") "__get__"=some (some (.builtin "getset_descriptor.__get__"))) (htk:PySem.W.takesIn K (.builtin "object.__class__")=some true)
   (hm:PySem.W.mroIn K C (.type "object")=some true):TyOf K H (.ref a) (.ref C)
end
end L2
namespace L2
open PySem PySem.Spec PyProof.Rows
structure Room (k:Nat)(A:Around):Prop where
 hd:A.handled=none
 dp:A.depth+3 * k+5<recursionLimit
 un:A.units+16 * k+200<cLine
theorem Room.mono {j k:Nat}{A:Around}(r:Room k A)(h:j≤k):Room j A:=⟨r.hd,by have:=r.dp;omega,by have:=r.un;omega⟩
theorem Room.deeper {k:Nat}{A:Around}(r:Room (k+1) A) (env:Env):Room k (A.deeper env) :=
 ⟨r.hd,by have:=r.dp;show A.depth+1+3 * k+5<_;omega,by have:=r.un;show A.units+3+16 * k+200<_;omega⟩
theorem Room.depth {k:Nat}{A:Around}(r:Room k A):A.depth<recursionLimit:=by have:=r.dp;omega
theorem Room.units {k:Nat}{A:Around}(r:Room k A):A.units+64<cLine:=by have:=r.un;omega
noncomputable def tNil:TA:=fun _ H Q=>Q [] H
noncomputable def tCons (ta:TE)(tr:TA):TA:=fun σ H Q=>ta σ H fun x H1=>tr σ H1 fun xs H2=>Q (x::xs) H2
section
variable {X:Cx}{e:Expr}{es:List Expr}{te:TE}{t:TA}{pos:Pos}
theorem pa_nil:PA X [] tNil:=fun _ _ _ _ H Q I h=>Calls.spliced_nil ⟨[],H,I,.nil,h⟩
theorem pa_cons (ha:PE X e te)(hr:PA X es t)(hs:starEach (e::es) X.env=(false,eval e X.env)::starEach es X.env:=by rfl):PA X (e::es) (tCons te t):=by
 intro pos pins s σ H Q I h
 rw[hs]
 show wpAny _ _ (spliced ((false,eval e X.env)::backTo pos (starEach es X.env))) _ _ s
 refine Calls.spliced_cons (thn (ha pins s σ H _ I h) fun u s1 ⟨x,H1,I1,r1,q1⟩=>?_)
 exact thn (hr pos pins s1 σ H1 _ I1 q1) fun us s2 ⟨xs,H2,I2,r2,q2⟩=>⟨x::xs,H2,I2,.cons r1 r2,q2⟩
noncomputable def tTup (t:TA):TE:=fun σ H Q=>t σ H fun xs H1=>xs.length≤sizeLine∧∀ p,H1 p=none→Q (.ref p) (upd H1 p (.tup xs))
noncomputable def tLst (t:TA):TE:=fun σ H Q=>t σ H fun xs H1=>xs.length≤sizeLine∧∀ p,H1 p=none→Q (.ref p) (upd H1 p (.lst xs))
theorem pe_tup {x1}(h:PA X es t):PE X (.Tuple es x1 pos) (tTup t):=by
 intro pins s σ H Q I hq
 refine wpAny_Tuple_spliced (thn (h pos pins s σ H _ I hq) fun us s1 ⟨xs,H1,I1,r,z,q⟩=>⟨by rw[← r.length];exact z,?_⟩)
 have hf:H1 s1.heap.objs.size=none:=I1.hok.fresh (Nat.le_refl _)
 refine⟨.ref s1.heap.objs.size,upd H1 s1.heap.objs.size (.tup xs),I1.laid (t':=s1.toks) (fun b u e=>Heap.get?_push_of_some _ e) (Nat.le_refl _) ?_,rfl,q _ hf⟩
 exact⟨z,us,r,⟨_,Heap.get?_push_size _ rfl,rfl,_,rfl⟩⟩
theorem pe_lst (h:PA X es t):PE X (.List es pos) (tLst t):=by
 intro pins s σ H Q I hq
 refine wpAny_List_spliced (thn (h pos pins s σ H _ I hq) fun us s1 ⟨xs,H1,I1,r,z,q⟩=>⟨by rw[← r.length];exact z,?_⟩)
 have hf:H1 s1.heap.objs.size=none:=I1.hok.fresh (Nat.le_refl _)
 refine⟨.ref s1.heap.objs.size,upd H1 s1.heap.objs.size (.lst xs),I1.laid (t':=s1.toks) (fun b u e=>Heap.get?_push_of_some _ e) (Nat.le_refl _) ?_,rfl,q _ hf⟩
 exact⟨z,us,0,r,Heap.get?_push_size _ rfl⟩
end
noncomputable abbrev Sp:=List V→Hp→VK→XK→Prop
noncomputable abbrev CXT:=List Env→Hp→Shared→XK→Value→Shared→Prop
structure Env0 (P:Program)(w:World)(K:PySem.W.Frag)(mg:Str→Option Value)(base:Heap)(A:Around)(outer:List Env)(s:Shared)(H:Hp):Prop where
 frames:A.frames=some outer
 mod:Mod K mg base
 bs:∀ b o,base.get? b=some o→s.heap.get? b=some o∧H b=none
 bsz:base.objs.size≤s.heap.objs.size
 funs:s.heap.FunFrames base outer
 frf:∀ b∈frs outer,H b=none
 hok:HOk P w H s.heap
 bare:AllBare s.gens
noncomputable def CE (outer:List Env)(P:Program)(w:World)(H:Hp)(s:Shared)(Q:VK)(u:Value)(s':Shared):Prop :=
 ∃ v H',s'.os=s.os∧AllBare s'.gens∧Un (frs outer) [] H H' s.heap s'.heap∧HOk P w H' s'.heap∧RelV v u∧Q v H'
noncomputable def CR (CX:CXT)(outer:List Env)(P:Program)(w:World)(H:Hp)(s:Shared)(Q:VK)(E:XK)(r:Result)(s':Shared):Prop :=
 match r with
 | .ok (.ret u)=>CE outer P w H s Q u s'
 | .ok _=>False
 | .error e=>CX outer H s E e s'
structure FnOk (P:Program)(w:World)(K:PySem.W.Frag)(mg:Str→Option Value)(base:Heap)(CX:CXT) (k:Nat)(f:Addr)(fd:FuncData)(ps:List Str)(sp:Sp):Prop where
 len:∀ vs H Q E,sp vs H Q E→vs.length=ps.length
 run:∀(A:Around)(outer:List Env)(s:Shared)(H:Hp)(args:Args)(us:List Value)(vs:List V)(Q:VK)(E:XK),Room k A→Env0 P w K mg base A outer s H→BindsTo s fd args (ps.zip us)→Vals vs us→sp vs H Q E →
  codeAny (model P w) A (.call (.ref f) args) (CR CX outer P w H s Q E) s
section
variable {X:Cx}{pins:List (Addr×Obj)}{σ:St}{H:Hp}{s s':Shared}
theorem Inv.env0 (I:Inv X pins σ H s):Env0 X.prog X.w X.K X.mg X.base X.A X.stack s H :=
 ⟨I.ok.frames,I.ok.mod,I.bs,Nat.le_trans I.ok.bsz I.sz,I.stack,I.stkFree,I.hok,I.bare⟩
theorem Inv.after {Q:VK}{u:Value}(I:Inv X pins σ H s)(h:CE X.stack X.prog X.w H s Q u s'):EP X pins σ Q u s':=by
 obtain⟨v,H',os,bare,un,hok,r,q⟩:=h
 obtain⟨hh,g,d,t,os'⟩:=s'
 obtain rfl:os'=s.os:=os
 exact⟨v,H',I.call (h':=hh) (g':=g) (d':=d) (t':=t) (ch:=[]) un hok bare (fun b z=>absurd z (by simp)),r,q⟩
end
noncomputable def tCall (sp:Sp)(dvs:List V)(E:XK)(t:TA):TE:=fun σ H Q=>t σ H fun vs H1=>sp (vs++dvs) H1 Q E
noncomputable def Binds (K:PySem.W.Frag)(fd:FuncData)(ps:List Str)(ds:List Value):Prop :=
 ∀(s:Shared)(us:List Value),K.In s.heap→(us++ds).length=ps.length→BindsTo s fd ⟨us,[]⟩ (ps.zip (us++ds))
theorem Binds.all {K:PySem.W.Frag}{fd:FuncData}{ps:List Str}(h:∀ us:List Value,us.length=ps.length→bindArgs fd ⟨us,[]⟩=pure (ps.zip us)):Binds K fd ps []:=fun s us _ hl=>by
 rw[List.append_nil] at hl ⊢
 exact .of_eq (h us hl)
noncomputable def Passes (CX:CXT)(X:Cx)(E:XK):Prop:=∀(pins:List (Addr×Obj)) (σ:St)(H:Hp)(s:Shared)(e:Value)(s':Shared),Inv X pins σ H s→CX X.stack H s E e s'→X.xe e s'
section
variable {X:Cx}{CX:CXT}{k:Nat}{f C:Addr}{fd:FuncData}{ps:List Str}{sp:Sp}{dvs:List V}{ds:List Value}{E:XK}{x m:Str}{p pos apos:Pos}{e o:Expr}{es:List Expr}{ta:TE}{t:TA}
theorem run_fn {pins:List (Addr×Obj)}{σ:St}{H:Hp}{s:Shared}{Q:VK}{us:List Value}{vs:List V}(F:FnOk X.prog X.w X.K X.mg X.base CX k f fd ps sp)(hr:Room k X.A)(hb:Binds X.K fd ps ds)(hd:Vals dvs ds)(hx:Passes CX X E)
  (I:Inv X pins σ H s)(r:Vals vs us)(h:sp (vs++dvs) H Q E):wpAny (model X.prog X.w) X.A (call (.ref f) us) (EP X pins σ Q) X.xe s:=by
 have r2:Vals (vs++dvs) (us++ds):=r.append hd
 have hl:(us++ds).length=ps.length:=by rw[← r2.length];exact F.len _ _ _ _ h
 refine wpAny_call (codeAny_mono (F.run X.A X.stack s H ⟨us,[]⟩ (us++ds) (vs++dvs) Q E hr I.env0 (hb s us I.kIn hl) r2 h) fun r s' hq=>?_)
 cases r with
 | error e=>exact hx pins σ H s e s' I hq
 | ok fl =>
   cases fl with
   | ret u=>exact I.after hq
   | next=>exact False.elim hq
   | brk=>exact False.elim hq
   | cont=>exact False.elim hq
theorem pe_call (F:FnOk X.prog X.w X.K X.mg X.base CX k f fd ps sp)(hr:Room k X.A)(hg:Gl X x)(hm:X.mg x=some (.ref f)) (hk:PySem.W.keepIn X.K (.ref f)=true) (hb:Binds X.K fd ps ds)(hd:Vals dvs ds)(hx:Passes CX X E)
  (ha:PA X (e::es) t) (hdb:(x==("__debug__":Str))=false:=by decide) (he:starEach (e::es) X.env=(false,eval e X.env)::starEach es X.env:=by rfl) (hpl:(backTo pos (starEach es X.env)).any (·.1)=false:=by rfl) :
  PE X (.Call (.Name x p) (e::es) [] pos) (tCall sp dvs E t):=by
 intro pins s σ H Q I h
 refine wpAny_Call_Name_kw (ld_glob I hg hm ?_ hdb)
 refine PySem.W.callWith_K (h₀:=X.base) I.ok.mod.kin hk (thn (ha pos pins s σ H _ I h) fun us s1 ⟨vs,H1,I1,r,q⟩=>⟨I1.kIn,?_⟩) he hpl
 exact run_fn F hr hb hd hx I1 r q
structure Mk (K:PySem.W.Frag)(C f:Addr):Prop where
 makes:PySem.W.makesIn K C=true
 init:PySem.W.findIn K (.ref C) "__init__"=some (some (.ref f))
 fn:PySem.W.isFn K (.ref f)=true
 kp:PySem.W.keepIn K (.ref C)=true
end
section
variable {X:Cx}{CX:CXT}{k:Nat}{f C:Addr}{fd:FuncData}{ps ks:List Str}{sp:Sp}{E:XK}{x m:Str}{p pos apos kpos:Pos}{e o:Expr}{es:List Expr}{kws:List Keyword}{te ta:TE}{t tk:TA}{nm:Option Str}
structure KBinds (K:PySem.W.Frag)(fd:FuncData)(ps ks:List Str)(g:List Value→List Value→List Value)(gV:List V→List V→List V):Prop where
 to:∀(s:Shared)(us ws:List Value),K.In s.heap→(g us ws).length=ps.length→BindsTo s fd ⟨us,ks.zip ws⟩ (ps.zip (g us ws))
 rel:∀{vs:List V}{us:List Value}{zs:List V}{ws:List Value},Vals vs us→Vals zs ws→Vals (gV vs zs) (g us ws)
variable {g:List Value→List Value→List Value}{gV:List V→List V→List V}
end
structure FnScope (N P:List Str)(sc:Scope):Prop where
 kind:sc.kind=.function
 co:sc.isCoroutine=false
 gen:sc.isGenerator=false
 nd:N.Nodup
 pre:N.take P.length=P
 par:∀ x∈P,sc.names.lookup x=some .local∨sc.names.lookup x=some .cell
 nofree:∀ y∈sc.names,y.2≠.free
theorem bindL_out {kindOf:Str→Option NameKind}{x:Str}:∀{binds:List (Str×Value)}{m:Str→Option Value},(∀ v,(x,v)∉binds)→bindL kindOf binds m x=m x
 | [],_,_=>rfl
 | (n,v)::r,m,h=>by
   unfold bindL
   rw[bindL_out fun w hw=>h w (List.mem_cons_of_mem _ hw)]
   split
   ·have:x≠n:=by rintro rfl;exact h v List.mem_cons_self
    simp [this]
   ·rfl
theorem bindC_out {kindOf:Str→Option NameKind}{x:Str}:∀{binds:List (Str×Value)}{m:Str→Option Value},(∀ v,(x,v)∉binds)→bindC kindOf binds m x=m x
 | [],_,_=>rfl
 | (n,v)::r,m,h=>by
   unfold bindC
   rw[bindC_out fun w hw=>h w (List.mem_cons_of_mem _ hw)]
   split
   ·rfl
   ·have:x≠n:=by rintro rfl;exact h v List.mem_cons_self
    simp [this]
theorem bindL_get {kindOf:Str→Option NameKind}{x:Str}{v:Value}:∀{P:List Str}{vs:List Value}{i:Nat}{m:Str→Option Value},P.Nodup→P[i]?=some x→vs[i]?=some v→kindOf x=some .local →
  bindL kindOf (P.zip vs) m x=some v
 | [],_,_,_,_,h,_,_=>by simp at h
 | _::_,[],_,_,_,_,h,_=>by simp at h
 | p::P,w::vs,0,m,nd,h1,h2,hk=>by
   simp at h1 h2;subst h1;subst h2
   show bindL kindOf ((p,w)::P.zip vs) m p=_
   unfold bindL
   rw[bindL_out fun v hv=>(List.nodup_cons.mp nd).1 (List.of_mem_zip hv).1,if_pos hk]
   simp
 | p::P,w::vs,i+1,m,nd,h1,h2,hk=>by
   show bindL kindOf ((p,w)::P.zip vs) m x=_
   unfold bindL
   exact bindL_get (i:=i) (List.nodup_cons.mp nd).2 (by simpa using h1) (by simpa using h2) hk
theorem bindC_get {kindOf:Str→Option NameKind}{x:Str}{v:Value}:∀{P:List Str}{vs:List Value}{i:Nat}{m:Str→Option Value},P.Nodup→P[i]?=some x→vs[i]?=some v→kindOf x≠some .local →
  bindC kindOf (P.zip vs) m x=some v
 | [],_,_,_,_,h,_,_=>by simp at h
 | _::_,[],_,_,_,_,h,_=>by simp at h
 | p::P,w::vs,0,m,nd,h1,h2,hk=>by
   simp at h1 h2;subst h1;subst h2
   show bindC kindOf ((p,w)::P.zip vs) m p=_
   unfold bindC
   rw[bindC_out fun v hv=>(List.nodup_cons.mp nd).1 (List.of_mem_zip hv).1,if_neg hk]
   simp
 | p::P,w::vs,i+1,m,nd,h1,h2,hk=>by
   show bindC kindOf ((p,w)::P.zip vs) m x=_
   unfold bindC
   exact bindC_get (i:=i) (List.nodup_cons.mp nd).2 (by simpa using h1) (by simpa using h2) hk
noncomputable def start (N:List Str)(vs:List V):St:=vs.map some++List.replicate (N.length - vs.length) none
noncomputable def cxOf (CX:CXT)(P:Program)(w:World)(K:PySem.W.Frag)(mg:Str→Option Value)(base:Heap)(N:List Str) (qual:Str)(scope:Scope)(f:Addr)(cd:Value)(A:Around)(outer:List Env)(s:Shared)(H:Hp)(E:XK):Cx where
 prog:=P
 w:=w
 K:=K
 mg:=mg
 base:=base
 A:=A.deeper (envOfC qual scope s.heap.objs.size f cd)
 N:=N
 s₀:=s
 H₀:=H
 env:=envOfC qual scope s.heap.objs.size f cd
 outer:=outer
 stack:=envOfC qual scope s.heap.objs.size f cd::outer
 ex:=[]
 calm:=true
 fn:=fun _=>true
 pn:=[]
 xe:=fun e s'=>wpAny (model P w) (A.deeper (envOfC qual scope s.heap.objs.size f cd)) (leaving (envOfC qual scope s.heap.objs.size f cd) e) (fun _ s''=>CX outer H s E e s'') (fun e' s''=>CX outer H s E e' s'') s'
theorem cell_has {sc:Scope}{n:Nat}{x:Str}(h:sc.names.lookup x=some .cell):∃ c,(cellsFrom n sc.names []).lookup x=some c:=by
 have q:=PySem.W.cellsFrom_some sc.names n [] (.inl h)
 exact Option.isSome_iff_exists.mp q
theorem inv_start {CX:CXT}{P:Program}{w:World}{K:PySem.W.Frag}{mg:Str→Option Value}{base:Heap}{N ps:List Str}{qual:Str}{scope:Scope}{f:Addr}{cd:Value}{A:Around}{outer:List Env}{s s1:Shared}{H:Hp}{E:XK}{us:List Value}{vs:List V}
  (S:FnScope N ps scope)(hd:A.handled=none)(e0:Env0 P w K mg base A outer s H)(hl:vs.length=ps.length)(r:Vals vs us)
  (x:InCallC s s.heap.objs.size (bindL (envOfC qual scope s.heap.objs.size f cd).kindOf (ps.zip us) fun _=>none) (cellsFrom (s.heap.objs.size+1) scope.names []) (bindC (envOfC qual scope s.heap.objs.size f cd).kindOf (ps.zip us) fun _=>none) s1) :
  Inv (cxOf CX P w K mg base N qual scope f cd A outer s H E) [] (start N vs) H s1:=by
 have hpl:ps.length≤N.length:=by have:=congrArg List.length S.pre;rw[List.length_take] at this;omega
 obtain⟨h1,tk,rfl,hk⟩:=x.done
 have noA:∀ b:Addr,b∉(cxOf CX P w K mg base N qual scope f cd A outer s H E).ex:=fun b z=>absurd (show b∈([]:List Addr) from z) (by simp)
 refine⟨⟨e0.mod,S.kind,rfl,rfl,Nat.le_refl _,fun y z c h1 h2=>?_,fun y hy=>?_,fun y c _ h=>?_,fun _=>hd,Around.frames_deeper e0.frames,.inr ⟨rfl,rfl⟩,fun b z=>absurd z (noA b),e0.bs,e0.bsz,fun b _ _=>noA b,fun b z=>absurd z (noA b),e0.funs,e0.frf⟩,
  rfl,e0.bare,Un.kept hk,⟨_,x.toInCall.ns,fun i y v h1 h2 h3=>?_⟩,fun y c h=>⟨_,x.cell y c h⟩,e0.hok.fresh (Nat.le_refl _),fun y c h=>?_,fun p hp=>absurd (show p∈([]:List (Addr×Obj)) from hp) (by simp),e0.hok.kept hk,?_⟩
 ·exact name_of_addr x.apart (PySem.mem_of_lookup h1) (PySem.mem_of_lookup h2)
 ·have hy:scope.names.lookup y=some .cell∨scope.names.lookup y=some .free:=hy
  rcases hy with hy|hy
  ·exact cell_has hy
  ·exact absurd rfl (S.nofree _ (PySem.mem_of_lookup hy))
 ·exact Nat.le_of_lt (x.above y c (PySem.mem_of_lookup h))
 ·have hi:i<vs.length:=by
   unfold start at h2
   by_cases hi:i<vs.length
   ·exact hi
   ·rw[List.getElem?_append_right (by simpa using hi)] at h2
    rw[List.getElem?_replicate] at h2
    split at h2<;>cases h2
  have ha:vs[i]?=some v:=by
   unfold start at h2
   rw[List.getElem?_append_left (by simpa using hi),List.getElem?_map] at h2
   cases e:vs[i]? with
   | none=>rw[e] at h2;cases h2
   | some a=>rw[e] at h2;cases h2;rfl
  obtain⟨u,hu,rv⟩:=r.get ha
  have hp:ps[i]?=some y:=by
   rw[← S.pre,List.getElem?_take_of_lt (by omega)];exact h1
  have ndP:ps.Nodup:=by rw[← S.pre];exact S.nd.sublist (List.take_sublist _ _)
  refine⟨u,rv,?_⟩
  rcases S.par y (List.mem_of_getElem? hp) with k|k
  ·exact .inl ⟨k,bindL_get ndP hp hu k⟩
  ·obtain⟨c,e⟩:=cell_has (n:=s.heap.objs.size+1) k
   refine .inr ⟨.inl k,c,e,?_⟩
   have q:=x.cell y c e
   rw[bindC_get ndP hp hu (by show scope.names.lookup y≠_;rw[k];decide)] at q
   exact q
 ·exact e0.hok.fresh (Nat.le_of_lt (x.above y c (PySem.mem_of_lookup h)))
 ·unfold start
  show _=N.length
  rw[List.length_append,List.length_map,List.length_replicate]
  omega
theorem fn_of {CX:CXT}{P:Program}{w:World}{K:PySem.W.Frag}{mg:Str→Option Value}{base:Heap}{k:Nat}{f:Addr}{name qual:Str}{params:Arguments}{body:List Stmt}{scope:Scope}{dV kV doc pm cdv ct oc:Value}{an od:Option Addr}
  {osl:Array (Option Value)}{N ps:List Str}{sp:Sp}(lk:K.lookup f=some ⟨oc,od,.func (PySem.W.fnOf name qual params body scope dV kV doc pm an cdv ct),osl⟩) (hcd:PySem.W.codeIn K cdv qual=true)(S:FnScope N ps scope)
  (len:∀ vs H Q E,sp vs H Q E→vs.length=ps.length)
  (hbody:∀(A:Around)(outer:List Env)(s:Shared)(H:Hp)(vs:List V)(Q:VK)(E:XK),Room k (A.deeper (envOfC qual scope s.heap.objs.size f cdv))→sp vs H Q E →
   ∃ t,PSs (cxOf CX P w K mg base N qual scope f cdv A outer s H E) body t∧t {nx:=fun _ H'=>Q .non H',rt:=Q} (start N vs) H) :
  FnOk P w K mg base CX (k+1) f (PySem.W.fnOf name qual params body scope dV kV doc pm an cdv ct) ps sp:=by
 refine⟨len,fun A outer s H args us vs Q E hr e0 hb r hsp=>?_⟩
 have hl:=len _ _ _ _ hsp
 have KX:K.In s.heap:=e0.mod.kin.keeps fun b o e=>(e0.bs b o e).1
 have lim:s.heap.NoLimit:=e0.mod.nolimit.keeps fun b o e=>(e0.bs b o e).1
 have hkind:∀ y∈ps.zip us,scope.names.lookup y.1=some .local∨(scope.names.lookup y.1=some .cell∧((cellsFrom (s.heap.objs.size+1) scope.names []).lookup y.1).isSome=true):=fun⟨n,v⟩ hy=>by
  rcases S.par n (List.of_mem_zip hy).1 with q|q
  ·exact .inl q
  ·exact .inr ⟨q,PySem.W.cellsFrom_some _ _ _ (.inl q)⟩
 refine codeAny_call_function hr.depth (KX _ _ lk) rfl S.co S.gen rfl (PySem.W.codeRec_of KX hcd) (hb _ _ _ _ ?_)
 refine wpAny_newFunctionEnv_cells S.kind hkind fun env he s1 x=>?_
 subst he
 refine⟨lim.keeps x.toInCall.keep,codeAny_func ?_⟩
 obtain⟨t,ht,hq⟩:=hbody A outer s H vs Q E (hr.deeper _) hsp
 have I:Inv (cxOf CX P w K mg base N qual scope f cdv A outer s H E) [] (start N vs) H s1:=inv_start S hr.hd e0 hl r x
 refine wpAny_mono (ht [] s1 (start N vs) H _ I hq) (fun fl s' hs=>?_) fun e s' hs=>hs
 have fin:∀{σ':St}{H':Hp}{v:V}{u:Value},Inv (cxOf CX P w K mg base N qual scope f cdv A outer s H E) [] σ' H' s'→RelV v u→Q v H'→CE outer P w H s Q u s' :=
  fun{σ' H' v u} J rv q=>⟨v,H',J.os,J.bare,J.base,J.hok,rv,q⟩
 cases fl with
 | ret u =>
   obtain⟨v,σ',H',J,rv,q⟩:=hs
   exact fin J rv q
 | next =>
   obtain⟨σ',H',J,q⟩:=hs
   exact fin (v:=V.non) (u:=Value.none) J rfl q
 | brk =>
   obtain⟨_,_,_,q⟩:=hs
   exact False.elim q
 | cont =>
   obtain⟨_,_,_,q⟩:=hs
   exact False.elim q
end L2
namespace L2
open PySem PySem.Spec PyProof.Rows
section
variable {X:Cx}{x:Str}{p pos:Pos}{e:Expr}{es:List Expr}{t:TA}{id T:String}{r:List V→Hp→VK→Prop}
noncomputable def tCB (r:List V→Hp→VK→Prop)(t:TA):TE:=fun σ H Q=>t σ H fun vs H1=>r vs H1 Q
theorem pe_callB (hc:CallR X (.builtin id) r) (hg:Gl X x)(hm:X.mg x=none)(hv:bootBuiltins x=some (.builtin id)) (ha:PA X (e::es) t) (hn:x≠"__name__":=by decide)(hdb:(x==("__debug__":Str))=false:=by decide)
  (he:starEach (e::es) X.env=(false,eval e X.env)::starEach es X.env:=by rfl) (hpl:(backTo pos (starEach es X.env)).any (·.1)=false:=by rfl):PE X (.Call (.Name x p) (e::es) [] pos) (tCB r t):=by
 intro pins s σ H Q I h
 refine wpAny_Call_Name_kw (ld_blt I hg hm hv ?_ hn hdb)
 exact PyProof.Rows.callWith_builtin1 (thn (ha pos pins s σ H _ I h) fun us s1 ⟨vs,H1,I1,r1,q1⟩=>hc pins s1 σ H1 vs us Q I1 r1 q1) he hpl
theorem pe_callTy (hc:CallR X (.type T) r) (hg:Gl X x)(hm:X.mg x=none)(hv:bootBuiltins x=some (.type T)) (ha:PA X (e::es) t) (hn:x≠"__name__":=by decide)(hdb:(x==("__debug__":Str))=false:=by decide)
  (he:starEach (e::es) X.env=(false,eval e X.env)::starEach es X.env:=by rfl) (hpl:(backTo pos (starEach es X.env)).any (·.1)=false:=by rfl):PE X (.Call (.Name x p) (e::es) [] pos) (tCB r t):=by
 intro pins s σ H Q I h
 refine wpAny_Call_Name_kw (ld_blt I hg hm hv ?_ hn hdb)
 exact PyProof.Rows.callWith_type1 (thn (ha pos pins s σ H _ I h) fun us s1 ⟨vs,H1,I1,r1,q1⟩=>hc pins s1 σ H1 vs us Q I1 r1 q1) he hpl
end
end L2
namespace HT
open PySem PyProof.Rows
section
open PySem.SeqAt
open PySem.AutoSeq1 (wpAny_loadPart')
open PySem.MeetsSeq PySem.MeetsSeq2 PySem.MeetsSeq3
end
section
variable {prog:Program}{w:World}{A:Around}{E:Value→Shared→Prop}{s:Shared}
theorem cat_tup {t b:Addr}{vs ws:List Value}{Q:Value→Shared→Prop}(ht:IsTup s.heap t vs.toArray)(hb:IsTup s.heap b ws.toArray)(hv:vs≠[])
  (h1:ws=[]→Q (.ref t) s) (h2:ws≠[]→Q (.ref s.heap.objs.size) {s with heap:=s.heap.push {cls:=.type "tuple",data:=.seq (vs++ws).toArray}})
  (hsz:vs.length+ws.length≤sizeLine):wpAny (model prog w) A (binaryOp .Add (.ref t) (.ref b)) Q E s:=by
 obtain⟨⟨cls,dd,data,sl⟩,ho,hc,n,hd⟩:=id ht
 obtain⟨⟨cls2,dd2,data2,sl2⟩,ho2,hc2,n2,hd2⟩:=id hb
 simp only at hc hd hc2 hd2
 subst hc hd hc2 hd2
 have e:vs.toArray++ws.toArray=(vs++ws).toArray:=by simp
 by_cases hw:ws=[]
 ·exact concat_meets ⟨_,ho,rfl⟩ ⟨_,ho2,rfl⟩ noFill_tuple_add seq_tuple_add PySem.F.slot_tuple_add PySem.F.entry_tuple_add (PySem.F.args_tuple_add_2 _ _)
   (tuple_addW1 t b vs.toArray ws.toArray n n2 dd dd2 sl sl2 (by simpa using hv) (by simp [hw])) ⟨ho,ho2,h1 hw⟩
 ·refine concat_meets ⟨_,ho,rfl⟩ ⟨_,ho2,rfl⟩ noFill_tuple_add seq_tuple_add PySem.F.slot_tuple_add PySem.F.entry_tuple_add (PySem.F.args_tuple_add_2 _ _)
   (tuple_addW2 t b vs.toArray ws.toArray n n2 dd dd2 sl sl2 (by simpa using hv) (by simpa using hw) (by rw[List.size_toArray,List.size_toArray];exact hsz)) ⟨ho,ho2,?_⟩
  rw[e]
  exact h2 hw
noncomputable def sIx (n d:Nat):Option Int→Nat
 | none=>d
 | some v=>if v<0 then (v+(n:Int)).toNat else min v.toNat n
theorem sIx_none (n d:Nat):sIx n d none=d:=rfl
theorem sIx_nat (n d k:Nat):sIx n d (some (k:Int))=min k n:=by
 show(if (k:Int)<0 then ((k:Int)+(n:Int)).toNat else min (k:Int).toNat n)=min k n
 rw[if_neg (by omega),Int.toNat_natCast]
theorem sIx_le (n d:Nat)(hd:d≤n)(o:Option Int):sIx n d o≤n:=by
 cases o with
 | none=>exact hd
 | some v =>
   show(if v<0 then (v+(n:Int)).toNat else min v.toNat n)≤n
   by_cases hv:v<0
   ·rw[if_pos hv];omega
   ·rw[if_neg hv];exact Nat.min_le_right _ _
theorem clip_eq (v:Int) (n d:Nat):(if v<0 then max (v+(n:Int)) 0 else min v (n:Int))=((sIx n d (some v):Nat):Int):=by
 show(if v<0 then max (v+(n:Int)) 0 else min v (n:Int))=(((if v<0 then (v+(n:Int)).toNat else min v.toNat n):Nat):Int)
 by_cases hv:v<0
 ·simp only[if_pos hv];omega
 ·simp only[if_neg hv];omega
theorem adjust_gen (lo hi:Option Int) (n:Nat):Builtin.Slice.sliceAdjust lo hi 1 (n:Int)=(((sIx n 0 lo:Nat):Int),((sIx n n hi:Nat):Int)):=by
 have h1:¬((1:Int)<0):=by omega
 unfold Builtin.Slice.sliceAdjust
 simp only[h1,if_false]
 refine Prod.ext ?_ ?_
 ·cases lo with
  | none=>rfl
  | some v=>exact clip_eq v n 0
 ·cases hi with
  | none=>rfl
  | some v=>exact clip_eq v n n
theorem places_gen (i j:Nat):Builtin.Slice.slicePlaces (i:Int) (j:Int) 1=j - i:=by
 unfold Builtin.Slice.slicePlaces
 have h1:(1:Int)>0:=by omega
 simp only[h1,if_true,Int.ediv_one]
 split<;>omega
theorem slicePart_ {v:Value}{o:Option Int}{Q:Option Int→Shared→Prop}(p:IsPart v o)(h:Q o s):wpAny (model prog w) A (Builtin.Slice.slicePartIndex v) Q E s:=by
 cases p with
 | none=>exact slicePart_none h
 | int i t=>exact slicePart_int h
theorem sliceApplied_gen {sl:Addr}{vl vu:Value}{lo hi:Option Int}{n:Nat}{Q:Int×Int×Nat→Shared→Prop}(hs:s.heap.IsSliceOf sl vl vu .none)(pl:IsPart vl lo)(pu:IsPart vu hi)
  (h:Q (((sIx n 0 lo:Nat):Int),1,sIx n n hi - sIx n 0 lo) s):wpAny (model prog w) A (Builtin.Slice.sliceApplied (.ref sl) (pure (n:Int))) Q E s:=by
 obtain⟨os,hos,hcs,hds⟩:=id hs
 unfold Builtin.Slice.sliceApplied Builtin.Slice.sliceFields
 refine wpAny_bind (wpAny_bind (wpAny_field hos hds (x:=vl) rfl (wpAny_bind (wpAny_field hos hds (x:=vu) rfl (wpAny_bind (wpAny_field hos hds (x:=.none) rfl (wpAny_pure ?_)))))))
 refine wpAny_bind (slicePart_none ?_)
 show wpAny _ _ (if ((1:Int)==0)=true then _ else _) _ _ s
 rw[if_neg (by decide)]
 refine wpAny_bind (slicePart_ pl (wpAny_bind (slicePart_ pu (wpAny_bind (wpAny_pure ?_)))))
 show wpAny _ _ (match Builtin.Slice.sliceAdjust lo hi 1 (n:Int) with|(lo,hi)=>pure (lo,(1:Int),Builtin.Slice.slicePlaces lo hi 1)) _ _ s
 rw[adjust_gen lo hi n]
 show wpAny _ _ (pure (((sIx n 0 lo:Nat):Int),(1:Int),Builtin.Slice.slicePlaces ((sIx n 0 lo:Nat):Int) ((sIx n n hi:Nat):Int) 1)) _ _ s
 rw[places_gen]
 exact wpAny_pure h
theorem pick_gen (xs:Array Value) (i k:Nat):((List.range k).filterMap fun(m:Nat)=>xs[((i:Int)+(m:Int) * 1).toNat]?).toArray=((xs.toList.drop i).take k).toArray:=by
 have e:(fun(m:Nat)=>xs[((i:Int)+(m:Int) * 1).toNat]?)=fun m=>xs[i+m]?:=by
  funext m
  have:((i:Int)+(m:Int) * 1).toNat=i+m:=by omega
  rw[this]
 rw[e]
 have:=pick_run xs i k
 rw[List.filterMap_map] at this
 have e2:((fun x=>xs[x]?) ∘ fun x=>i+x)=fun m=>xs[i+m]?:=rfl
 rw[e2] at this
 rw[this]
theorem getItem_tuple_cut {t sl:Addr}{items:Array Value}{vl vu:Value}{lo hi:Option Int}{Q:Value→Shared→Prop}(ht:IsTup s.heap t items)(hs:s.heap.IsSliceOf sl vl vu .none)(pl:IsPart vl lo)(pu:IsPart vu hi)
  (hw:¬(sIx items.size 0 lo=0∧sIx items.size items.size hi=items.size))
  (h:Q (.ref s.heap.objs.size) {s with heap:=s.heap.push {cls:=.type "tuple",data:=.seq ((items.toList.drop (sIx items.size 0 lo)).take (sIx items.size items.size hi - sIx items.size 0 lo)).toArray}})
  (hsz:items.size≤sizeLine):wpAny (model prog w) A (getItem (.ref t) (.ref sl)) Q E s:=by
 have htake:sizeOk (.seq ((items.toList.drop (sIx items.size 0 lo)).take (sIx items.size items.size hi - sIx items.size 0 lo)).toArray):=by
  show((items.toList.drop (sIx items.size 0 lo)).take (sIx items.size items.size hi - sIx items.size 0 lo)).toArray.size≤sizeLine
  rw[List.size_toArray,List.length_take,List.length_drop,Array.length_toList]
  omega
 have hj:sIx items.size items.size hi≤items.size:=sIx_le _ _ (Nat.le_refl _) hi
 obtain⟨os,hos,hcs,hds⟩:=id hs
 have hTs:s.TypeIs (.ref sl) "slice":=⟨os,hos,hcs⟩
 unfold getItem
 try with_reducible refine wpAny_holding ?_
 first|refine wpAny_bind (wpAny_pure ?_)|skip
 refine wpAny_bind (wpAny_sequenceKey ht.typeIs (by decide) ?_)
 refine wpAny_bind (wpAny_callSpecial?_slot (name:=Str.ofString "__getitem__") ht.typeIs PyProof.Rows.slot_tuple_getitem
  (wpAny_call_entry PyProof.Rows.slot_tuple_getitem ht.typeIs entry_tuple_getitem ?_ (args_tuple_getitem _ _)))
 show wpAny _ _ (Builtin.Tuple.tupleItemsOf (.ref t) >>= _) _ _ s
 refine wpAny_bind (tupleItemsOf_ ht ?_)
 refine wpAny_bind (wpAny_typeOf hTs ?_)
 rw[if_pos (by decide)]
 refine wpAny_bind (sliceApplied_gen hs pl pu ?_)
 have hno:¬((((sIx items.size 0 lo:Nat):Int)==0&&(1:Int)==1&&(sIx items.size items.size hi - sIx items.size 0 lo)==items.size)=true):=by
  intro q
  rw[Bool.and_eq_true,Bool.and_eq_true] at q
  have q1:((sIx items.size 0 lo:Nat):Int)=0:=eq_of_beq q.1.1
  have q2:sIx items.size items.size hi - sIx items.size 0 lo=items.size:=eq_of_beq q.2
  exact hw ⟨by omega,by omega⟩
 show wpAny _ _ (if (((sIx items.size 0 lo:Nat):Int)==0&&(1:Int)==1&&(sIx items.size items.size hi - sIx items.size 0 lo)==items.size)=true then _ else _) _ _ s
 rw[if_neg hno,pick_gen]
 first
  | exact wpAny_bind (m:=Builtin.Tuple.tupleExact _) (wpAny_newObj_type (wpAny_pure ⟨_,rfl,wpAny_pure h⟩) htake)
  | exact wpAny_bind (m:=Builtin.Tuple.tupleExact _) (wpAny_newObj_type (wpAny_bind (wpAny_pure (wpAny_pure ⟨_,rfl,wpAny_pure h⟩))) htake)
  | exact wpAny_bind (wpAny_bind (m:=Builtin.Tuple.tupleExact _) (wpAny_newObj_type (wpAny_pure (wpAny_pure ⟨_,rfl,wpAny_pure h⟩)) htake))
  | exact wpAny_bind (wpAny_bind (m:=Builtin.Tuple.tupleExact _) (wpAny_newObj_type (wpAny_pure ⟨_,rfl,wpAny_pure h⟩) htake))
end
end HT
namespace L2
open PySem PySem.Spec PyProof.Rows
noncomputable abbrev TO:=St→Hp→(Option Int→Hp→Prop)→Prop
noncomputable def PO (X:Cx)(e:Option Expr)(t:TO):Prop :=
 ∀(pins:List (Addr×Obj)) (s:Shared)(σ:St)(H:Hp)(Q:Option Int→Hp→Prop),Inv X pins σ H s→t σ H Q →
  wpAny (model X.prog X.w) X.A (evalPart e X.env) (fun u s'=>∃ o H',Inv X pins σ H' s'∧IsPart u o∧Q o H') X.xe s
noncomputable def tNoPart:TO:=fun _ H Q=>Q none H
noncomputable def tPart (t:TE):TO:=fun σ H Q=>t σ H fun x H1=>∃ i,x=.int i∧Q (some i) H1
section
variable {X:Cx}{e:Expr}{te:TE}{lo hi:Option Expr}{tl th:TO}{pos p2:Pos}
theorem po_none:PO X none tNoPart:=by
 intro pins s σ H Q I h
 rw[evalPart_none]
 exact wpAny_pure ⟨none,H,I,.none,h⟩
theorem po_some (h:PE X e te):PO X (some e) (tPart te):=by
 intro pins s σ H Q I hw
 rw[evalPart_some]
 refine thn (h pins s σ H _ I hw) fun u s1 ⟨x,H1,I1,r1,q1⟩=>?_
 obtain⟨i,rfl,q⟩:=q1
 obtain⟨t,rfl⟩:=r1
 exact⟨some i,H1,I1,.int i t,q⟩
noncomputable def SlR (X:Cx)(r:V→Option Int→Option Int→Hp→VK→Prop):Prop :=
 ∀(pins:List (Addr×Obj)) (s:Shared)(σ:St)(H:Hp)(x:V)(v vl vu:Value)(lo hi:Option Int)(sl:Addr)(Q:VK),Inv X pins σ H s→RelV x v→s.heap.IsSliceOf sl vl vu .none→IsPart vl lo→IsPart vu hi→r x lo hi H Q →
  ∃ T id,typeLookup (.type T) "__getitem__"=pure (some (.builtin id))∧s.TypeIs v T∧wpAny (model X.prog X.w) X.A (getItem v (.ref sl)) (EP X pins σ Q) X.xe s
noncomputable def tSl (r:V→Option Int→Option Int→Hp→VK→Prop)(te:TE)(tl th:TO):TE:=fun σ H Q=>te σ H fun x H1=>tl σ H1 fun l H2=>th σ H2 fun u H3=>r x l u H3 Q
theorem pe_slice {r:V→Option Int→Option Int→Hp→VK→Prop}(hr:SlR X r)(he:PE X e te)(hl:PO X lo tl)(hu:PO X hi th):PE X (.Subscript e (.Slice lo hi none p2) pos) (tSl r te tl th):=by
 intro pins s σ H Q I h
 refine Subscript_ (thn (he pins s σ H _ I h) fun v s1 ⟨x,H1,I1,r1,q1⟩=>?_)
 refine wpAny_Slice (thn (hl pins s1 σ H1 _ I1 q1) fun vl s2 ⟨l,H2,I2,pl,q2⟩=>thn (hu pins s2 σ H2 _ I2 q2) fun vu s3 ⟨u,H3,I3,pu,q3⟩=>?_)
 rw[evalPart_none]
 refine wpAny_pure ?_
 have I4:Inv X pins σ H3 {s3 with heap:=s3.heap.push {cls:=.type "slice",data:=.fields #[vl,vu,.none]}}:=I3.kept (t':=s3.toks) fun b ob q=>Heap.get?_push_of_some _ q
 obtain⟨T,id,hT,ht,hg⟩:=hr pins {s3 with heap:=s3.heap.push {cls:=.type "slice",data:=.fields #[vl,vu,.none]}} σ H3 x v vl vu l u s3.heap.objs.size Q I4 r1 (Heap.IsSliceOf.new ..) pl pu q3
 show wpAny (model X.prog X.w) X.A (subscriptTail e (.Slice lo hi none p2) v (.ref s3.heap.objs.size)) (EP X pins σ Q) X.xe {s3 with heap:=s3.heap.push {cls:=.type "slice",data:=.fields #[vl,vu,.none]}}
 exact tail_any (ops:=[.ref s3.heap.objs.size,v]) ht hT hg (by with_unfolding_all rfl)
noncomputable def cutV (xs:List V)(lo hi:Option Int):List V:=(xs.drop (HT.sIx xs.length 0 lo)).take (HT.sIx xs.length xs.length hi - HT.sIx xs.length 0 lo)
theorem cutV_length (xs:List V)(lo hi:Option Int):(cutV xs lo hi).length≤xs.length:=by
 unfold cutV
 rw[List.length_take,List.length_drop]
 omega
noncomputable def rSlT (K:PySem.W.Frag):V→Option Int→Option Int→Hp→VK→Prop:=fun x lo hi H Q=>∃ a xs,x=.ref a∧SqT K H a xs ∧
 ¬(HT.sIx xs.length 0 lo=0∧HT.sIx xs.length xs.length hi=xs.length)∧∀ p,H p=none→Q (.ref p) (upd H p (.tup (cutV xs lo hi)))
theorem sl_tup:SlR X (rSlT X.K):=by
 intro pins s σ H x v vl vu lo hi sl Q I rx hs pl pu h
 obtain⟨a,xs,rfl,hx,hw,q⟩:=h
 cases rx
 obtain⟨its,r,ht,hz⟩:=I.tuple hx
 have hlen:its.toArray.size=xs.length:=by rw[List.size_toArray];exact r.length.symm
 refine⟨"tuple",_,PyProof.Rows.slot_tuple_getitem.lookup,ht.typeIs,?_⟩
 refine HT.getItem_tuple_cut ht hs pl pu (by rw[hlen];exact hw) ?_ (by rw[hlen];exact hz)
 rw[hlen]
 refine⟨.ref s.heap.objs.size,_,I.laid (t':=s.toks) (o:=.tup (cutV xs lo hi)) (fun b ob q=>Heap.get?_push_of_some _ q) (Nat.le_refl _) ?_,rfl,q _ (I.hok.fresh (Nat.le_refl _))⟩
 exact⟨Nat.le_trans (cutV_length xs lo hi) hz,_,(r.drop (HT.sIx xs.length 0 lo)).take (HT.sIx xs.length xs.length hi - HT.sIx xs.length 0 lo),IsTup.new _ _⟩
end
end L2
namespace L2
open PySem PySem.Spec PyProof.Rows
noncomputable def ixN (n:Nat) (i:Int):Option Nat:=if 0≤i then (if i<n then some i.toNat else none) else if -(n:Int)≤i then some (i+n).toNat else none
noncomputable def atI {α:Type}(xs:List α) (i:Int):Option α:=(ixN xs.length i).bind fun j=>xs[j]?
theorem ixN_seq {n:Nat}{i:Int}{j:Nat}(h:ixN n i=some j):seqIndex? i n=some j∧j<n ∧ -(n:Int)≤i∧i<n:=by
 unfold ixN at h
 by_cases h0:0≤i
 ·rw[if_pos h0] at h
  by_cases h1:i<n
  ·rw[if_pos h1] at h
   have e:i.toNat=j:=Option.some.inj h
   exact⟨by rw[seqIndex_of h0 h1,e],by omega,by omega,h1⟩
  ·rw[if_neg h1] at h;cases h
 ·rw[if_neg h0] at h
  by_cases h1 : -(n:Int)≤i
  ·rw[if_pos h1] at h
   have e:(i+n).toNat=j:=Option.some.inj h
   exact⟨by rw[seqIndex_neg (by omega) h1,e],by omega,h1,by omega⟩
  ·rw[if_neg h1] at h;cases h
theorem atI_get {α:Type}{xs:List α}{i:Int}{v:α}(h:atI xs i=some v):∃ j,seqIndex? i xs.length=some j∧xs[j]?=some v∧j<xs.length ∧ -(xs.length:Int)≤i∧i<xs.length:=by
 unfold atI at h
 cases e:ixN xs.length i with
 | none=>rw[e] at h;cases h
 | some j =>
   rw[e] at h
   obtain⟨h1,h2,h3,h4⟩:=ixN_seq e
   exact⟨j,h1,h,h2,h3,h4⟩
noncomputable def PlainIx (b:Expr):Prop:=∀ o i,subscripted b false o i=operate [o,i] (getItem o i)
noncomputable def IxR (X:Cx)(r:R2):Prop :=
 ∀(value slice:Expr)(pins:List (Addr×Obj)) (s:Shared)(σ:St)(H:Hp)(x y:V)(v u:Value)(Q:VK),Inv X pins σ H s→RelV x v→RelV y u→r x y H Q →
  subscripted slice false v u=operate [v,u] (getItem v u)→wpAny (model X.prog X.w) X.A (subscriptTail value slice v u) (EP X pins σ Q) X.xe s
noncomputable def MtR (X:Cx)(id:String)(r:V→List V→Hp→VK→Prop):Prop :=
 ∀(pins:List (Addr×Obj)) (s:Shared)(σ:St)(H:Hp)(x:V)(xs:List V)(v:Value)(us:List Value)(Q:VK),Inv X pins σ H s→RelV x v→Vals xs us→r x xs H Q →
  wpAny (model X.prog X.w) X.A (call (.builtin id) (v::us)) (EP X pins σ Q) X.xe s
section
variable {X:Cx}{a b:Expr}{ta tb:TE}{pos:Pos}
theorem IxR.or {r r':R2}(h:IxR X r)(h':IxR X r'):IxR X (fun x y H Q=>r x y H Q∨r' x y H Q):=by
 intro value slice pins s σ H x y v u Q I rx ry q hs
 rcases q with q|q
 ·exact h value slice pins s σ H x y v u Q I rx ry q hs
 ·exact h' value slice pins s σ H x y v u Q I rx ry q hs
theorem pe_ix {r:R2}(hr:IxR X r)(ha:PE X a ta)(hb:PE X b tb)(hs:PlainIx b):PE X (.Subscript a b pos) (tOp r ta tb):=by
 intro pins s σ H Q I h
 exact Subscript_ (binT ha hb I h fun v u s2 x y H2 I2 rx ry q=>hr a b pins s2 σ H2 x y v u Q I2 rx ry q (hs _ _))
noncomputable def rIxL (K:PySem.W.Frag):R2:=fun x y H Q=>∃ p xs i v,x=.ref p∧y=.int i∧SqL K H p xs∧atI xs i=some v∧Q v H
noncomputable def rIxT (K:PySem.W.Frag):R2:=fun x y H Q=>∃ p xs i v,x=.ref p∧y=.int i∧SqT K H p xs∧atI xs i=some v∧Q v H
noncomputable def rIxS:R2:=fun x y H Q=>∃ z i c,x=.str z∧y=.int i∧z.length≤sizeLine∧atI z.cps.toList i=some c∧Q (.str ⟨#[c]⟩) H
theorem ix_list:IxR X (rIxL X.K):=by
 intro value slice pins s σ H x y v u Q I rx ry h hs
 obtain⟨p,xs,i,z,rfl,rfl,hq,he,q⟩:=h
 cases rx
 obtain⟨t,rfl⟩:=ry
 obtain⟨its,r,pl,hz⟩:=I.list hq
 obtain⟨j,h1,h2,h3,h4,h5⟩:=atI_get he
 obtain⟨w,ew,rw'⟩:=r.get h2
 have hl:=r.length
 have hn:=line63
 have fin:EP X pins σ Q w s:=⟨z,H,I,rw',q⟩
 by_cases h0:0≤i
 ·have hj:i.toNat=j:=by
   rw[seqIndex_of h0 h5] at h1
   exact Option.some.inj h1
  exact item_listR pl.isList h0 (by omega) (by rw[hj];simpa using ew) fin hs
 ·have hj:(i+(its.toArray.size:Int)).toNat=j:=by
   rw[seqIndex_neg (by omega) h4] at h1
   rw[List.size_toArray,← hl]
   exact Option.some.inj h1
  exact subscriptTail_builtinR (x:=w) pl.isList.typeIs slot_list_getitem.lookup
   (wpAny_getItem_list_neg (Q:=fun r s'=>r=w∧EP X pins σ Q r s') pl.isList (by omega) (by rw[List.size_toArray]<;>omega) (by omega) (by rw[hj];simpa using ew) ⟨rfl,fin⟩) hs
theorem ix_tup:IxR X (rIxT X.K):=by
 intro value slice pins s σ H x y v u Q I rx ry h hs
 obtain⟨p,xs,i,z,rfl,rfl,hq,he,q⟩:=h
 cases rx
 obtain⟨t,rfl⟩:=ry
 obtain⟨its,r,pl,hz⟩:=I.tuple hq
 obtain⟨j,h1,h2,h3,h4,h5⟩:=atI_get he
 obtain⟨w,ew,rw'⟩:=r.get h2
 have hl:=r.length
 have hn:=line63
 have fin:EP X pins σ Q w s:=⟨z,H,I,rw',q⟩
 exact subscriptTail_builtinR (x:=w) pl.typeIs slot_tuple_getitem.lookup
  (getItem_tuple (j:=j) (Q:=fun r s'=>r=w∧EP X pins σ Q r s') pl (by omega) (by omega) (by rw[List.size_toArray,← hl];exact h1) (by simpa using ew) ⟨rfl,fin⟩) hs
theorem ix_str:IxR X rIxS:=by
 intro value slice pins s σ H x y v u Q I rx ry h hs
 obtain⟨z,i,c,rfl,rfl,hz,he,q⟩:=h
 obtain⟨t,rfl⟩:=rx
 obtain⟨t',rfl⟩:=ry
 obtain⟨j,h1,h2,h3,h4,h5⟩:=atI_get he
 have hl:z.cps.toList.length=z.length:=by simp [Str.length]
 rw[hl] at h1 h4 h5
 have hn:=line63
 exact tail_any (typeIs_str s z t) slot_str_getitem.lookup (getItem_str (c:=c) (by
  have e1:decide (i < -(2 ^ 63:Int))=false:=decide_eq_false (by omega)
  have e2:decide (i≥2 ^ 63)=false:=decide_eq_false (by omega)
  rw[e1,e2,Bool.or_false]) (by rw[h1];simpa using h2) ⟨.str ⟨#[c]⟩,H,I.tok _,⟨_,rfl⟩,q⟩) hs
noncomputable def rIx (K:PySem.W.Frag):R2:=fun x y H Q=>rIxL K x y H Q∨rIxT K x y H Q∨rIxS x y H Q
theorem ix_seq:IxR X (rIx X.K):=ix_list.or (ix_tup.or ix_str)
theorem slice_bounds (lo hi:Option Int) (n:Nat):(sliceBounds lo hi none n).1=((HT.sIx n 0 lo:Nat):Int)∧(sliceBounds lo hi none n).2.1=((HT.sIx n n hi:Nat):Int)∧(sliceBounds lo hi none n).2.2=1:=by
 refine⟨?_,?_,rfl⟩
 ·cases lo with
  | none=>simp [sliceBounds,HT.sIx]
  | some i =>
    simp only[sliceBounds,HT.sIx,Option.getD_none,show(1:Int)>0 by decide,if_true]
    by_cases h:i<0
    ·simp only[h,if_true]<;>omega
    ·simp only[h,if_false]<;>omega
 ·cases hi with
  | none=>simp [sliceBounds,HT.sIx]
  | some i =>
    simp only[sliceBounds,HT.sIx,Option.getD_none,show(1:Int)>0 by decide,if_true]
    by_cases h:i<0
    ·simp only[h,if_true]<;>omega
    ·simp only[h,if_false]<;>omega
theorem slicePick_cut (its:List Value)(lo hi:Option Int):slicePick its.toArray lo hi none=((its.drop (HT.sIx its.length 0 lo)).take (HT.sIx its.length its.length hi - HT.sIx its.length 0 lo)).toArray:=by
 obtain⟨h1,h2,h3⟩:=slice_bounds lo hi its.toArray.size
 unfold slicePick
 rw[h1,h2,h3]
 simp only[sliceRange_one,pick_run,List.size_toArray]<;>rfl
noncomputable def rSlL (K:PySem.W.Frag):V→Option Int→Option Int→Hp→VK→Prop:=fun x lo hi H Q=>∃ a xs,x=.ref a∧SqL K H a xs∧∀ p,H p=none→Q (.ref p) (upd H p (.lst (cutV xs lo hi)))
theorem sl_list:SlR X (rSlL X.K):=by
 intro pins s σ H x v vl vu lo hi sl Q I rx hs pl pu h
 obtain⟨a,xs,rfl,hx,q⟩:=h
 cases rx
 obtain⟨its,r,ht,hz⟩:=I.list hx
 have hlen:=r.length
 refine⟨"list",_,slot_list_getitem.lookup,ht.isList.typeIs,?_⟩
 refine wpAny_getItem_list_slice ht.isList hs pl pu .none (by simp) ?_ (by rw[List.size_toArray]<;>omega)
 rw[slicePick_cut,← hlen]
 refine⟨.ref s.heap.objs.size,_,I.laid (t':=s.toks) (o:=.lst (cutV xs lo hi)) (fun b ob q=>Heap.get?_push_of_some _ q) (Nat.le_refl _) ?_,rfl,q _ (I.hok.fresh (Nat.le_refl _))⟩
 exact⟨Nat.le_trans (cutV_length xs lo hi) hz,_,0,(r.drop (HT.sIx xs.length 0 lo)).take (HT.sIx xs.length xs.length hi - HT.sIx xs.length 0 lo),Heap.get?_push_size _ rfl⟩
theorem call_len_seq:CallR X (.builtin "len") (fun xs H Q=>∃ p ys,xs=[.ref p]∧(SqL X.K H p ys∨SqT X.K H p ys)∧Q (.int ys.length) H):=by
 intro pins s σ H xs us Q I r h
 obtain⟨p,ys,rfl,hq,q⟩:=h
 obtain⟨u,rfl,rx⟩:=vals1 r
 cases rx
 have hn:=line63
 rcases hq with hq|hq
 ·obtain⟨its,r',pl,hz⟩:=I.list hq
  have hlen:=r'.length
  exact Calls.call_len_list pl.isList (by simp only[List.size_toArray]<;>omega) ⟨.int ys.length,H,I.tok _,⟨s.toks+1,by rw[List.size_toArray,hlen]⟩,q⟩
 ·obtain⟨its,r',pl,hz⟩:=I.tuple hq
  have hlen:=r'.length
  exact len_tuple pl (by simp only[List.size_toArray]<;>omega) ⟨.int ys.length,H,I.tok _,⟨s.toks+1,by rw[List.size_toArray,hlen]⟩,q⟩
theorem call_len_str:CallR X (.builtin "len") (fun xs H Q=>∃ z,xs=[.str z]∧z.length≤sizeLine∧Q (.int z.length) H):=by
 intro pins s σ H xs us Q I r h
 obtain⟨z,rfl,hz,q⟩:=h
 obtain⟨u,rfl,t,rfl⟩:=vals1 r
 have hn:=line63
 exact len_str (by omega) ⟨.int z.length,H,I.tok _,⟨_,rfl⟩,q⟩
theorem call_tuple_of:CallR X (.type "tuple") (fun xs H Q=>∃ p ys,xs=[.ref p]∧((SqL X.K H p ys∧∀ l,H l=none→Q (.ref l) (upd H l (.tup ys)))∨(SqT X.K H p ys∧Q (.ref p) H))):=by
 intro pins s σ H xs us Q I r h
 obtain⟨p,ys,rfl,h⟩:=h
 obtain⟨u,rfl,rx⟩:=vals1 r
 cases rx
 rcases h with⟨hq,q⟩|⟨hq,q⟩
 ·obtain⟨its,r',pl,hz⟩:=I.list hq
  have hlen:=r'.length
  refine call_tuple_list pl.isList (fun h' kp=>?_) (by simp only[List.size_toArray]<;>omega)
  have I1:Inv X pins σ H {s with heap:=h'}:=I.kept (t':=s.toks) kp
  have I2:Inv X pins σ (upd H h'.objs.size (.tup ys)) {s with heap:=h'.push {cls:=.type "tuple",data:=.seq its.toArray}} :=
   I1.laid (t':=s.toks) (fun b o e=>Heap.get?_push_of_some _ e) (Nat.le_refl _) (show ObjOk X.prog X.w _ _ _ (.tup ys) from⟨hz,its,r',IsTup.new _ _⟩)
  exact⟨.ref h'.objs.size,_,I2,rfl,q _ (I1.hok.fresh (Nat.le_refl _))⟩
 ·obtain⟨its,r',pl,hz⟩:=I.tuple hq
  exact call_tuple_same pl ⟨.ref p,H,I,rfl,q⟩
noncomputable def tyV (K:PySem.W.Frag)(T:String)(x:V)(H:Hp):Prop:=match x with
 | .str _=>T="str"
 | .int _=>T="int"
 | .ref p=>(T="list"∧∃ xs,SqL K H p xs)∨(T="tuple"∧∃ o,K.lookup p=some o∧o.cls=.type "tuple"∧o.dict=none) ∨
   (T="dict"∧((∃ kvs,H p=some (.dK kvs))∨∃ kvs,H p=some (.dT kvs)))∨(T="set"∧∃ S n,H p=some (.set S n))
 | _=>False
theorem tyV_is {pins:List (Addr×Obj)}{σ:St}{H:Hp}{s:Shared}{T:String}{x:V}{v:Value}(I:Inv X pins σ H s)(r:RelV x v)(ty:tyV X.K T x H) :
  s.TypeIs v T∧∀ a,v=.ref a→∃ ob,s.heap.get? a=some ob∧ob.dict=none:=by
 cases x with
 | str z =>
   obtain⟨t,rfl⟩:=r
   cases (show T="str" from ty)
   exact⟨typeIs_str s z t,fun _ e=>nomatch e⟩
 | int i =>
   obtain⟨t,rfl⟩:=r
   cases (show T="int" from ty)
   exact⟨typeIs_int s i t,fun _ e=>nomatch e⟩
 | ref p =>
   cases r
   rcases ty with⟨rfl,xs,hq⟩|⟨rfl,o,hk,hc,hd⟩|⟨rfl,hk⟩|⟨rfl,S,n,hk⟩
   ·obtain⟨its,_,pl,_⟩:=I.list hq
    refine⟨pl.isList.typeIs,fun a e=>?_⟩
    cases e
    obtain⟨o,n,e,c,hd,_⟩:=pl
    exact⟨o,e,hd⟩
   ·refine⟨⟨o,I.kIn p o hk,hc⟩,fun a e=>?_⟩
    cases e
    exact⟨o,I.kIn _ o hk,hd⟩
   ·have z:∃ o,s.heap.get? p=some o∧o.ExactDict:=by
     rcases hk with⟨kvs,hk⟩|⟨kvs,hk⟩
     ·obtain⟨_,_,_,_,o,_,_,e,ex,_⟩:=I.hok p _ hk
      exact⟨o,e,ex⟩
     ·obtain⟨_,_,_,_,o,_,_,e,ex,_⟩:=I.hok p _ hk
      exact⟨o,e,ex⟩
    obtain⟨o,e,ex⟩:=z
    refine⟨⟨o,e,ex.1⟩,fun a e2=>?_⟩
    cases e2
    exact⟨o,e,ex.2.1⟩
   ·obtain⟨o,_,_,_,e,ex,_⟩:=I.hok p _ hk
    refine⟨⟨o,e,ex.1⟩,fun a e2=>?_⟩
    cases e2
    exact⟨o,e,ex.2.1⟩
 | _=>exact False.elim ty
noncomputable def tBM (K:PySem.W.Frag)(T:String)(r:V→List V→Hp→VK→Prop)(to:TE)(t:TA):TE:=fun σ H Q=>to σ H fun x H1=>tyV K T x H1∧t σ H1 fun xs H2=>r x xs H2 Q
variable {o e:Expr}{es:List Expr}{to:TE}{t:TA}{name:Str}{apos cpos:Pos}{T id:String}{r:V→List V→Hp→VK→Prop}
theorem pe_bm (pa:PlainAttrs T)(slot:Slot T name id)(hty:typeOf (.builtin id)=pure (.type "method_descriptor")) (hm:MtR X id r)(ho:PE X o to)(ha:PA X (e::es) t)
  (hbase:attributeBase o name X.env (eval o X.env)=eval o X.env:=by rfl)
  (hfew:((backTo cpos (starEach (e::es) X.env)).all (fun x=>!x.1)&&(backToKw cpos (keywordEach [] X.env)).all (fun x=>x.1.isSome)
   && decide ((e::es).length+([]:List Keyword).length+(if ([]:List Keyword).isEmpty then 0 else 1)<30))=true:=by rfl)
  (hline:(apos.endLine==cpos.line)=true:=by rfl) (hs:starEach (e::es) X.env=(false,eval e X.env)::starEach es X.env:=by rfl) (hplain:(backTo cpos (starEach es X.env)).any (·.1)=false:=by rfl) :
  PE X (.Call (.Attribute o name apos) (e::es) [] cpos) (tBM X.K T r to t):=by
 intro pins s σ H Q I h
 refine wpAny_Call_method_late hbase hfew hline rfl (thn (ho pins s σ H _ I h) fun v s1 ⟨x,H1,I1,r1,ty,q1⟩=>?_)
 obtain⟨h1,h2⟩:=tyV_is I1 r1 ty
 refine⟨T,id,pa,slot,hty,h1,h2,?_⟩
 have hA:=ha cpos pins s1 σ H1 _ I1 q1
 rw[hs] at hA ⊢
 refine Calls.callWith_builtin (by show(false||(backTo cpos (starEach es X.env)).any (·.1))=false;rw[hplain]<;>rfl) (Calls.evalArgs_plain ?_)
 exact thn hA fun us s2 ⟨vs,H2,I2,r2,q2⟩=>hm pins s2 σ H2 x vs v us Q I2 r1 r2 q2
end
end L2
namespace L2
open PySem PySem.Spec PyProof.Rows
noncomputable def MtM (X:Cx)(id:String)(r:V→List V→Hp→VK→Prop):Prop :=
 ∀(pins:List (Addr×Obj)) (s:Shared)(σ:St)(H:Hp)(x:V)(xs:List V)(v:Value)(us:List Value)(Q:VK),Inv X pins σ H s→RelV x v→Vals xs us→r x xs H Q →
  wpAny (model X.prog X.w) X.A (call (.builtin id) (v::us)) (EP X pins σ Q) X.xe s
theorem Vals.one:∀{x:V}{us:List Value},Vals [x] us→∃ u,us=[u]∧RelV x u
 | _,_,.cons r .nil=>⟨_,rfl,r⟩
theorem Vals.rep {xs:List V}{us:List Value}(h:Vals xs us):∀ k:Nat,Vals (List.replicate k xs).flatten (List.replicate k us).flatten
 | 0=>.nil
 | k+1=>by
   rw[List.replicate_succ,List.replicate_succ,List.flatten_cons,List.flatten_cons]
   exact Vals.append h (Vals.rep h k)
theorem foldl_rep (its:List Value):∀(k:Nat)(acc:List Value),
  List.foldl (fun x1 x2=>x1++x2) acc.toArray (List.replicate k its.toArray)=(acc++(List.replicate k its).flatten).toArray
 | 0,acc=>by simp
 | k+1,acc=>by
   have e:acc.toArray++its.toArray=(acc++its).toArray:=by simp
   have e2:(acc++its)++(List.replicate k its).flatten=acc++(List.replicate (k+1) its).flatten:=by
    rw[List.replicate_succ,List.flatten_cons,List.append_assoc]
   rw[← e2,← foldl_rep its k (acc++its),← e,List.replicate_succ,List.foldl_cons]
section
variable {X:Cx}{pins:List (Addr×Obj)}{σ:St}{H:Hp}{s:Shared}{l b:Addr}{xs ys zs:List V}
theorem Inv.lset {its its':List Value}{n:Nat}{f:Array Value→Array Value}{t':Nat}(I:Inv X pins σ H s)(hH:H l=some (.lst xs))
  (e:s.heap.get? l=some {cls:=.type "list",data:=.seq its.toArray n}) (hf:f its.toArray=its'.toArray)(hv:Vals ys its')(hz:ys.length≤sizeLine) :
  Inv X pins σ (upd H l (.lst ys)) {s with heap:=s.heap.update l (Obj.mapSeq f),toks:=t'}:=by
 have q:=PySem.IsL.update e f
 rw[hf] at q
 refine I.write (x:=l) (e:=l) (by rw[hH];exact trivial) (.inl rfl) (fun b' u hb hu=>(Heap.get?_update_other s.heap (Obj.mapSeq f) (Ne.symm hb)).trans hu) ⟨_,q⟩ ?_
 exact⟨hz,its',_,hv,q⟩
theorem Inv.lnew {its:List Value}{t':Nat}(I:Inv X pins σ H s)(hv:Vals ys its)(hz:ys.length≤sizeLine) :
  Inv X pins σ (upd H s.heap.objs.size (.lst ys)) {s with heap:=s.heap.push {cls:=.type "list",data:=.seq its.toArray},toks:=t'} :=
 I.laid (fun _ _ q=>Heap.get?_push_of_some _ q) (Nat.le_refl _) ⟨hz,its,0,hv,Heap.get?_push_size _ rfl⟩
theorem Inv.fresh (I:Inv X pins σ H s):H s.heap.objs.size=none:=I.hok.fresh (Nat.le_refl _)
theorem Inv.lstM (I:Inv X pins σ H s)(hH:H l=some (.lst xs)):xs.length≤sizeLine∧∃(its:List Value) (n:Nat),Vals xs its∧xs.length=its.length∧s.heap.get? l=some {cls:=.type "list",data:=.seq its.toArray n}:=by
 obtain⟨z,its,n,r,e⟩:=I.hok l _ hH
 exact⟨z,its,n,r,r.length,e⟩
theorem notLongL {n:Nat}(h:n≤sizeLine):Builtin.List.listTooLong n=false:=by
 unfold Builtin.List.listTooLong
 exact decide_eq_false (by omega)
end
section
variable {X:Cx}
noncomputable def rAppend:V→List V→Hp→VK→Prop:=fun x vs H Q=>∃ l xs y,x=.ref l∧vs=[y]∧H l=some (.lst xs)∧xs.length<sizeLine∧Q .non (upd H l (.lst (xs++[y])))
theorem mt_append:MtM X "list.append" rAppend:=by
 intro pins s σ H x vs v us Q I rx rv h
 obtain⟨l,xs,y,rfl,rfl,hH,hz,q⟩:=h
 cases rx
 obtain⟨u,rfl,ru⟩:=rv.one
 obtain⟨z,its,n,r,hl,e⟩:=I.lstM hH
 refine call_meets F.slot_list_append ⟨_,e,rfl⟩ F.entry_list_append (F.args_list_append_2 _ _) (PySem.list_append l its.toArray n u (by rw[List.size_toArray];omega)) ⟨e,?_⟩
 refine⟨.non,_,I.lset (its':=its++[u]) hH e (by simp) (r.append (.cons ru .nil)) ?_,rfl,q⟩
 rw[List.length_append,List.length_singleton]
 omega
theorem len_rep {α:Type}(xs:List α) (k:Nat):(List.replicate k xs).flatten.length=k * xs.length:=by
 induction k with
 | zero=>simp
 | succ k ih=>rw[List.replicate_succ,List.flatten_cons,List.length_append,ih,Nat.succ_mul,Nat.add_comm]
end
section
variable {prog:Program}{w:World}{A:Around}{E:Value→Shared→Prop}{s:Shared}
end
section
variable {X:Cx}
end
end L2
namespace Att
open PySem PySem.W PySem.Calls PyProof.Rows
theorem ints_of_wellAll {P:Params}{h:Heap}:∀(ns:List Int)(vs:List Value),WellAll P h vs (ns.map WData.int)→IntsAre vs ns:=by
 intro ns
 induction ns with
 | nil =>
   intro vs w
   rw[List.map_nil] at w
   cases w
   exact .nil
 | cons n ns ih =>
   intro vs w
   rw[List.map_cons] at w
   cases w with
   | cons a b =>
     cases a
     exact .cons _ _ (ih _ b)
theorem script_of {l:OpenLaw}{n:Nat}(hn:l.most=some n){P:Params}{h:Heap}{args:List WData}{vals:List Value}
  (hpre:l.row.toRowW.claim.pre args=true)(hwl:WellAll P h vals args) :
  ∃ a vs ns,vals=[Value.ref a]∧args=[WData.list (ns.map WData.int)]∧h.get? a=some {cls:=.type "list",data:=.seq vs.toArray}∧IntsAre vs ns∧ns.length≤n:=by
 have hsh:WShape.hasAll [] args [.list .int]=true:=(pre_splitW hpre).1
 have hc:l.pre.holds [] {args:=args}=true:=(pre_splitW hpre).2
 obtain⟨d,r,rfl,h1,h2⟩:=hasAllW_cons hsh
 obtain rfl:=hasAllW_nil h2
 obtain⟨xs,rfl,h3⟩:=hasW_list h1
 obtain⟨ns,rfl⟩:=items_int h3
 have hlen:ns.length≤n:=by
  unfold OpenLaw.pre at hc
  have h4:(WTm.not (.lt (.lit (.int (n:Int))) (.len (.arg 0)))).holds [] {args:=[.list (ns.map .int)]}=true:=by
   have h4:=(holds_andW hc).1
   rw[hn] at h4
   exact h4
  have h5:=condW_of h4 (w_not (w_lt w_lit (w_len_list (w_arg rfl))))
  rw[List.length_map] at h5
  refine Nat.le_of_not_lt fun q=>?_
  have q':(n:Int)<((ns.length:Nat):Int):=by omega
  first
   | (rw[decide_eq_true q'] at h5;exact absurd h5 (by decide))
   | (simp at h5;omega)
 cases hwl with
 | cons w1 w2 =>
   cases w2
   cases w1 with
   | list ho hall=>exact⟨_,_,ns,rfl,rfl,ho,ints_of_wellAll ns _ hall,hlen⟩
theorem post_true (l:OpenLaw)(args:List WData):l.row.toRowW.claim.post args (.bool true) args=true :=
 postW_of (r:=l.row.toRowW) (X:=(true==true))
  (show WShape.has [] (.bool true) .bool=true by first|rfl|decide|simp [WShape.has,WShape.arms,WShape.armsAll])
  (show(WTm.eq .res (.lit (.bool true))).value [] {args:=args,res:=some (.bool true),after:=args}=some (.bool (true==true)) from w_eq_bool (w_res rfl) w_lit) rfl
theorem attach_call {l:OpenLaw}{n:Nat}{q:Program}{loose:List Str}{XP:(Str→Option Value)→Heap→Prop}{YP:World→Heap→Prop}{d:DefRec}
  (hn:l.most=some n)(hdf:d.params.defaults=[])
  (call:∀(w:World)(s₀ s₁:Shared)(mg mb:Str→Option Value)(fa:Addr)(o:Obj)(pm cd doc:Value)(a:Addr)(vs:List Value)(ns:List Int),
   Ground q loose [] XP w s₀ mg mb s₁.heap→YP w s₁.heap →
   s₁.heap.get? fa=some o→o.data=.func (docDef d.name d.params d.body d.scope pm cd doc)→s₁.heap.CodeRec cd d.name→mg d.name=some (.ref fa) →
   s₁.heap.get? a=some {cls:=.type "list",data:=.seq vs.toArray}→IntsAre vs ns→ns.length≤n→s₁.gens=#[] →
   codeAny (model l.prog w) callerA (.call (.ref fa) ⟨[.ref a],[]⟩) (fun r s'=>r=.ok (.ret (.bool true))∧OldK s₁.heap s'.heap∧s'.os=s₁.os∧AllBare s'.gens) s₁) :
  WalkO q loose XP YP l.row.toRowW d [] (fun f vs=>PySem.call f vs):=by
 intro w s₀ s₁ mg mb G Y fa o pm cd doc dV kV ho hd hcd hD hmg hg args vals as hpre hlay hrd hwl hlo
 obtain rfl:dV=.none:=Dflts.none hD hdf
 obtain rfl:kV=.none:=Dflts.noKw hD
 obtain⟨a,vs,ns,rfl,rfl,hobj,hints,hlen⟩:=script_of hn hpre hwl
 refine enter_call (codeAny_mono (call w s₀ s₁ mg mb fa o pm cd doc a vs ns G Y ho (fd_plain hd) hcd hmg hobj hints hlen hg) fun r s' hq=>?_)
 obtain⟨rfl,h2,h3,h4⟩:=hq
 exact⟨.inl ⟨.bool true,.bool true,[],rfl,fun _=>rfl,.bool true,post_true l _,fun _=>⟨List.Pairwise.nil,fun _ hm=>(nomatch hm)⟩⟩,h2,h3,h4⟩
section
variable {prog:Program}{w:World}{A:Around}{E:Value→Shared→Prop}{s:Shared}{K:Frag}
end
end Att
namespace L2
open PySem PySem.Spec PyProof.Rows
theorem vals_ints:∀{vs:List Value}{ns:List Int},IntsAre vs ns→Vals (ns.map V.int) vs
 | _,_,.nil=>.nil
 | _,_,.cons n t h=>.cons ⟨t,rfl⟩ (vals_ints h)
noncomputable def Only (H:Hp):Prop:=∀ b,H b=none∨∃ o xs,H b=some (.frz o (.lst xs))
theorem law_call {P:Program}{w:World}{K:PySem.W.Frag}{mg mb:Str→Option Value}{CX:CXT}{k:Nat}{fa a:Addr}{fd:FuncData}{x:Str}{sp:Sp}{s₁:Shared}{vs:List Value}{ns:List Int}
  (KX:K.In s₁.heap)(hns:s₁.heap.Ns mainGlobals mg)(hb:s₁.heap.Ns builtinsNs mb)(hbb:∀ x:Str,x≠"__name__"→mb x=bootBuiltins x)(hlim:s₁.heap.NoLimit)(hg:s₁.gens=#[])
  (ha:s₁.heap.get? a=some {cls:=.type "list",data:=.seq vs.toArray}) (hi:IntsAre vs ns)(hl:ns.length≤sizeLine)(hr:Room k callerA)
  (F:∀ base:Heap,K.In base→base.Ns mainGlobals mg→FnOk P w K mg base CX k fa fd [x] sp)(hbind:∀(s:Shared)(u:Value),BindsTo s fd ⟨[u],[]⟩ [(x,u)])
  (hsp:∀ H:Hp,Only H→SqL K H a (ns.map V.int)→sp [.ref a] H (fun v _=>v=.bl true) fun _ _ _=>False)
  (hCX:∀ H e s',CX [] H s₁ (fun _ _ _=>False) e s'→False) :
  codeAny (model P w) callerA (.call (.ref fa) ⟨[.ref a],[]⟩) (fun r s'=>r=.ok (.ret (.bool true))∧OldK s₁.heap s'.heap∧s'.os=s₁.os∧AllBare s'.gens) s₁:=by
 have rv:=vals_ints hi
 have lenV:=hi.length
 have core:∀ H:Hp,Only H→SqL K H a (ns.map V.int)→HOk P w H s₁.heap→(∀ b,H b≠none→b=a)→(H a≠none→K.lookup a=none) →
   codeAny (model P w) callerA (.call (.ref fa) ⟨[.ref a],[]⟩) (fun r s'=>r=.ok (.ret (.bool true))∧OldK s₁.heap s'.heap∧s'.os=s₁.os∧AllBare s'.gens) s₁:=by
  intro H hO hS hok hA hK
  have base_of:∀{b:Addr}{o:Obj},s₁.heap.get? b=some o→H b=none→(hidT s₁.heap H).get? b=some o:=fun e n=>hidT_get e n
  have noA:∀{b:Addr}{o:Obj}{es:Array DictEntry}{ep:Nat},s₁.heap.get? b=some o→o.data=.dict es ep→H b=none:=fun{b o es ep} e d=>by
   cases q:H b with
   | none=>rfl
   | some u =>
     have e':b=a:=hA b (by rw[q];simp)
     subst e'
     rw[ha] at e;cases e
     have d':Data.seq vs.toArray _=Data.dict es ep:=d
     cases d'
  have nsK:∀{b:Addr}{m:Str→Option Value},s₁.heap.Ns b m→(hidT s₁.heap H).Ns b m:=fun{b m} ⟨o,es,ep,e,d,r⟩=>⟨o,es,ep,base_of e (noA e d),d,r⟩
  have hKb:K.In (hidT s₁.heap H):=fun b o e=>base_of (KX b o e) (by
   cases q:H b with
   | none=>rfl
   | some u =>
     have e':b=a:=hA b (by rw[q];simp)
     subst e'
     rw[hK (by rw[q];simp)] at e;cases e)
  have hM:Mod K mg (hidT s₁.heap H):=⟨hKb,nsK hns,⟨mb,nsK hb,hbb⟩,let ⟨mc,h1,h2⟩:=hlim;⟨mc,nsK h1,h2⟩⟩
  have e0:Env0 P w K mg (hidT s₁.heap H) callerA [] s₁ H:=⟨rfl,hM,fun b o e=>of_hidT e,Nat.le_of_eq (hidT_size _ _),trivial,fun b hb=>absurd (show b∈([]:List Addr) from hb) (by simp),hok,.of_eq hg⟩
  refine codeAny_mono ((F _ hKb (nsK hns)).run callerA [] s₁ H ⟨[.ref a],[]⟩ [.ref a] [.ref a] _ _ hr e0 (hbind s₁ (.ref a)) (.cons rfl .nil) (hsp H hO hS)) fun r s' h=>?_
  cases r with
  | error e=>exact(hCX H e s' h).elim
  | ok fl =>
    cases fl with
    | next=>exact False.elim h
    | brk=>exact False.elim h
    | cont=>exact False.elim h
    | ret u =>
      obtain⟨v,H',os,bare,un,hok',r',q⟩:=h
      have q':v=.bl true:=q
      subst q'
      obtain rfl:u=Value.bool true:=r'
      refine⟨rfl,OldK.of_keep fun b o e=>?_,os,bare⟩
      cases q:H b with
      | none=>exact un.keep b o e q (by intro z;exact absurd (show b∈([]:List Addr) from z) (by simp)) (by simp)
      | some u =>
        rcases hO b with z|⟨ob,xs,z⟩
        ·rw[q] at z;cases z
        ·have z2:=un.frzs b ob _ z
         obtain⟨e1,_⟩:=hok b _ z
         obtain⟨e2,_⟩:=hok' b _ z2
         rw[e] at e1;cases e1
         exact e2
 cases hk:K.lookup a with
 | some o =>
   have e:=KX a o hk
   rw[ha] at e
   cases e
   refine core (fun _=>none) (fun _=>.inl rfl) (.inr ⟨_,vs.toArray,_,hk,rfl,rfl,rfl,by rw[List.size_toArray,lenV];exact hl,by simpa using rv⟩) (fun b u z=>by have z':(none:Option HO)=some u:=z;cases z') (fun b z=>absurd rfl z) fun z=>absurd rfl z
 | none =>
   refine core (fun b=>if b=a then some (.frz {cls:=.type "list",data:=.seq vs.toArray} (.lst (ns.map V.int))) else none) (fun b=>?_) (.inl (.inr ⟨{cls:=.type "list",data:=.seq vs.toArray},if_pos rfl⟩)) (fun b u z=>?_) (fun b z=>?_) fun _=>hk
   ·by_cases hb:b=a
    ·exact .inr ⟨_,_,if_pos hb⟩
    ·exact .inl (if_neg hb)
   ·by_cases hb:b=a
    ·have z':=(if_pos hb).symm.trans z
     cases z'
     subst hb
     exact⟨ha,by rw[List.length_map];exact hl,vs,_,rv,ha⟩
    ·have z':=(if_neg hb).symm.trans z
     cases z'
   ·by_cases hb:b=a
    ·exact hb
    ·exact absurd (if_neg hb) z
end L2
namespace L2
open PySem PySem.Spec PyProof.Rows
theorem walk_of {l:PySem.W.OpenLaw}{n k:Nat}{q:Program}{loose:List Str}{XP:(Str→Option Value)→Heap→Prop}{YP:World→Heap→Prop}{d:DefRec}{K:Params→PySem.W.Frag}{CX:World→CXT}{sp:World→Sp}{x:Str}
  (hn:l.most=some n)(hn2:n≤sizeLine)(hdf:d.params.defaults=[])(hr:Room k callerA)
  (hY:∀(w:World)(h:Heap),YP w h→(K w.params).In h)
  (F:∀(w:World)(mg:Str→Option Value)(fa:Addr)(h:Heap),(K w.params).In h→h.Ns mainGlobals mg→mg d.name=some (.ref fa) →
   ∃ fd:FuncData,(∀(s:Shared)(u:Value),BindsTo s fd ⟨[u],[]⟩ [(x,u)]) ∧
     ∀ base:Heap,(K w.params).In base→base.Ns mainGlobals mg→FnOk l.prog w (K w.params) mg base (CX w) k fa fd [x] (sp w))
  (hsp:∀(w:World)(H:Hp)(a:Addr)(ns:List Int),ns.length≤n→Only H→SqL (K w.params) H a (ns.map V.int)→sp w [.ref a] H (fun v _=>v=.bl true) fun _ _ _=>False)
  (hCX:∀(w:World)(H:Hp)(s:Shared)(e:Value)(s':Shared),CX w [] H s (fun _ _ _=>False) e s'→False) :
  PySem.W.WalkO q loose XP YP l.row.toRowW d [] (fun f vs=>PySem.call f vs):=by
 refine Att.attach_call hn hdf fun w s₀ s₁ mg mb fa o pm cd doc a vs ns G Y ho hd hcd hmg hobj hints hlen hg=>?_
 have KX:=hY w _ Y
 obtain⟨fd,hb,hF⟩:=F w mg fa _ KX G.T.g hmg
 exact law_call KX G.T.g G.T.b G.T.builtins G.T.nolimit hg hobj hints (Nat.le_trans hlen hn2) hr hF hb (fun H hO hS=>hsp w H a ns hlen hO hS) fun H e s'=>hCX w H s₁ e s'
theorem walk_ofK {l:PySem.W.OpenLaw}{n k:Nat}{q:Program}{loose:List Str}{XP:(Str→Option Value)→Heap→Prop}{YP:World→Heap→Prop}{d:DefRec}{K:Params→PySem.W.Frag}{CX:CXT}{sp:PySem.W.Frag→Sp}{x:Str}
  (hn:l.most=some n)(hn2:n≤sizeLine)(hdf:d.params.defaults=[])(hr:Room k callerA)
  (hY:∀(w:World)(h:Heap),YP w h→(K w.params).In h)
  (F:∀(w:World)(mg:Str→Option Value)(fa:Addr)(h:Heap),(K w.params).In h→h.Ns mainGlobals mg→mg d.name=some (.ref fa) →
   ∃ fd:FuncData,(∀(s:Shared)(u:Value),BindsTo s fd ⟨[u],[]⟩ [(x,u)]) ∧
     ∀ base:Heap,(K w.params).In base→base.Ns mainGlobals mg→FnOk l.prog w (K w.params) mg base CX k fa fd [x] (sp (K w.params)))
  (hsp:∀(K:PySem.W.Frag)(H:Hp)(a:Addr)(ns:List Int),ns.length≤n→Only H→SqL K H a (ns.map V.int)→sp K [.ref a] H (fun v _=>v=.bl true) fun _ _ _=>False)
  (hCX:∀(H:Hp)(s:Shared)(e:Value)(s':Shared),CX [] H s (fun _ _ _=>False) e s'→False) :
  PySem.W.WalkO q loose XP YP l.row.toRowW d [] (fun f vs=>PySem.call f vs) :=
 walk_of (K:=K) (CX:=fun _=>CX) (sp:=fun w=>sp (K w.params)) hn hn2 hdf hr hY F (fun w H a ns h1 h2 h3=>hsp (K w.params) H a ns h1 h2 h3) fun _ H s e s'=>hCX H s e s'
end L2
namespace L2
open PySem PySem.Spec PyProof.Rows
noncomputable def defArgs (s:Stmt):Arguments:=match s with
 | .FunctionDef _ a _ _ _ _ _ _ _ _=>a
 | _=>{posonlyargs:=[],args:=[],vararg:=none,kwonlyargs:=[],kw_defaults:=[],kwarg:=none,defaults:=[]}
noncomputable def defBody (s:Stmt):List Stmt:=match s with
 | .FunctionDef _ _ b _ _ _ _ _ _ _=>b
 | _=>[]
noncomputable def defScope (s:Stmt):Scope:=match s with
 | .FunctionDef _ _ _ _ _ _ sc _ _ _=>sc
 | _=>{kind:=.function,names:=[],isGenerator:=false,isCoroutine:=false}
noncomputable abbrev CX0:CXT:=fun _ _ _ _ _ _=>False
noncomputable abbrev E0:XK:=fun _ _ _=>False
theorem pass0 {X:Cx}:Passes CX0 X E0:=fun _ _ _ _ _ _ _ h=>h.elim
structure Fun (K:PySem.W.Frag) (x qual:Str)(st:Stmt)(f:Addr)(fd:FuncData):Prop where
 ex:∃(oc:Value)(od:Option Addr)(kV doc pm:Value)(an:Option Addr)(cdv ct:Value)(osl:Array (Option Value)),
  fd=PySem.W.fnOf x qual (defArgs st) (defBody st) (defScope st) .none kV doc pm an cdv ct∧K.lookup f=some ⟨oc,od,.func fd,osl⟩∧PySem.W.codeIn K cdv qual=true
 kp:PySem.W.keepIn K (.ref f)=true
section
variable {P:Program}{w:World}{K:PySem.W.Frag}{mg:Str→Option Value}{base:Heap}
theorem Fun.ok {x qual:Str}{st:Stmt}{f:Addr}{fd:FuncData}{N ps:List Str}{k:Nat}{sp:Sp}(F:Fun K x qual st f fd)(S:FnScope N ps (defScope st)) (len:∀ vs H Q E,sp vs H Q E→vs.length=ps.length)
  (hbody:∀(cdv:Value)(A:Around)(outer:List Env)(s:Shared)(H:Hp)(vs:List V)(Q:VK)(E:XK),Room k (A.deeper (envOfC qual (defScope st) s.heap.objs.size f cdv))→sp vs H Q E →
   ∃ t,PSs (cxOf CX0 P w K mg base N qual (defScope st) f cdv A outer s H E).nox (defBody st) t∧t {nx:=fun _ H'=>Q .non H',rt:=Q} (start N vs) H):FnOk P w K mg base CX0 (k+1) f fd ps sp:=by
 obtain⟨oc,od,kV,doc,pm,an,cdv,ct,osl,rfl,lk,hcd⟩:=F.ex
 refine fn_of lk hcd S len fun A outer s H vs Q E hr hsp=>?_
 obtain⟨t,h,q⟩:=hbody cdv A outer s H vs Q E hr hsp
 exact⟨t,h.nox,q⟩
theorem Fun.binds {x qual:Str}{st:Stmt}{f:Addr}{fd:FuncData}{ps:List Str}(F:Fun K x qual st f fd)
  (h:∀(kV doc pm:Value)(an:Option Addr)(cdv ct:Value)(us:List Value),us.length=ps.length→bindArgs (PySem.W.fnOf x qual (defArgs st) (defBody st) (defScope st) .none kV doc pm an cdv ct) ⟨us,[]⟩=pure (ps.zip us)):Binds K fd ps []:=by
 obtain⟨oc,od,kV,doc,pm,an,cdv,ct,osl,rfl,lk,hcd⟩:=F.ex
 exact .all (h kV doc pm an cdv ct)
theorem fun_mk {x qual:Str}{st:Stmt}{f:Addr}{oc:Value}{od an:Option Addr}{osl:Array (Option Value)}{kV doc pm cdv ct:Value}(l:K.lookup f=some ⟨oc,od,.func (PySem.W.fnOf x qual (defArgs st) (defBody st) (defScope st) .none kV doc pm an cdv ct),osl⟩)
  (c:PySem.W.codeIn K cdv qual=true)(k:PySem.W.keepIn K (.ref f)=true):Fun K x qual st f (PySem.W.fnOf x qual (defArgs st) (defBody st) (defScope st) .none kV doc pm an cdv ct):=⟨⟨oc,od,kV,doc,pm,an,cdv,ct,osl,rfl,l,c⟩,k⟩
end
section
variable {X:Cx}
theorem pv (i:Nat){x:Str}{pos:Pos}(hN:X.N[i]?=some x:=by rfl)(hv:Vis X.env.scope x:=by first|exact Or.inl rfl|exact Or.inr (Or.inl rfl)|exact Or.inr (Or.inr rfl)) (hd:(x==("__debug__":Str))=false:=by decide)
  (hcd:(x==("__classdict__":Str))=false:=by decide):PE X (.Name x pos) (tVar i):=pe_var hN hv hd hcd
end
theorem iteF {A B:Prop}(h:B):if false=true then A else B:=by
 rw[if_neg Bool.false_ne_true]
 exact h
theorem iteT {A B:Prop}(h:A):if true=true then A else B:=by
 rw[if_pos rfl]
 exact h
noncomputable def Same (H H':Hp):Prop:=∀ b o,H b=some o→H' b=some o
theorem Same.refl (H:Hp):Same H H:=fun _ _ h=>h
theorem Same.trans {H H1 H2:Hp}(a:Same H H1)(b:Same H1 H2):Same H H2:=fun c o h=>b c o (a c o h)
theorem Same.free {H H':Hp}(e:Same H H'){l:Addr}(h:H' l=Option.none):H l=Option.none:=by
 cases q:H l with
 | none=>rfl
 | some o =>
   rw[e l o q] at h
   cases h
theorem Same.seq {K:PySem.W.Frag}{H H':Hp}{a:Addr}{xs:List V}(e:Same H H')(h:SqL K H a xs):SqL K H' a xs:=by
 rcases h with(h|⟨o,h⟩)|h
 ·exact .inl (.inl (e _ _ h))
 ·exact .inl (.inr ⟨o,e _ _ h⟩)
 ·exact .inr h
end L2
namespace L2
open PySem PySem.Spec PyProof.Rows
theorem HOk.track {P:Program}{w:World}{H:Hp}{h:Heap}{a:Addr}{o:HO}(x:HOk P w H h)(hn:H a=none)(new:ObjOk P w (upd H a o) h a o):HOk P w (upd H a o) h:=fun b u e=>by
 by_cases hb:b=a
 ·subst hb;rw[upd_same] at e;cases e;exact new
 ·rw[upd_ne hb] at e
  exact(x b u e).stay (fun c v _ q=>q) (fun c q=>by rw[upd_ne (ne_of_none q hn)];exact q) fun c xs q=>by rw[upd_ne (ne_of_none q hn)];exact q
noncomputable def clGo (env:Env):List (Str×NameKind)→List (Str×Addr)→List (Str×Addr)
 | [],cs=>cs
 | (n,k)::r,cs=>if (k==.free)=true then (match env.cells.lookup n with|some c=>clGo env r ((n,c)::cs)|none=>clGo env r cs) else clGo env r cs
noncomputable def clOf (scope:Scope)(env:Env):List (Str×Addr):=clGo env scope.names []
theorem closureGo {env:Env}:∀(l:List (Str×NameKind)) (cs:List (Str×Addr)),(∀ x∈l,x.2=.free→∃ c,env.cells.lookup x.1=some c) →
  (forIn l cs (fun(x:Str×NameKind)(r:List (Str×Addr))=>if (x.2==NameKind.free)=true then (do let c ← cellOf env x.1;pure (ForInStep.yield ((x.1,c)::r)):Sem _) else pure (ForInStep.yield r)):Sem (List (Str×Addr)))=pure (clGo env l cs):=by
 intro l
 induction l with
 | nil=>intro cs _;rfl
 | cons x r ih =>
   intro cs h
   obtain⟨n,k⟩:=x
   rw[List.forIn_cons]
   by_cases hk:(k==NameKind.free)=true
   ·have hk':k=.free:=by simpa using hk
    obtain⟨c,hc⟩:=h (n,k) List.mem_cons_self hk'
    simp only[hk,if_true]
    have e1:cellOf env n=pure c:=by unfold cellOf;rw[hc]
    rw[e1]
    have e2:clGo env ((n,k)::r) cs=clGo env r ((n,c)::cs):=by
     show(if (k==.free)=true then _ else _)=_
     rw[if_pos hk,hc]
    rw[e2]
    exact ih _ fun y hy=>h y (List.mem_cons_of_mem _ hy)
   ·simp only[hk]
    have e2:clGo env ((n,k)::r) cs=clGo env r cs:=by
     show(if (k==.free)=true then _ else _)=_
     rw[if_neg hk]
    rw[e2]
    exact ih _ fun y hy=>h y (List.mem_cons_of_mem _ hy)
theorem closureFor_all {scope:Scope}{env:Env}(h:∀ x∈scope.names,x.2=.free→∃ c,env.cells.lookup x.1=some c):closureFor scope env=pure (clOf scope env):=by
 have:=closureGo (env:=env) scope.names [] h
 unfold closureFor clOf
 show(forIn scope.names [] _ >>= fun cs=>pure cs)=_
 exact Eq.trans (congrArg (fun t=>t >>= fun cs=>pure cs) this) rfl
theorem clGo_sub {env:Env}:∀(l:List (Str×NameKind)) (cs:List (Str×Addr)),(∀ x c,cs.lookup x=some c→env.cells.lookup x=some c)→∀ x c,(clGo env l cs).lookup x=some c→env.cells.lookup x=some c
 | [],_,h=>h
 | (n,k)::r,cs,h=>by
   intro x c e
   unfold clGo at e
   split at e
   ·split at e
    ·rename_i c' hc
     refine clGo_sub r _ (fun y d q=>?_) x c e
     rw[List.lookup_cons] at q
     split at q
     ·rename_i hy
      have:y=n:=by simpa using hy
      subst this;cases q;exact hc
     ·exact h y d q
    ·exact clGo_sub r cs h x c e
   ·exact clGo_sub r cs h x c e
theorem clGo_more {env:Env}:∀(l:List (Str×NameKind)) (cs:List (Str×Addr)) (x:Str)(c:Addr),cs.lookup x=some c→∃ c,(clGo env l cs).lookup x=some c
 | [],_,_,c,h=>⟨c,h⟩
 | (n,k)::r,cs,x,c,h=>by
   unfold clGo
   split
   ·split
    ·rename_i c' hc
     cases hx:x==n with
     | true=>exact clGo_more r _ x c' (by rw[List.lookup_cons,hx])
     | false=>exact clGo_more r _ x c (by rw[List.lookup_cons,hx];exact h)
    ·exact clGo_more r cs x c h
   ·exact clGo_more r cs x c h
theorem clGo_has {env:Env}:∀(l:List (Str×NameKind)) (cs:List (Str×Addr)) (x:Str),(x,NameKind.free)∈l→(∃ c,env.cells.lookup x=some c)→∃ c,(clGo env l cs).lookup x=some c
 | [],_,_,h,_=>nomatch h
 | (n,k)::r,cs,x,h,hc=>by
   obtain⟨c,hc⟩:=hc
   rcases List.mem_cons.mp h with e|h
   ·cases e
    unfold clGo
    rw[if_pos (by rfl),hc]
    exact clGo_more r _ _ c (by rw[List.lookup_cons];simp)
   ·unfold clGo
    split
    ·split
     ·exact clGo_has r _ x h ⟨c,hc⟩
     ·exact clGo_has r _ x h ⟨c,hc⟩
    ·exact clGo_has r _ x h ⟨c,hc⟩
theorem lookup_mem {β:Type}:∀{l:List (Str×β)}{x:Str}{k:β},l.lookup x=some k→(x,k)∈l
 | [],_,_,h=>by simp at h
 | (n,j)::r,x,k,h=>by
   rw[List.lookup_cons] at h
   split at h
   ·rename_i hx
    have:x=n:=by simpa using hx
    subst this;cases h;exact List.mem_cons_self
   ·exact List.mem_cons_of_mem _ (lookup_mem h)
theorem relabel_lookup {env:Env}:∀{names:List (Str×NameKind)}{x:Str}{k:NameKind},
  (names.map fun(n,k)=>if (k==NameKind.free&&env.scope.kind==.function&&env.kindOf n==some .cell) then (n,NameKind.cell) else (n,k)).lookup x=some k →
  names.lookup x=some k∨(names.lookup x=some .free∧k=.cell)
 | [],_,_,h=>by simp at h
 | (n,j)::r,x,k,h=>by
   have ih:=@relabel_lookup env r x k
   have h':List.lookup x ((if (j==NameKind.free&&env.scope.kind==.function&&env.kindOf n==some .cell)=true then (n,NameKind.cell) else (n,j))::r.map fun(n,k)=>if (k==NameKind.free&&env.scope.kind==.function&&env.kindOf n==some .cell) then (n,NameKind.cell) else (n,k))=some k:=h
   cases hx:x==n with
   | true =>
     by_cases hc:(j==NameKind.free&&env.scope.kind==.function&&env.kindOf n==some .cell)=true
     ·rw[if_pos hc,List.lookup_cons,hx] at h'
      have hj:j=.free:=by
       simp only[Bool.and_eq_true] at hc
       simpa using hc.1.1
      refine .inr ⟨by rw[List.lookup_cons,hx,hj],?_⟩
      cases h';rfl
     ·rw[if_neg hc,List.lookup_cons,hx] at h'
      exact .inl (by rw[List.lookup_cons,hx];exact h')
   | false =>
     have h2:(r.map fun(n,k)=>if (k==NameKind.free&&env.scope.kind==.function&&env.kindOf n==some .cell) then (n,NameKind.cell) else (n,k)).lookup x=some k:=by
      by_cases hc:(j==NameKind.free&&env.scope.kind==.function&&env.kindOf n==some .cell)=true
      ·rw[if_pos hc,List.lookup_cons,hx] at h';exact h'
      ·rw[if_neg hc,List.lookup_cons,hx] at h';exact h'
     rcases ih h2 with z|z
     ·exact .inl (by rw[List.lookup_cons,hx];exact z)
     ·exact .inr ⟨by rw[List.lookup_cons,hx];exact z.1,z.2⟩
noncomputable def compCx (X:Cx)(scope:Scope)(N':List Str)(C:Addr)(s:Shared)(H:Hp)(fp:List Addr):Cx :=
 {X with N:=N',s₀:=s,H₀:=H,env:=compEnvC scope (cellsFrom (C+1) scope.names (clOf scope X.env)) C X.env,outer:=X.stack,ex:=fp,fn:=fun x=>scope.names.lookup x==some .cell,pn:=[],xe:=fun _ _=>False}
theorem cf_mem:∀{names:List (Str×NameKind)}{n:Nat}{acc:List (Str×Addr)}{x:Str}{c:Addr},(x,c)∈cellsFrom n names acc→(x,c)∈acc∨((x,NameKind.cell)∈names∧n≤c)
 | [],_,_,_,_,h=>.inl h
 | (y,k)::r,n,acc,x,c,h=>by
   unfold cellsFrom at h
   split at h
   ·rename_i hk
    have hk':k=.cell:=by simpa using hk
    rcases cf_mem h with z|⟨z,hz⟩
    ·rcases List.mem_cons.mp z with e|z
     ·cases e
      exact .inr ⟨by rw[hk'];exact List.mem_cons_self,Nat.le_refl _⟩
     ·exact .inl z
    ·exact .inr ⟨List.mem_cons_of_mem _ z,Nat.le_of_succ_le hz⟩
   ·rcases cf_mem h with z|⟨z,hz⟩
    ·exact .inl z
    ·exact .inr ⟨List.mem_cons_of_mem _ z,hz⟩
theorem cf_keep:∀{names:List (Str×NameKind)}{n:Nat}{acc:List (Str×Addr)}{x:Str},(x,NameKind.cell)∉names→(cellsFrom n names acc).lookup x=acc.lookup x
 | [],_,_,_,_=>rfl
 | (y,k)::r,n,acc,x,h=>by
   unfold cellsFrom
   split
   ·rename_i hk
    have hk':k=.cell:=by simpa using hk
    rw[cf_keep fun z=>h (List.mem_cons_of_mem _ z),List.lookup_cons]
    cases hx:x==y with
    | true =>
      have:x=y:=by simpa using hx
      exact absurd (by rw[this,hk'];exact List.mem_cons_self) h
    | false=>rfl
   ·exact cf_keep fun z=>h (List.mem_cons_of_mem _ z)
theorem cf_new:∀(names:List (Str×NameKind)) (h:Heap)(acc:List (Str×Addr)) (x:Str)(c:Addr),(x,c)∈cellsFrom h.objs.size names acc→(x,c)∈acc∨(pushCells h names).IsCell c none
 | [],_,_,_,_,h=>.inl h
 | (y,k)::r,hp,acc,x,c,h=>by
   unfold cellsFrom at h
   unfold pushCells
   split at h
   ·rename_i hk
    rw[if_pos hk]
    rw[show hp.objs.size+1=(hp.push {cls:=.type "cell",data:=.cell none}).objs.size from(Heap.size_push ..).symm] at h
    rcases cf_new r _ _ x c h with z|z
    ·rcases List.mem_cons.mp z with e|z
     ·cases e
      exact .inr ⟨_,pushCells_keeps _ _ _ _ (Heap.get?_push_size _ rfl),rfl⟩
     ·exact .inl z
    ·exact .inr z
   ·rename_i hk
    rw[if_neg hk]
    exact cf_new r hp acc x c h
theorem cl_mem {env:Env}:∀(l:List (Str×NameKind)) (cs:List (Str×Addr)) (x:Str)(c:Addr),(x,c)∈clGo env l cs→(x,c)∈cs∨env.cells.lookup x=some c
 | [],_,_,_,h=>.inl h
 | (n,k)::r,cs,x,c,h=>by
   unfold clGo at h
   split at h
   ·split at h
    ·rename_i c' hc
     rcases cl_mem r _ x c h with z|z
     ·rcases List.mem_cons.mp z with e|z
      ·cases e;exact .inr hc
      ·exact .inl z
     ·exact .inr z
    ·exact cl_mem r cs x c h
   ·exact cl_mem r cs x c h
theorem clOf_mem {env:Env}{scope:Scope}{x:Str}{c:Addr}(h:(x,c)∈clOf scope env):env.cells.lookup x=some c:=by
 rcases cl_mem scope.names [] x c h with z|z
 ·exact nomatch z
 ·exact z
theorem cf_more:∀{names:List (Str×NameKind)}{n:Nat}{acc:List (Str×Addr)}{x:Str}{c:Addr},acc.lookup x=some c→∃ c,(cellsFrom n names acc).lookup x=some c
 | [],_,_,_,c,h=>⟨c,h⟩
 | (y,k)::r,n,acc,x,c,h=>by
   unfold cellsFrom
   split
   ·cases hx:x==y with
    | true=>exact cf_more (c:=n) (by rw[List.lookup_cons,hx])
    | false=>exact cf_more (c:=c) (by rw[List.lookup_cons,hx];exact h)
   ·exact cf_more h
theorem cf_has:∀{names:List (Str×NameKind)}{n:Nat}{acc:List (Str×Addr)}{x:Str},(x,NameKind.cell)∈names→∃ c,(cellsFrom n names acc).lookup x=some c
 | [],_,_,_,h=>nomatch h
 | (y,k)::r,n,acc,x,h=>by
   unfold cellsFrom
   rcases List.mem_cons.mp h with e|h
   ·cases e
    rw[if_pos (by rfl)]
    exact cf_more (c:=n) (by rw[List.lookup_cons];simp)
   ·split
    ·exact cf_has h
    ·exact cf_has h
theorem cf_apart:∀{names:List (Str×NameKind)}{n:Nat}{acc:List (Str×Addr)},(∀ x c,(x,c)∈acc→c<n)→(∀ x y c,(x,c)∈acc→(y,c)∈acc→x=y)→∀ x y c,(x,c)∈cellsFrom n names acc→(y,c)∈cellsFrom n names acc→x=y
 | [],_,_,_,hi=>hi
 | (y,k)::r,n,acc,hl,hi=>by
   unfold cellsFrom
   split
   ·refine cf_apart (fun x c h=>?_) fun a b c h1 h2=>?_
    ·rcases List.mem_cons.mp h with e|h
     ·cases e;exact Nat.lt_succ_self _
     ·exact Nat.lt_succ_of_lt (hl x c h)
    ·rcases List.mem_cons.mp h1 with e|h1
     ·cases e
      rcases List.mem_cons.mp h2 with e|h2
      ·cases e;rfl
      ·exact absurd (hl b n h2) (Nat.lt_irrefl _)
     ·rcases List.mem_cons.mp h2 with e|h2
      ·cases e;exact absurd (hl a n h1) (Nat.lt_irrefl _)
      ·exact hi a b c h1 h2
   ·exact cf_apart hl hi
theorem wpAny_compEnv {M:Model}{A:Around}{E:Value→Shared→Prop}{s:Shared}{scope:Scope}{globals:Addr}{closure:List (Str×Addr)}{qual:Str}{func:Option Addr}{code:Value}{env:Env}{Q:Env→Shared→Prop}
  (hQ:∀ h',h'.Ns s.heap.objs.size (fun _=>none)→(∀ b o,s.heap.get? b=some o→h'.get? b=some o)→(∀ x c,(x,c)∈cellsFrom (s.heap.objs.size+1) scope.names closure→(x,c)∈closure∨h'.IsCell c none) →
   Q (newEnv scope s.heap.objs.size globals (cellsFrom (s.heap.objs.size+1) scope.names closure) qual func code (some env) builtinsNs) {s with heap:=h'}) :
  wpAny M A (newFunctionEnv scope globals closure [] qual func code (some env)) Q E s:=by
 simp only[newFunctionEnv,Option.isSome_some,if_true]
 refine wpAny_bind (wpAny_alloc ?_)
 refine wpAny_bind (wpAny_layCells _ (fun name kind cells=>by cases hkc:kind==NameKind.cell<;>simp [hkc]) _ _ _ _ ?_)
 rw[List.forIn_nil]
 refine wpAny_bind (wpAny_pure (wpAny_pure ?_))
 have e:({s with heap:=s.heap.push {cls:=.type "dict",data:=.dict #[]}}:Shared).heap.objs.size=s.heap.objs.size+1:=Heap.size_push ..
 rw[e]
 refine hQ _ ((Heap.Ns.new s.heap (.type "dict")).keeps (pushCells_keeps _ _)) (fun b o z=>pushCells_keeps _ _ b o (Heap.get?_push_of_some _ z)) fun x c z=>?_
 rw[show s.heap.objs.size+1=(s.heap.push {cls:=.type "dict",data:=.dict #[]}).objs.size from e.symm] at z
 exact cf_new _ _ _ x c z
noncomputable def subSt (ix:List (Option Nat)) (σ:St):St:=ix.map fun o=>o.bind fun i=>(σ[i]?).join
structure IxOk (N:List Str)(sc scope:Scope)(N':List Str)(ix:List (Option Nat)):Prop where
 len:ix.length=N'.length
 at':∀(j i:Nat) (x:Str),ix[j]?=some (some i)→N'[j]?=some x→N[i]?=some x∧Vis sc x
noncomputable def PIfs (X:Cx)(ifs:List Expr)(t:TT):Prop :=
 ∀(pins:List (Addr×Obj)) (s:Shared)(σ:St)(H:Hp)(Q:Bool→Hp→Prop),Inv X pins σ H s→t σ H Q →
  wpAny (model X.prog X.w) X.A (forIn ifs true fun c r=>if r=true then do let ok ← isTrue c X.env (eval c X.env);pure (ForInStep.yield ok) else pure (ForInStep.yield r)) (TP X pins σ Q) X.xe s
noncomputable def tYes:TT:=fun _ H Q=>Q true H
theorem pifs_nil {X:Cx}:PIfs X [] tYes:=fun _ _ _ H _ I h=>wpAny_tests_nil ⟨H,I,h⟩
theorem pifs_one {X:Cx}{c:Expr}{t:TT}(h:PT X c t):PIfs X [c] t:=fun pins s σ H Q I hw=>wpAny_tests_one (h pins s σ H Q I hw)
theorem codeAny_compLoop_gen {prog:Program}{w:World}{A:Around}{s:Shared}{elt target iter:Expr}{ifs:List Expr}{scope:Scope}{pos:Pos}{it acc:Value}{env:Env}{R:Result→Shared→Prop}(I:Nat→Shared→Prop)
  (turn:∀ n s,I n s→wpAny (model prog w) A (pyNext it) (fun r s₁=>match r with
   | none=>R (.ok .next) s₁
   | some v=>wpAny (model prog w) A (letOwnedTupleGo target it v) (fun _ s₁'=>wpAny (model prog w) A (assign target env v) (fun _ s₂ =>
     wpAny (model prog w) A (forIn ifs true fun c r=>if r=true then do let ok ← isTrue c env (eval c env);pure (ForInStep.yield ok) else pure (ForInStep.yield r)) (fun ok s₃ =>
      if ok=true then wpAny (model prog w) A (eval elt env) (fun x s₄ =>
       wpAny (model prog w) A (call (.builtin "list.append") [acc,x]) (fun _ s₅=>∃ m,m<n∧I m s₅) (fun _ _=>False) s₄) (fun _ _=>False) s₃
      else ∃ m,m<n∧I m s₃) (fun _ _=>False) s₂) (fun _ _=>False) s₁') (fun _ _=>False) s₁) (fun _ _=>False) s)
  (n:Nat)(h:I n s) :
  codeAny (model prog w) A (.compLoop (.ListComp elt [⟨target,iter,ifs,0⟩] scope pos) 0 it acc env) R s:=by
 refine codeAny_loop rfl I (fun n s hI=>?_) n h
 show wpAny _ A ((compTurn (.ListComp elt [⟨target,iter,ifs,0⟩] scope pos) 0 it acc env).onRaise (fun x=>do noteFrame x env;theTreesLotGoes x)) _ _ s
 refine wpAny_noted ?_
 rw[compTurn_list]
 refine wpAny_bind (wpAny_standAt (wpAny_bind (wpAny_mono (turn n s hI) (fun r s₁ h₁=>?_) fun _ _ h'=>h'.elim)))
 cases r with
 | none=>exact wpAny_pure h₁
 | some v =>
   refine wpAny_bind (wpAny_mono h₁ (fun _ s₁' h₁'=>?_) fun _ _ h'=>h'.elim)
   refine wpAny_bind (wpAny_mono h₁' (fun _ s₂ h₂=>wpAny_bind (wpAny_mono h₂ (fun ok s₃ h₃=>?_) fun _ _ h'=>h'.elim)) fun _ _ h'=>h'.elim)
   cases ok with
   | false=>exact wpAny_pure ⟨rfl,h₃⟩
   | true =>
     exact wpAny_bind (wpAny_bind (wpAny_mono h₃ (fun x s₄ h₄=>wpAny_bind (wpAny_mono h₄ (fun _ s₅ h₅=>wpAny_pure (wpAny_pure ⟨rfl,h₅⟩)) fun _ _ h'=>h'.elim)) fun _ _ h'=>h'.elim))
noncomputable def tComp (ix:List (Option Nat)) (wi:TI)(g:TG)(tc:TT)(te:TE):TE:=fun σ H Q=>wi σ H fun J H1=>∃ W:Nat→Nat→List V→Hp→Prop,(∃ m,W 0 m [] H1)∧∀ i m ys H,W i m ys H →
 (J.stop i H∧ys.length≤sizeLine∧∀ p,H p=none→Q (.ref p) (upd H p (.lst ys))) ∨
 (J.go i H∧ys.length<sizeLine∧∀ x H',J.yld i H x H'→g x (subSt ix σ) H' fun σ2 H2=>(∀(i:Nat)(v:V),(subSt ix σ)[i]?=some (some v)→σ2[i]?=some (some v))∧tc σ2 H2 fun c H3 =>
  if c=true then te σ2 H3 fun y H4=>∃ m',m'<m∧W (i+1) m' (ys++[y]) H4 else ∃ m',m'<m∧W (i+1) m' ys H3)
section
variable {X:Cx}{elt iter tg:Expr}{ifs:List Expr}{scope:Scope}{pos:Pos}{N':List Str}{ix:List (Option Nat)}{wi:TI}{g:TG}{tc:TT}{te:TE}
theorem subSt_len (ix:List (Option Nat)) (σ:St):(subSt ix σ).length=ix.length:=by unfold subSt;rw[List.length_map]
theorem block_start {pins:List (Addr×Obj)}{σ:St}{H:Hp}{s:Shared}{fp:List Addr}{h₁:Heap}{t':Nat}(I:Inv X pins σ H s)(hkind:scope.kind=.function)(hcell:∀ y∈scope.names,y.2=.cell→scope.names.lookup y.1=some .cell)
  (hdis:∀ x,(x,NameKind.cell)∈scope.names→(x,NameKind.free)∉scope.names) (hfr:∀ x∈scope.names,x.2=.free→X.env.kindOf x.1=some .cell∨X.env.kindOf x.1=some .free)(hix:IxOk X.N X.env.scope scope N' ix)(hfree:∀(j i:Nat) (x:Str),ix[j]?=some (some i)→N'[j]?=some x→scope.names.lookup x=some .free)
  (hf:∀ b∈fp,FpOk X pins H b)(hfs:∀ b∈fp,b<s.heap.objs.size)
  (kp:∀ b o,s.heap.get? b=some o→h₁.get? b=some o){C:Addr}(hC:s.heap.objs.size≤C)(hns:h₁.Ns C fun _=>none)
  (hnew:∀ x c,(x,c)∈cellsFrom (C+1) scope.names (clOf scope X.env)→(x,c)∈clOf scope X.env∨h₁.IsCell c none) :
  Inv (compCx X scope N' C s H fp) [] (subSt ix σ) H {s with heap:=h₁,toks:=t'}:=by
 have has:∀ x,(X.env.kindOf x=some .cell∨X.env.kindOf x=some .free)→∃ c,X.env.cells.lookup x=some c:=I.ok.has
 have kindE:(compCx X scope N' C s H fp).env.scope.kind=.function:=by show(relabel scope X.env).kind=_;exact hkind
 have look:∀ x k,(compCx X scope N' C s H fp).env.kindOf x=some k→scope.names.lookup x=some k∨(scope.names.lookup x=some .free∧k=.cell):=fun x k e=>relabel_lookup e
 have isfree:∀ x,((compCx X scope N' C s H fp).env.kindOf x=some .cell∨(compCx X scope N' C s H fp).env.kindOf x=some .free)→scope.names.lookup x=some .free∨scope.names.lookup x=some .cell:=fun x e=>by
  rcases e with e|e
  ·rcases look x _ e with z|z
   ·exact .inr z
   ·exact .inl z.1
  ·rcases look x _ e with z|z
   ·exact .inl z
   ·exact .inl z.1
 have nocell:∀ x,scope.names.lookup x=some .free→(x,NameKind.cell)∉scope.names:=fun x e z=>by
  have:=hcell _ z rfl
  rw[e] at this;cases this
 have clt:∀ x c,X.env.cells.lookup x=some c→c<s.heap.objs.size:=fun x c e=>by
  obtain⟨v,o,ho,hd⟩:=I.cell x c e
  exact Heap.lt_size ho
 have two:∀ x c,(cellsFrom (C+1) scope.names (clOf scope X.env)).lookup x=some c→X.env.cells.lookup x=some c∨((x,NameKind.cell)∈scope.names∧C+1≤c):=fun x c e=>by
  rcases cf_mem (mem_of_lookup e) with z|z
  ·exact .inl (clOf_mem z)
  ·exact .inr z
 refine⟨⟨I.ok.mod,kindE,I.ok.glob,I.ok.blt,hC,?_,?_,?_,I.ok.hd,I.ok.frames,.inl rfl,?_,?_,?_,?_,?_,?_,?_⟩,rfl,I.bare,?_,?_,?_,?_,?_,?_,?_,?_⟩
 ·intro x y c e1 e2
  refine cf_apart (names:=scope.names) (n:=C+1) (acc:=clOf scope X.env) (fun x c h=>?_) (fun x y c h1 h2=>I.ok.inj x y c (clOf_mem h1) (clOf_mem h2)) x y c (mem_of_lookup e1) (mem_of_lookup e2)
  exact Nat.lt_succ_of_lt (Nat.lt_of_lt_of_le (clt x c (clOf_mem h)) hC)
 ·intro x e
  rcases isfree x e with z|z
  ·show ∃ c,(cellsFrom (C+1) scope.names (clOf scope X.env)).lookup x=some c
   rw[cf_keep (nocell x z)]
   exact clGo_has scope.names [] x (lookup_mem z) (has x (hfr _ (lookup_mem z) rfl))
  ·exact cf_has (lookup_mem z)
 ·intro x c e1 e2
  have e1':scope.names.lookup x=some .cell:=by simpa [compCx] using e1
  rcases two x c e2 with z|z
  ·-- an own cell hides an elder one: its name is not free here
   rcases cf_mem (mem_of_lookup e2) with w|w
   ·exfalso
    have:(x,NameKind.free)∈scope.names:=by
     have key:∀(l:List (Str×NameKind)) (cs:List (Str×Addr)),(∀ p∈cs,(p.1,NameKind.free)∈scope.names)→(∀ p∈l,p∈scope.names)→∀ p∈clGo X.env l cs,(p.1,NameKind.free)∈scope.names:=by
      intro l
      induction l with
      | nil=>intro cs h1 _;exact h1
      | cons q r ih =>
        intro cs h1 h2
        obtain⟨n,k⟩:=q
        unfold clGo
        split
        ·rename_i hk
         split
         ·refine ih _ (fun p hp=>?_) fun p hp=>h2 p (List.mem_cons_of_mem _ hp)
          rcases List.mem_cons.mp hp with e|hp
          ·have hk':k=.free:=by simpa using hk
           subst e hk'
           exact h2 _ List.mem_cons_self
          ·exact h1 p hp
         ·exact ih _ h1 fun p hp=>h2 p (List.mem_cons_of_mem _ hp)
        ·exact ih _ h1 fun p hp=>h2 p (List.mem_cons_of_mem _ hp)
     exact key scope.names [] (fun p hp=>nomatch hp) (fun p hp=>hp) (x,c) w
    exact hdis x (lookup_mem e1') this
   ·exact Nat.le_trans hC (Nat.le_of_succ_le w.2)
  ·exact Nat.le_trans hC (Nat.le_of_succ_le z.2)
 ·intro b hb
  refine⟨?_,fun x c e=>?_⟩
  ·exact Nat.ne_of_lt (Nat.lt_of_lt_of_le (hfs b hb) hC)
  ·rcases two x c e with z|z
   ·exact(hf b hb).2.2.2.2.1 x c z
   ·exact Nat.ne_of_gt (Nat.lt_of_lt_of_le (Nat.lt_of_lt_of_le (hfs b hb) hC) (Nat.le_of_succ_le z.2))
 ·exact fun b o e=>I.bs b o e
 ·exact Nat.le_trans I.ok.bsz I.sz
 ·intro b o e hb
  rcases(hf b hb).2.2.2.1 with z|z
  ·exact I.ok.noex b o e z
  ·exact absurd (Nat.lt_of_lt_of_le (Heap.lt_size e) I.ok.bsz) (Nat.not_lt.mpr z)
 ·intro b hb z
  rcases List.mem_cons.mp (I.stkSub b z) with e|e
  ·exact(hf b hb).2.1 e
  ·exact(hf b hb).2.2.1 e
 ·exact I.stack
 ·exact fun b hb=>I.stkFree b hb
 ·exact Un.kept kp
 ·refine⟨_,hns,fun j x v e1 e2 e3=>?_⟩
  have e2':(ix.map fun o=>o.bind fun i=>(σ[i]?).join)[j]?=some (some v):=e2
  rw[List.getElem?_map] at e2'
  cases hj:ix[j]? with
  | none=>rw[hj] at e2';cases e2'
  | some oi =>
    rw[hj] at e2'
    cases oi with
    | none=>cases e2'
    | some i =>
      have e4:(σ[i]?).join=some v:=Option.some.inj e2'
      have e5:σ[i]?=some (some v):=by
       cases q:σ[i]? with
       | none=>rw[q] at e4;cases e4
       | some z=>rw[q] at e4;exact congrArg some e4
      obtain⟨hN,hv⟩:=hix.at' j i x hj e1
      obtain⟨m,_,hl⟩:=I.loc
      obtain⟨u,r,l⟩:=hl i x v hN e5 hv
      refine⟨u,r,.inr ⟨?_,?_⟩⟩
      ·rcases e3 with z|z|z
       ·have:=look x _ z
        rw[hfree j i x hj e1] at this
        rcases this with w|w
        ·cases w
        ·cases w.2
       ·exact .inl z
       ·exact .inr z
      ·have hkk:=hfr _ (lookup_mem (hfree j i x hj e1)) rfl
       obtain⟨c,hc⟩:=clGo_has (env:=X.env) scope.names [] x (lookup_mem (hfree j i x hj e1)) (has x hkk)
       refine⟨c,(cf_keep (nocell x (hfree j i x hj e1))).trans hc,?_⟩
       rcases l with⟨k1,_⟩|⟨_,c',hc',o,ho,hd⟩
       ·rw[k1] at hkk;rcases hkk with z|z<;>cases z
       ·have:c'=c:=Option.some.inj (hc'.symm.trans (clGo_sub scope.names [] (fun x c e=>by simp at e) x c hc))
        subst this
        exact⟨o,kp _ o ho,hd⟩
 ·intro x c e
  rcases hnew x c (mem_of_lookup e) with z|z
  ·obtain⟨v,o,ho,hd⟩:=I.cell x c (clOf_mem z)
   exact⟨v,o,kp c o ho,hd⟩
  ·exact⟨_,z⟩
 ·exact I.hok.fresh hC
 ·intro x c e
  rcases two x c e with z|z
  ·exact I.freeC x c z
  ·exact I.hok.fresh (Nat.le_trans hC (Nat.le_of_succ_le z.2))
 ·intro p hp;exact absurd hp (by simp [compCx])
 ·exact I.hok.kept kp
 ·exact(subSt_len ix σ).trans hix.len
theorem comp_gen (hc:X.calm=true)(hkind:scope.kind=.function)(hcell:∀ y∈scope.names,y.2=.cell→scope.names.lookup y.1=some .cell)(hdis:∀ x,(x,NameKind.cell)∈scope.names→(x,NameKind.free)∉scope.names) (hnames:∀ y∈scope.names,y.2=.local→scope.names.lookup y.1=some .local)
  (hfr:∀ x∈scope.names,x.2=.free→X.env.kindOf x.1=some .cell∨X.env.kindOf x.1=some .free)(hix:IxOk X.N X.env.scope scope N' ix)(hfree:∀(j i:Nat) (x:Str),ix[j]?=some (some i)→N'[j]?=some x→scope.names.lookup x=some .free)
  (hi:PI X tg iter wi)(hg:∀ C s H fp,PG (compCx X scope N' C s H fp) tg g) (ht:∀ C s H fp,PIfs (compCx X scope N' C s H fp) ifs tc) (he:∀ C s H fp,PE (compCx X scope N' C s H fp) elt te)
  (hs:∀ x,foldedSetIterable iter X.env x=pure x:=by intro _;rfl)
  {pins:List (Addr×Obj)}{s:Shared}{σ:St}{H:Hp}{Q:VK}(I:Inv X pins σ H s)(h:tComp ix wi g tc te σ H Q){use:Option (Value→Sem Unit)}{Q0:Value→Shared→Prop}
  (fin:∀(D C:Addr)(s4:Shared) m4 H' f,s4.heap.Ns C m4→(∀ h',Heap.SameBut C s4.heap h'→Inv X pins σ H' {s4 with heap:=h'})→FpOk X pins H' C→Q (.ref D) H'→compPost (model X.prog X.w) X.A X.xe use Q0 (.ref D) C (.ok f) s4) :
  wpAny (model X.prog X.w) X.A (comprehension (.ListComp elt [⟨tg,iter,ifs,0⟩] scope pos) scope X.env (firstIterPos [⟨tg,iter,ifs,0⟩] pos) (newList []) (firstAsync [⟨tg,iter,ifs,0⟩]) (firstIter [⟨tg,iter,ifs,0⟩] X.env) use) Q0 X.xe s:=by
 refine wpAny_comprehension_free (use:=use) rfl hs (closureFor_all fun x hx hf=>I.ok.has x.1 (hfr x hx hf)) hkind hnames (thn (hi pins s σ H _ I h) fun v s1 h1=>thn h1 fun itv s2 h2=>?_)
 obtain⟨it,fp,tn,J,H2,e,I2,T,st2,f2,W,⟨m0,w0⟩,turn⟩:=h2
 subst e
 have hfs:∀ b∈fp,b<s2.heap.objs.size:=fun b hb=>let ⟨o,e,_⟩:=T.obj _ _ st2 b hb;Heap.lt_size e
 refine wpAny_newObj_type (wpAny_compEnv fun h₁ hns₁ hsb₁ hnew₁=>?_)
 dsimp only at hns₁ hsb₁ hnew₁ ⊢
 generalize hH2:s2.heap.push {cls:=.type "list",dict:=none,data:=.seq ([]:List Value).toArray}=K2 at hns₁ hsb₁ hnew₁ ⊢
 have hCs:K2.objs.size=s2.heap.objs.size+1:=by rw[← hH2,Heap.size_push]
 have hDC:s2.heap.objs.size≠K2.objs.size:=by rw[hCs];exact Nat.ne_of_lt (Nat.lt_succ_self _)
 have hCle:s2.heap.objs.size≤K2.objs.size:=by rw[hCs];exact Nat.le_succ _
 have below:∀ b,b<s2.heap.objs.size→b≠K2.objs.size:=fun b hb=>by rw[hCs];exact Nat.ne_of_lt (Nat.lt_succ_of_lt hb)
 have kp:∀ b o,s2.heap.get? b=some o→h₁.get? b=some o:=fun b o e=>hsb₁ b o (hH2▸Heap.get?_push_of_some _ e)
 have hacc:h₁.PlainList s2.heap.objs.size ([]:List Value).toArray:=⟨_,hsb₁ _ _ (hH2▸Heap.get?_push_size _ rfl)⟩
 have hns:h₁.Ns K2.objs.size fun _=>none:=hns₁
 have X':=compCx X scope N' K2.objs.size s2 H2 fp
 have I3:Inv (compCx X scope N' K2.objs.size s2 H2 fp) [] (subSt ix σ) H2 {s2 with heap:=h₁,toks:=s2.toks}:=block_start I2 hkind hcell hdis hfr hix hfree f2 hfs kp hCle hns hnew₁
 have accFs:s2.heap.objs.size∉frs X.stack:=fun z=>by
  obtain⟨_,o,ho,_⟩:=I2.stack.mem z
  exact absurd (Heap.lt_size ho) (Nat.lt_irrefl _)
 have stat:∀{H':Hp}{o:Obj},(∀ b∈fp,H' b=none)→∀ b∈fp,FpOk (compCx X scope N' K2.objs.size s2 H2 fp) [(s2.heap.objs.size,o)] H' b:=fun{H' o} hn b hb=>by
  refine⟨hn b hb,below b (hfs b hb),fun z=>?_,.inl hb,fun x c e=>?_,fun p hp=>?_⟩
  ·exact I3.ok.exfs b hb z
  ·exact(I3.ok.exf b hb).2 x c e
  ·have:p=(s2.heap.objs.size,o):=by simpa [compCx] using hp
   subst this
   exact Nat.ne_of_gt (hfs b hb)
 have loop:∀ s₃:Shared,s₃={s2 with heap:=h₁,toks:=s2.toks} →
   codeAny (model X.prog X.w) X.A (.compLoop (.ListComp elt [⟨tg,iter,ifs,0⟩] scope pos) 0 (.ref it) (.ref s2.heap.objs.size) (compEnvC scope (cellsFrom (K2.objs.size+1) scope.names (clOf scope X.env)) K2.objs.size X.env))
    (compPost (model X.prog X.w) X.A X.xe use Q0 (.ref s2.heap.objs.size) K2.objs.size) s₃:=by
  rintro s₃ rfl
  refine codeAny_compLoop_gen (fun n s'=>∃ i ys its Hc,Inv (compCx X scope N' K2.objs.size s2 H2 fp) [] (subSt ix σ) Hc s'∧tn i s'.heap∧(∀ b∈fp,Hc b=none)∧Hc s2.heap.objs.size=none∧s'.heap.PlainList s2.heap.objs.size (its:List Value).toArray∧Vals ys its∧W i n ys Hc) ?_ m0
   ⟨0,[],[],H2,I3,T.keep _ _ _ st2 fun b _ o e=>kp b o e,fun b hb=>(f2 b hb).1,I2.hok.fresh (Nat.le_refl _),hacc,.nil,w0⟩
  rintro n s3 ⟨i,ys,its,H3,J3,st3,fr3,fa3,⟨nn,pl3⟩,rv3,w3⟩
  have P3:Inv (compCx X scope N' K2.objs.size s2 H2 fp) [(s2.heap.objs.size,{cls:=.type "list",data:=.seq its.toArray nn})] (subSt ix σ) H3 s3:=J3.pins_of fun p hp=>by
   have:p=(s2.heap.objs.size,{cls:=.type "list",data:=.seq its.toArray nn}):=by simpa using hp
   subst this
   exact⟨pl3,fa3,hDC,accFs,fun v z=>by cases z⟩
  rcases turn i n ys H3 w3 with⟨stop,hlen,qn⟩|⟨go,hlen,step⟩
  ·refine thn (T.done (compCx X scope N' K2.objs.size s2 H2 fp) rfl rfl rfl hc i _ s3 (subSt ix σ) H3 _ P3 (stat fr3) st3 stop) fun r s4 ⟨hr,I4⟩=>?_
   subst hr
   have a4:=(I4.pin (s2.heap.objs.size,_) (List.mem_append_right _ (List.mem_singleton.mpr rfl))).1
   obtain⟨m4,hn4,_⟩:=I4.loc
   have inv4:∀ h',Heap.SameBut K2.objs.size s4.heap h'→Inv X pins σ (upd H3 s2.heap.objs.size (.lst ys)) {s4 with heap:=h'}:=fun h' hsb=>by
    have old:∀ b o,b≠K2.objs.size→s4.heap.get? b=some o→h'.get? b=some o:=fun b o hb e=>(hsb.2 b hb).trans e
    have new:ObjOk X.prog X.w (upd H3 s2.heap.objs.size (.lst ys)) h' s2.heap.objs.size (.lst ys):=⟨hlen,its,nn,rv3,old _ _ hDC a4⟩
    have hokH:HOk X.prog X.w H3 h':=fun b u e=>by
     refine(I4.hok b u e).stay (fun c v hcc q=>old c v ?_ q) (fun _ q=>q) fun _ _ q=>q
     have f4:H3 K2.objs.size=none:=I4.free
     intro z
     rcases hcc with w|w
     ·rw[← w,z,f4] at e;cases e
     ·rw[z,f4] at w;cases w
    have un:Un (frs X.stack) fp H2 (upd H3 s2.heap.objs.size (.lst ys)) s2.heap h':=by
     have B:=I4.base
     refine⟨fun b o e n hb hx=>old b o (below b (Heap.lt_size e)) (B.keep b o e n hb hx),fun b o e n hb hx=>?_,fun b o e n hx=>?_,fun b o e hx=>?_,fun b xs e=>?_,fun b o u e=>?_,fun b ps e=>?_⟩
     ·obtain⟨sl,z⟩:=B.slot b o e n hb hx
      exact⟨sl,old b _ (below b (Heap.lt_size e)) z⟩
     ·rw[upd_ne (Nat.ne_of_lt (Heap.lt_size e))];exact B.free b o e n hx
     ·obtain⟨o',z⟩:=B.there b o e hx
      exact⟨o',old b _ (below b (Heap.lt_size e)) z⟩
     ·rw[upd_ne (ne_of_none e (I2.hok.fresh (Nat.le_refl _)))];exact B.tups b xs e
     ·rw[upd_ne (ne_of_none e (I2.hok.fresh (Nat.le_refl _)))];exact B.frzs b o u e
     ·rw[upd_ne (ne_of_none e (I2.hok.fresh (Nat.le_refl _)))];exact B.tbls b ps e
    exact I2.call' (s':={s4 with heap:=h'}) (ch:=fp) I4.os un (hokH.track fa3 new) I4.bare fun b hb=>⟨(f2 b hb).2.2.2.1,(f2 b hb).2.1,(f2 b hb).2.2.2.2.1,(f2 b hb).2.2.2.2.2⟩
   have fpC:FpOk X pins (upd H3 s2.heap.objs.size (.lst ys)) K2.objs.size:=I2.fpOk hCle (by rw[upd_ne (Ne.symm hDC)];exact I4.free)
   exact fin _ _ _ _ _ _ hn4 inv4 fpC (qn _ fa3)
  ·refine thn (T.item (compCx X scope N' K2.objs.size s2 H2 fp) rfl rfl rfl hc i _ s3 (subSt ix σ) H3 _ P3 (stat fr3) st3 go) fun r s4 ⟨u,hr,h4⟩=>?_
   subst hr
   refine thn h4 fun _ s5 ⟨x,H5,I5,r5,y5,st5,fr5⟩=>?_
   have I5':=I5.pinned (stat fr5) (T.obj _ _ st5)
   refine thn (hg _ _ _ _ _ s5 _ H5 x u _ I5' r5 (step x H5 y5)) fun _ s6 ⟨σ6,H6,I6,wk,q6⟩=>?_
   refine thn (ht _ _ _ _ _ s6 σ6 H6 _ I6 q6) fun ok s7 ⟨H7,I7,q7⟩=>?_
   have pinA:∀{s8:Shared}{H8:Hp},Inv (compCx X scope N' K2.objs.size s2 H2 fp) ([(s2.heap.objs.size,{cls:=.type "list",data:=.seq its.toArray nn})]++pinsAt fp s5.heap) σ6 H8 s8→s8.heap.get? s2.heap.objs.size=some {cls:=.type "list",data:=.seq its.toArray nn}∧H8 s2.heap.objs.size=none:=fun{s8 H8} I8=>by
    have z:=I8.pin (s2.heap.objs.size,_) (List.mem_append_right _ (List.mem_append_left _ (List.mem_singleton.mpr rfl)))
    exact⟨z.1,z.2.1⟩
   have again:∀{s8:Shared}{H8:Hp}{ys8:List V}{its8:List Value}{m':Nat},Inv (compCx X scope N' K2.objs.size s2 H2 fp) (pinsAt fp s5.heap) σ6 H8 s8→H8 s2.heap.objs.size=none→s8.heap.PlainList s2.heap.objs.size its8.toArray→Vals ys8 its8→m'<n→W (i+1) m' ys8 H8 →
     ∃ m,m<n∧∃ i ys its Hc,Inv (compCx X scope N' K2.objs.size s2 H2 fp) [] (subSt ix σ) Hc s8∧tn i s8.heap∧(∀ b∈fp,Hc b=none)∧Hc s2.heap.objs.size=none∧s8.heap.PlainList s2.heap.objs.size (its:List Value).toArray∧Vals ys its∧W i m ys Hc:=fun{s8 H8 ys8 its8 m'} I8 fa8 pl8 rv8 hm w8=>by
    refine⟨m',hm,i+1,ys8,its8,H8,?_,T.keep _ _ _ st5 fun b hb o e=>(I8.pin (b,o) (List.mem_append_right _ (mem_pinsAt hb e))).1,fun b hb=>?_,fa8,pl8,rv8,w8⟩
    ·exact(I8.weak (by rw[I8.len];exact I3.len) wk).pins_of fun p hp=>nomatch hp
    ·obtain⟨o,e,d⟩:=T.obj _ _ st5 b hb
     exact(I8.pin (b,o) (List.mem_append_right _ (mem_pinsAt hb e))).2.1
   have dropA:∀{s8:Shared}{H8:Hp}{P:List (Addr×Obj)},Inv (compCx X scope N' K2.objs.size s2 H2 fp) (P++pinsAt fp s5.heap) σ6 H8 s8→Inv (compCx X scope N' K2.objs.size s2 H2 fp) (pinsAt fp s5.heap) σ6 H8 s8:=fun{s8 H8 P} I8 =>
    I8.pins_of fun p hp=>I8.pin p (List.mem_append_right _ (List.mem_append_right _ hp))
   cases ok with
   | false =>
     have q7':∃ m',m'<n∧W (i+1) m' ys H7:=q7
     obtain⟨m',hm,w7⟩:=q7'
     obtain⟨a7,fa7⟩:=pinA I7
     exact again (dropA I7) fa7 ⟨nn,a7⟩ rv3 hm w7
   | true =>
     refine thn (he _ _ _ _ _ s7 σ6 H7 _ I7 q7) fun u8 s8 ⟨y8,H8,I8,r8,m',hm,w8⟩=>?_
     obtain⟨a8,fa8⟩:=pinA I8
     have hz:its.toArray.size≤sizeLine:=by rw[List.size_toArray,← rv3.length];exact Nat.le_of_lt hlen
     refine wpAny_list_append_plain ⟨nn,a8⟩ (fun h' pl' hsb=>?_) hz
     have I9:Inv (compCx X scope N' K2.objs.size s2 H2 fp) (pinsAt fp s5.heap) σ6 H8 {s8 with heap:=h'}:=by
      refine(dropA I8).turned (t':=s8.toks) (it:=s2.heap.objs.size) (fun b o hb e=>(hsb.2 b hb).trans e) fa8 hDC (.inr (Nat.le_refl _)) (fun x c e z=>?_) fun p hp z=>?_
      ·rcases cf_mem (mem_of_lookup e) with w|w
       ·obtain⟨v,o,ho,_⟩:=I2.cell x c (clOf_mem w)
        exact absurd (Heap.lt_size ho) (by rw[z];exact Nat.lt_irrefl _)
       ·have:=w.2
        rw[z,hCs] at this
        omega
      ·have hp':p∈pinsAt fp s5.heap:=by simpa [compCx] using hp
       have:=hfs p.1 (of_pinsAt hp').1
       rw[z] at this
       exact Nat.lt_irrefl _ this
     have pl'':h'.PlainList s2.heap.objs.size (its++[u8]).toArray:=by
      have e:its.toArray.push u8=(its++[u8]).toArray:=by simp
      rw[← e];exact pl'
     exact again I9 fa8 pl'' (rv3.append (.cons r8 .nil)) hm w8
 exact codeAny_compStart_list (loop _ rfl) (T.self _ 0 _ _ _ (T.keep _ _ _ st2 fun b _ o e=>kp b o e) (loop _ rfl))
theorem pe_comp (hc:X.calm=true)(hkind:scope.kind=.function)(hcell:∀ y∈scope.names,y.2=.cell→scope.names.lookup y.1=some .cell)(hdis:∀ x,(x,NameKind.cell)∈scope.names→(x,NameKind.free)∉scope.names) (hnames:∀ y∈scope.names,y.2=.local→scope.names.lookup y.1=some .local)
  (hfr:∀ x∈scope.names,x.2=.free→X.env.kindOf x.1=some .cell∨X.env.kindOf x.1=some .free)(hix:IxOk X.N X.env.scope scope N' ix)(hfree:∀(j i:Nat) (x:Str),ix[j]?=some (some i)→N'[j]?=some x→scope.names.lookup x=some .free)
  (hi:PI X tg iter wi)(hg:∀ C s H fp,PG (compCx X scope N' C s H fp) tg g) (ht:∀ C s H fp,PIfs (compCx X scope N' C s H fp) ifs tc) (he:∀ C s H fp,PE (compCx X scope N' C s H fp) elt te)
  (hs:∀ x,foldedSetIterable iter X.env x=pure x:=by intro _;rfl):PE X (.ListComp elt [⟨tg,iter,ifs,0⟩] scope pos) (tComp ix wi g tc te):=by
 intro pins s σ H Q I h
 rw[eval_ListComp]
 exact comp_gen hc hkind hcell hdis hnames hfr hix hfree hi hg ht he hs I h (use:=none) fun D C s4 m4 H' f hn inv fp q=>⟨m4,hn,fun h' hsb=>⟨.ref D,H',inv h' hsb,rfl,q⟩⟩
end
end L2
namespace PySem.SeqAt
open AutoSeq1 (wpAny_loadPart')
open MeetsSeq
section
variable {M:Model}{A:Around}{E:Value→Shared→Prop}{s:Shared}
noncomputable def DictAt (h:Heap)(l:Addr):Prop:=∃ es ep,h.get? l=some {cls:=.type "dict",data:=.dict es ep}
theorem dict_eq_declines_none (l:Addr)(es:Array DictEntry) (ep:Nat) :
  Meets (Builtin.«dict.__eq__» ⟨[.ref l,.none],[]⟩) (fun _ R s=>s.heap.get? l=some {cls:=.type "dict",data:=.dict es ep}∧R (.ok (.ret .notImplemented)) s) :=
 .of_wp fun prog w A R s h=>by obtain⟨hp,g,d,tk,os⟩:=s;obtain⟨hl,h⟩:=h;have f1:=F.sub_NoneType_dict;wp_walk using wpAny_loadPart' hl;exact⟨_,rfl,h⟩
theorem RcAt.none_dict {l:Addr}(hl:DictAt s.heap l)(hu:A.units<cLine):RcAt A s (.none) (.ref l) false:=fun prog w E Q h=>by
 obtain⟨es,ep,ho⟩:=id hl
 exact rc_eq_decline_or (k:=false) rfl ⟨_,ho,rfl⟩ (by decide) F.sub_dict_NoneType F.slot_NoneType_eq F.slot_dict_eq_refl
  (fun _ hq=>call_gives F.slot_NoneType_eq rfl F.entry_NoneType_eq (F.args_NoneType_eq_2 _ _) (NoneType___eq___none_ref_0 l) hq)
  (fun _ hq=>call_meets F.slot_dict_eq_refl ⟨_,ho,rfl⟩ F.entry_dict_eq (F.args_dict_eq_2 _ _) (dict_eq_declines_none l es ep) ⟨ho,hq⟩)
  (fun _ hq=>wpAny_of_eq (rfl:isSame (.none) (.ref l)=pure false) hq) (.inr hu) h
theorem EqAt.none_dict {l:Addr}(hl:DictAt s.heap l)(hu:A.units<cLine):EqAt A s (.none) (.ref l) false:=fun prog w E Q h=>by
 unfold eqBool
 refine wpAny_holding ?_
 refine wpAny_ite_split (fun hab=>absurd (eq_of_beq hab) nofun) (fun _=>?_)
 exact wpAny_bind (RcAt.none_dict hl hu prog w E _ (wpAny_truthy_bool h))
theorem dict_eq_declines_bool (l:Addr)(es:Array DictEntry) (ep:Nat)(b:Bool) :
  Meets (Builtin.«dict.__eq__» ⟨[.ref l,.bool b],[]⟩) (fun _ R s=>s.heap.get? l=some {cls:=.type "dict",data:=.dict es ep}∧R (.ok (.ret .notImplemented)) s) :=
 .of_wp fun prog w A R s h=>by obtain⟨hp,g,d,tk,os⟩:=s;obtain⟨hl,h⟩:=h;have f1:=F.sub_bool_dict;wp_walk using wpAny_loadPart' hl;exact⟨_,rfl,h⟩
theorem bool_eq_declines_dict (l:Addr)(es:Array DictEntry) (ep:Nat)(b:Bool) :
  Meets (Builtin.«int.__eq__» ⟨[.bool b,.ref l],[]⟩) (fun _ R s=>s.heap.get? l=some {cls:=.type "dict",data:=.dict es ep}∧R (.ok (.ret .notImplemented)) s) :=
 .of_wp fun prog w A R s h=>by obtain⟨hp,g,d,tk,os⟩:=s;obtain⟨hl,h⟩:=h;wp_walk using wpAny_loadPart' hl,wpAny_load hl;exact⟨_,rfl,h⟩
theorem RcAt.bool_dict {l:Addr}(b:Bool)(hl:DictAt s.heap l)(hu:A.units<cLine):RcAt A s (.bool b) (.ref l) false:=fun prog w E Q h=>by
 obtain⟨es,ep,ho⟩:=id hl
 exact rc_eq_decline_or (k:=false) rfl ⟨_,ho,rfl⟩ (by decide) F.sub_dict_bool F.slot_bool_eq F.slot_dict_eq_refl
  (fun _ hq=>call_meets F.slot_bool_eq rfl F.entry_int_eq (F.args_int_eq_2 _ _) (bool_eq_declines_dict l es ep b) ⟨ho,hq⟩)
  (fun _ hq=>call_meets F.slot_dict_eq_refl ⟨_,ho,rfl⟩ F.entry_dict_eq (F.args_dict_eq_2 _ _) (dict_eq_declines_bool l es ep b) ⟨ho,hq⟩)
  (fun _ hq=>wpAny_of_eq (rfl:isSame (.bool b) (.ref l)=pure false) hq) (.inr hu) h
theorem EqAt.bool_dict {l:Addr}(b:Bool)(hl:DictAt s.heap l)(hu:A.units<cLine):EqAt A s (.bool b) (.ref l) false:=fun prog w E Q h=>by
 unfold eqBool
 refine wpAny_holding ?_
 refine wpAny_ite_split (fun hab=>absurd (eq_of_beq hab) nofun) (fun _=>?_)
 exact wpAny_bind (RcAt.bool_dict b hl hu prog w E _ (wpAny_truthy_bool h))
theorem dict_eq_declines_int (l:Addr)(es:Array DictEntry) (ep:Nat) (b:Int)(u:Tok) :
  Meets (Builtin.«dict.__eq__» ⟨[.ref l,.int b u],[]⟩) (fun _ R s=>s.heap.get? l=some {cls:=.type "dict",data:=.dict es ep}∧R (.ok (.ret .notImplemented)) s) :=
 .of_wp fun prog w A R s h=>by obtain⟨hp,g,d,tk,os⟩:=s;obtain⟨hl,h⟩:=h;have f1:=F.sub_int_dict;wp_walk using wpAny_loadPart' hl;exact⟨_,rfl,h⟩
theorem int_eq_declines_dict (l:Addr)(es:Array DictEntry) (ep:Nat) (b:Int)(u:Tok) :
  Meets (Builtin.«int.__eq__» ⟨[.int b u,.ref l],[]⟩) (fun _ R s=>s.heap.get? l=some {cls:=.type "dict",data:=.dict es ep}∧R (.ok (.ret .notImplemented)) s) :=
 .of_wp fun prog w A R s h=>by obtain⟨hp,g,d,tk,os⟩:=s;obtain⟨hl,h⟩:=h;wp_walk using wpAny_loadPart' hl,wpAny_load hl;exact⟨_,rfl,h⟩
theorem RcAt.int_dict {l:Addr} (b:Int)(u:Tok)(hl:DictAt s.heap l)(hu:A.units<cLine):RcAt A s (.int b u) (.ref l) false:=fun prog w E Q h=>by
 obtain⟨es,ep,ho⟩:=id hl
 exact rc_eq_decline_or (k:=false) rfl ⟨_,ho,rfl⟩ (by decide) F.sub_dict_int F.slot_int_eq F.slot_dict_eq_refl
  (fun _ hq=>call_meets F.slot_int_eq rfl F.entry_int_eq (F.args_int_eq_2 _ _) (int_eq_declines_dict l es ep b u) ⟨ho,hq⟩)
  (fun _ hq=>call_meets F.slot_dict_eq_refl ⟨_,ho,rfl⟩ F.entry_dict_eq (F.args_dict_eq_2 _ _) (dict_eq_declines_int l es ep b u) ⟨ho,hq⟩)
  (fun _ hq=>wpAny_of_eq (rfl:isSame (.int b u) (.ref l)=pure false) hq) (.inr hu) h
theorem EqAt.int_dict {l:Addr} (b:Int)(u:Tok)(hl:DictAt s.heap l)(hu:A.units<cLine):EqAt A s (.int b u) (.ref l) false:=fun prog w E Q h=>by
 unfold eqBool
 refine wpAny_holding ?_
 refine wpAny_ite_split (fun hab=>absurd (eq_of_beq hab) nofun) (fun _=>?_)
 exact wpAny_bind (RcAt.int_dict b u hl hu prog w E _ (wpAny_truthy_bool h))
theorem dict_eq_declines_str (l:Addr)(es:Array DictEntry) (ep:Nat) (b:Str)(u:Tok) :
  Meets (Builtin.«dict.__eq__» ⟨[.ref l,.str b u],[]⟩) (fun _ R s=>s.heap.get? l=some {cls:=.type "dict",data:=.dict es ep}∧R (.ok (.ret .notImplemented)) s) :=
 .of_wp fun prog w A R s h=>by obtain⟨hp,g,d,tk,os⟩:=s;obtain⟨hl,h⟩:=h;have f1:=F.sub_str_dict;wp_walk using wpAny_loadPart' hl;exact⟨_,rfl,h⟩
theorem str_eq_declines_dict (l:Addr)(es:Array DictEntry) (ep:Nat) (b:Str)(u:Tok) :
  Meets (Builtin.«str.__eq__» ⟨[.str b u,.ref l],[]⟩) (fun _ R s=>s.heap.get? l=some {cls:=.type "dict",data:=.dict es ep}∧R (.ok (.ret .notImplemented)) s) :=
 .of_wp fun prog w A R s h=>by obtain⟨hp,g,d,tk,os⟩:=s;obtain⟨hl,h⟩:=h;wp_walk using wpAny_loadPart' hl,wpAny_load hl;exact⟨_,rfl,h⟩
theorem RcAt.str_dict {l:Addr} (b:Str)(u:Tok)(hl:DictAt s.heap l)(hu:A.units<cLine):RcAt A s (.str b u) (.ref l) false:=fun prog w E Q h=>by
 obtain⟨es,ep,ho⟩:=id hl
 exact rc_eq_decline_or (k:=false) rfl ⟨_,ho,rfl⟩ (by decide) F.sub_dict_str F.slot_str_eq F.slot_dict_eq_refl
  (fun _ hq=>call_meets F.slot_str_eq rfl F.entry_str_eq (F.args_str_eq_2 _ _) (str_eq_declines_dict l es ep b u) ⟨ho,hq⟩)
  (fun _ hq=>call_meets F.slot_dict_eq_refl ⟨_,ho,rfl⟩ F.entry_dict_eq (F.args_dict_eq_2 _ _) (dict_eq_declines_str l es ep b u) ⟨ho,hq⟩)
  (fun _ hq=>wpAny_of_eq (rfl:isSame (.str b u) (.ref l)=pure false) hq) (.inr hu) h
theorem EqAt.str_dict {l:Addr} (b:Str)(u:Tok)(hl:DictAt s.heap l)(hu:A.units<cLine):EqAt A s (.str b u) (.ref l) false:=fun prog w E Q h=>by
 unfold eqBool
 refine wpAny_holding ?_
 refine wpAny_ite_split (fun hab=>absurd (eq_of_beq hab) nofun) (fun _=>?_)
 exact wpAny_bind (RcAt.str_dict b u hl hu prog w E _ (wpAny_truthy_bool h))
theorem tuple_eq_declines_dict (l b:Addr)(items:Array Value)(es:Array DictEntry) (ep:Nat) (n:Nat)(dd:Option Addr)(sl:Array (Option Value)) :
  Meets (Builtin.«tuple.__eq__» ⟨[.ref l,.ref b],[]⟩) (fun _ R s=>s.heap.get? l=some {cls:=.type "tuple",dict:=dd,data:=.seq items n,slots:=sl}∧s.heap.get? b=some {cls:=.type "dict",data:=.dict es ep}∧R (.ok (.ret .notImplemented)) s) :=
 .of_wp fun prog w A R s h=>by obtain⟨hp,g,d,tk,os⟩:=s;obtain⟨hl,hb,h⟩:=h;have f1:=F.sub_dict_tuple;wp_walk using wpAny_loadPart' hl,wpAny_loadPart' hb;exact⟨_,rfl,h⟩
theorem dict_eq_declines_tuple (b l:Addr)(items:Array Value)(es:Array DictEntry) (ep:Nat) (n:Nat)(dd:Option Addr)(sl:Array (Option Value)) :
  Meets (Builtin.«dict.__eq__» ⟨[.ref b,.ref l],[]⟩) (fun _ R s=>s.heap.get? b=some {cls:=.type "dict",data:=.dict es ep}∧s.heap.get? l=some {cls:=.type "tuple",dict:=dd,data:=.seq items n,slots:=sl}∧R (.ok (.ret .notImplemented)) s) :=
 .of_wp fun prog w A R s h=>by obtain⟨hp,g,d,tk,os⟩:=s;obtain⟨hb,hl,h⟩:=h;have f1:=F.sub_tuple_dict;wp_walk using wpAny_loadPart' hb,wpAny_loadPart' hl;exact⟨_,rfl,h⟩
theorem ne_tuple_dict {l b:Addr}{items:Array Value}(hl:s.heap.IsTuple l items)(hb:DictAt s.heap b):l≠b:=by
 rintro rfl
 obtain⟨o,ho,hc,_⟩:=hl
 obtain⟨es,ep,ho2⟩:=hb
 rw[ho] at ho2;cases ho2;injection hc with z;exact absurd z (by decide)
theorem RcAt.tuple_dict {l b:Addr}{items:Array Value}(hl:s.heap.IsTuple l items)(hb:DictAt s.heap b)(hu:A.units<cLine):RcAt A s (.ref l) (.ref b) false:=fun prog w E Q h=>by
 have hne:l≠b:=ne_tuple_dict hl hb
 obtain⟨⟨cls,dd,data,sl⟩,ho,hc,n,hd⟩:=id hl
 obtain⟨es,ep,ho2⟩:=id hb
 simp only at hc hd
 subst hc hd
 exact(rc_eq_decline_or (k:=false) ⟨_,ho,rfl⟩ ⟨_,ho2,rfl⟩ (by decide) F.sub_dict_tuple F.slot_tuple_eq F.slot_dict_eq_refl
  (fun _ hq=>call_meets F.slot_tuple_eq ⟨_,ho,rfl⟩ F.entry_tuple_eq (F.args_tuple_eq_2 _ _) (tuple_eq_declines_dict l b items es ep n dd sl) ⟨ho,ho2,hq⟩)
  (fun _ hq=>call_meets F.slot_dict_eq_refl ⟨_,ho2,rfl⟩ F.entry_dict_eq (F.args_dict_eq_2 _ _) (dict_eq_declines_tuple b l items es ep n dd sl) ⟨ho2,ho,hq⟩)
  (fun _ hq=>wpAny_isSame_ref_other' hne ho ho2 (by simp) hq) (.inr hu) h)
theorem EqAt.tuple_dict {l b:Addr}{items:Array Value}(hl:s.heap.IsTuple l items)(hb:DictAt s.heap b)(hu:A.units<cLine):EqAt A s (.ref l) (.ref b) false:=.of_refs (ne_tuple_dict hl hb) (.tuple_dict hl hb hu)
theorem list_eq_declines_dict (l b:Addr)(items:Array Value)(es:Array DictEntry) (ep:Nat) (n:Nat)(dd:Option Addr)(sl:Array (Option Value)) :
  Meets (Builtin.«list.__eq__» ⟨[.ref l,.ref b],[]⟩) (fun _ R s=>s.heap.get? l=some {cls:=.type "list",dict:=dd,data:=.seq items n,slots:=sl}∧s.heap.get? b=some {cls:=.type "dict",data:=.dict es ep}∧R (.ok (.ret .notImplemented)) s) :=
 .of_wp fun prog w A R s h=>by obtain⟨hp,g,d,tk,os⟩:=s;obtain⟨hl,hb,h⟩:=h;have f1:=F.sub_dict_list;wp_walk using wpAny_loadPart' hl,wpAny_loadPart' hb;exact⟨_,rfl,h⟩
theorem dict_eq_declines_list (b l:Addr)(items:Array Value)(es:Array DictEntry) (ep:Nat) (n:Nat)(dd:Option Addr)(sl:Array (Option Value)) :
  Meets (Builtin.«dict.__eq__» ⟨[.ref b,.ref l],[]⟩) (fun _ R s=>s.heap.get? b=some {cls:=.type "dict",data:=.dict es ep}∧s.heap.get? l=some {cls:=.type "list",dict:=dd,data:=.seq items n,slots:=sl}∧R (.ok (.ret .notImplemented)) s) :=
 .of_wp fun prog w A R s h=>by obtain⟨hp,g,d,tk,os⟩:=s;obtain⟨hb,hl,h⟩:=h;have f1:=F.sub_list_dict;wp_walk using wpAny_loadPart' hb,wpAny_loadPart' hl;exact⟨_,rfl,h⟩
theorem ne_list_dict {l b:Addr}{items:Array Value}(hl:s.heap.IsList l items)(hb:DictAt s.heap b):l≠b:=by
 rintro rfl
 obtain⟨o,ho,hc,_⟩:=hl
 obtain⟨es,ep,ho2⟩:=hb
 rw[ho] at ho2;cases ho2;injection hc with z;exact absurd z (by decide)
theorem RcAt.list_dict {l b:Addr}{items:Array Value}(hl:s.heap.IsList l items)(hb:DictAt s.heap b)(hu:A.units<cLine):RcAt A s (.ref l) (.ref b) false:=fun prog w E Q h=>by
 have hne:l≠b:=ne_list_dict hl hb
 obtain⟨⟨cls,dd,data,sl⟩,ho,hc,n,hd⟩:=id hl
 obtain⟨es,ep,ho2⟩:=id hb
 simp only at hc hd
 subst hc hd
 exact(rc_eq_decline_or (k:=false) ⟨_,ho,rfl⟩ ⟨_,ho2,rfl⟩ (by decide) F.sub_dict_list F.slot_list_eq F.slot_dict_eq_refl
  (fun _ hq=>call_meets F.slot_list_eq ⟨_,ho,rfl⟩ F.entry_list_eq (F.args_list_eq_2 _ _) (list_eq_declines_dict l b items es ep n dd sl) ⟨ho,ho2,hq⟩)
  (fun _ hq=>call_meets F.slot_dict_eq_refl ⟨_,ho2,rfl⟩ F.entry_dict_eq (F.args_dict_eq_2 _ _) (dict_eq_declines_list b l items es ep n dd sl) ⟨ho2,ho,hq⟩)
  (fun _ hq=>wpAny_isSame_ref_other' hne ho ho2 (by simp) hq) (.inr hu) h)
theorem EqAt.list_dict {l b:Addr}{items:Array Value}(hl:s.heap.IsList l items)(hb:DictAt s.heap b)(hu:A.units<cLine):EqAt A s (.ref l) (.ref b) false:=.of_refs (ne_list_dict hl hb) (.list_dict hl hb hu)
theorem dict_ne_declines_none (l:Addr)(es:Array DictEntry) (ep:Nat) :
  Meets (Builtin.«dict.__ne__» ⟨[.ref l,.none],[]⟩) (fun _ R s=>s.heap.get? l=some {cls:=.type "dict",data:=.dict es ep}∧R (.ok (.ret .notImplemented)) s) :=
 .of_wp fun prog w A R s h=>by obtain⟨hp,g,d,tk,os⟩:=s;obtain⟨hl,h⟩:=h;have f1:=F.sub_NoneType_dict;wp_walk using wpAny_loadPart' hl;exact⟨_,rfl,h⟩
theorem RcNeAt.none_dict {l:Addr}(hl:DictAt s.heap l)(hu:A.units<cLine):RcNeAt A s (.none) (.ref l) true:=fun prog w E Q h=>by
 obtain⟨es,ep,ho⟩:=id hl
 exact rc_ne_decline_or (k:=false) rfl ⟨_,ho,rfl⟩ (by decide) F.sub_dict_NoneType F.slot_NoneType_ne F.slot_dict_ne_refl
  (fun _ hq=>call_gives F.slot_NoneType_ne rfl F.entry_NoneType_ne (F.args_NoneType_ne_2 _ _) (NoneType___ne___none_ref_0 l) hq)
  (fun _ hq=>call_meets F.slot_dict_ne_refl ⟨_,ho,rfl⟩ F.entry_dict_ne (F.args_dict_ne_2 _ _) (dict_ne_declines_none l es ep) ⟨ho,hq⟩)
  (fun _ hq=>wpAny_of_eq (rfl:isSame (.none) (.ref l)=pure false) hq) (.inr hu) h
theorem dict_ne_declines_bool (l:Addr)(es:Array DictEntry) (ep:Nat)(b:Bool) :
  Meets (Builtin.«dict.__ne__» ⟨[.ref l,.bool b],[]⟩) (fun _ R s=>s.heap.get? l=some {cls:=.type "dict",data:=.dict es ep}∧R (.ok (.ret .notImplemented)) s) :=
 .of_wp fun prog w A R s h=>by obtain⟨hp,g,d,tk,os⟩:=s;obtain⟨hl,h⟩:=h;have f1:=F.sub_bool_dict;wp_walk using wpAny_loadPart' hl;exact⟨_,rfl,h⟩
theorem bool_ne_declines_dict (l:Addr)(es:Array DictEntry) (ep:Nat)(b:Bool) :
  Meets (Builtin.«int.__ne__» ⟨[.bool b,.ref l],[]⟩) (fun _ R s=>s.heap.get? l=some {cls:=.type "dict",data:=.dict es ep}∧R (.ok (.ret .notImplemented)) s) :=
 .of_wp fun prog w A R s h=>by obtain⟨hp,g,d,tk,os⟩:=s;obtain⟨hl,h⟩:=h;wp_walk using wpAny_loadPart' hl,wpAny_load hl;exact⟨_,rfl,h⟩
theorem RcNeAt.bool_dict {l:Addr}(b:Bool)(hl:DictAt s.heap l)(hu:A.units<cLine):RcNeAt A s (.bool b) (.ref l) true:=fun prog w E Q h=>by
 obtain⟨es,ep,ho⟩:=id hl
 exact rc_ne_decline_or (k:=false) rfl ⟨_,ho,rfl⟩ (by decide) F.sub_dict_bool F.slot_bool_ne F.slot_dict_ne_refl
  (fun _ hq=>call_meets F.slot_bool_ne rfl F.entry_int_ne (F.args_int_ne_2 _ _) (bool_ne_declines_dict l es ep b) ⟨ho,hq⟩)
  (fun _ hq=>call_meets F.slot_dict_ne_refl ⟨_,ho,rfl⟩ F.entry_dict_ne (F.args_dict_ne_2 _ _) (dict_ne_declines_bool l es ep b) ⟨ho,hq⟩)
  (fun _ hq=>wpAny_of_eq (rfl:isSame (.bool b) (.ref l)=pure false) hq) (.inr hu) h
theorem dict_ne_declines_int (l:Addr)(es:Array DictEntry) (ep:Nat) (b:Int)(u:Tok) :
  Meets (Builtin.«dict.__ne__» ⟨[.ref l,.int b u],[]⟩) (fun _ R s=>s.heap.get? l=some {cls:=.type "dict",data:=.dict es ep}∧R (.ok (.ret .notImplemented)) s) :=
 .of_wp fun prog w A R s h=>by obtain⟨hp,g,d,tk,os⟩:=s;obtain⟨hl,h⟩:=h;have f1:=F.sub_int_dict;wp_walk using wpAny_loadPart' hl;exact⟨_,rfl,h⟩
theorem int_ne_declines_dict (l:Addr)(es:Array DictEntry) (ep:Nat) (b:Int)(u:Tok) :
  Meets (Builtin.«int.__ne__» ⟨[.int b u,.ref l],[]⟩) (fun _ R s=>s.heap.get? l=some {cls:=.type "dict",data:=.dict es ep}∧R (.ok (.ret .notImplemented)) s) :=
 .of_wp fun prog w A R s h=>by obtain⟨hp,g,d,tk,os⟩:=s;obtain⟨hl,h⟩:=h;wp_walk using wpAny_loadPart' hl,wpAny_load hl;exact⟨_,rfl,h⟩
theorem RcNeAt.int_dict {l:Addr} (b:Int)(u:Tok)(hl:DictAt s.heap l)(hu:A.units<cLine):RcNeAt A s (.int b u) (.ref l) true:=fun prog w E Q h=>by
 obtain⟨es,ep,ho⟩:=id hl
 exact rc_ne_decline_or (k:=false) rfl ⟨_,ho,rfl⟩ (by decide) F.sub_dict_int F.slot_int_ne F.slot_dict_ne_refl
  (fun _ hq=>call_meets F.slot_int_ne rfl F.entry_int_ne (F.args_int_ne_2 _ _) (int_ne_declines_dict l es ep b u) ⟨ho,hq⟩)
  (fun _ hq=>call_meets F.slot_dict_ne_refl ⟨_,ho,rfl⟩ F.entry_dict_ne (F.args_dict_ne_2 _ _) (dict_ne_declines_int l es ep b u) ⟨ho,hq⟩)
  (fun _ hq=>wpAny_of_eq (rfl:isSame (.int b u) (.ref l)=pure false) hq) (.inr hu) h
theorem dict_ne_declines_str (l:Addr)(es:Array DictEntry) (ep:Nat) (b:Str)(u:Tok) :
  Meets (Builtin.«dict.__ne__» ⟨[.ref l,.str b u],[]⟩) (fun _ R s=>s.heap.get? l=some {cls:=.type "dict",data:=.dict es ep}∧R (.ok (.ret .notImplemented)) s) :=
 .of_wp fun prog w A R s h=>by obtain⟨hp,g,d,tk,os⟩:=s;obtain⟨hl,h⟩:=h;have f1:=F.sub_str_dict;wp_walk using wpAny_loadPart' hl;exact⟨_,rfl,h⟩
theorem str_ne_declines_dict (l:Addr)(es:Array DictEntry) (ep:Nat) (b:Str)(u:Tok) :
  Meets (Builtin.«str.__ne__» ⟨[.str b u,.ref l],[]⟩) (fun _ R s=>s.heap.get? l=some {cls:=.type "dict",data:=.dict es ep}∧R (.ok (.ret .notImplemented)) s) :=
 .of_wp fun prog w A R s h=>by obtain⟨hp,g,d,tk,os⟩:=s;obtain⟨hl,h⟩:=h;wp_walk using wpAny_loadPart' hl,wpAny_load hl;exact⟨_,rfl,h⟩
theorem RcNeAt.str_dict {l:Addr} (b:Str)(u:Tok)(hl:DictAt s.heap l)(hu:A.units<cLine):RcNeAt A s (.str b u) (.ref l) true:=fun prog w E Q h=>by
 obtain⟨es,ep,ho⟩:=id hl
 exact rc_ne_decline_or (k:=false) rfl ⟨_,ho,rfl⟩ (by decide) F.sub_dict_str F.slot_str_ne F.slot_dict_ne_refl
  (fun _ hq=>call_meets F.slot_str_ne rfl F.entry_str_ne (F.args_str_ne_2 _ _) (str_ne_declines_dict l es ep b u) ⟨ho,hq⟩)
  (fun _ hq=>call_meets F.slot_dict_ne_refl ⟨_,ho,rfl⟩ F.entry_dict_ne (F.args_dict_ne_2 _ _) (dict_ne_declines_str l es ep b u) ⟨ho,hq⟩)
  (fun _ hq=>wpAny_of_eq (rfl:isSame (.str b u) (.ref l)=pure false) hq) (.inr hu) h
theorem tuple_ne_declines_dict (l b:Addr)(items:Array Value)(es:Array DictEntry) (ep:Nat) (n:Nat)(dd:Option Addr)(sl:Array (Option Value)) :
  Meets (Builtin.«tuple.__ne__» ⟨[.ref l,.ref b],[]⟩) (fun _ R s=>s.heap.get? l=some {cls:=.type "tuple",dict:=dd,data:=.seq items n,slots:=sl}∧s.heap.get? b=some {cls:=.type "dict",data:=.dict es ep}∧R (.ok (.ret .notImplemented)) s) :=
 .of_wp fun prog w A R s h=>by obtain⟨hp,g,d,tk,os⟩:=s;obtain⟨hl,hb,h⟩:=h;have f1:=F.sub_dict_tuple;wp_walk using wpAny_loadPart' hl,wpAny_loadPart' hb;exact⟨_,rfl,h⟩
theorem dict_ne_declines_tuple (b l:Addr)(items:Array Value)(es:Array DictEntry) (ep:Nat) (n:Nat)(dd:Option Addr)(sl:Array (Option Value)) :
  Meets (Builtin.«dict.__ne__» ⟨[.ref b,.ref l],[]⟩) (fun _ R s=>s.heap.get? b=some {cls:=.type "dict",data:=.dict es ep}∧s.heap.get? l=some {cls:=.type "tuple",dict:=dd,data:=.seq items n,slots:=sl}∧R (.ok (.ret .notImplemented)) s) :=
 .of_wp fun prog w A R s h=>by obtain⟨hp,g,d,tk,os⟩:=s;obtain⟨hb,hl,h⟩:=h;have f1:=F.sub_tuple_dict;wp_walk using wpAny_loadPart' hb,wpAny_loadPart' hl;exact⟨_,rfl,h⟩
theorem RcNeAt.tuple_dict {l b:Addr}{items:Array Value}(hl:s.heap.IsTuple l items)(hb:DictAt s.heap b)(hu:A.units<cLine):RcNeAt A s (.ref l) (.ref b) true:=fun prog w E Q h=>by
 have hne:l≠b:=ne_tuple_dict hl hb
 obtain⟨⟨cls,dd,data,sl⟩,ho,hc,n,hd⟩:=id hl
 obtain⟨es,ep,ho2⟩:=id hb
 simp only at hc hd
 subst hc hd
 exact(rc_ne_decline_or (k:=false) ⟨_,ho,rfl⟩ ⟨_,ho2,rfl⟩ (by decide) F.sub_dict_tuple F.slot_tuple_ne F.slot_dict_ne_refl
  (fun _ hq=>call_meets F.slot_tuple_ne ⟨_,ho,rfl⟩ F.entry_tuple_ne (F.args_tuple_ne_2 _ _) (tuple_ne_declines_dict l b items es ep n dd sl) ⟨ho,ho2,hq⟩)
  (fun _ hq=>call_meets F.slot_dict_ne_refl ⟨_,ho2,rfl⟩ F.entry_dict_ne (F.args_dict_ne_2 _ _) (dict_ne_declines_tuple b l items es ep n dd sl) ⟨ho2,ho,hq⟩)
  (fun _ hq=>wpAny_isSame_ref_other' hne ho ho2 (by simp) hq) (.inr hu) h)
theorem list_ne_declines_dict (l b:Addr)(items:Array Value)(es:Array DictEntry) (ep:Nat) (n:Nat)(dd:Option Addr)(sl:Array (Option Value)) :
  Meets (Builtin.«list.__ne__» ⟨[.ref l,.ref b],[]⟩) (fun _ R s=>s.heap.get? l=some {cls:=.type "list",dict:=dd,data:=.seq items n,slots:=sl}∧s.heap.get? b=some {cls:=.type "dict",data:=.dict es ep}∧R (.ok (.ret .notImplemented)) s) :=
 .of_wp fun prog w A R s h=>by obtain⟨hp,g,d,tk,os⟩:=s;obtain⟨hl,hb,h⟩:=h;have f1:=F.sub_dict_list;wp_walk using wpAny_loadPart' hl,wpAny_loadPart' hb;exact⟨_,rfl,h⟩
theorem dict_ne_declines_list (b l:Addr)(items:Array Value)(es:Array DictEntry) (ep:Nat) (n:Nat)(dd:Option Addr)(sl:Array (Option Value)) :
  Meets (Builtin.«dict.__ne__» ⟨[.ref b,.ref l],[]⟩) (fun _ R s=>s.heap.get? b=some {cls:=.type "dict",data:=.dict es ep}∧s.heap.get? l=some {cls:=.type "list",dict:=dd,data:=.seq items n,slots:=sl}∧R (.ok (.ret .notImplemented)) s) :=
 .of_wp fun prog w A R s h=>by obtain⟨hp,g,d,tk,os⟩:=s;obtain⟨hb,hl,h⟩:=h;have f1:=F.sub_list_dict;wp_walk using wpAny_loadPart' hb,wpAny_loadPart' hl;exact⟨_,rfl,h⟩
theorem RcNeAt.list_dict {l b:Addr}{items:Array Value}(hl:s.heap.IsList l items)(hb:DictAt s.heap b)(hu:A.units<cLine):RcNeAt A s (.ref l) (.ref b) true:=fun prog w E Q h=>by
 have hne:l≠b:=ne_list_dict hl hb
 obtain⟨⟨cls,dd,data,sl⟩,ho,hc,n,hd⟩:=id hl
 obtain⟨es,ep,ho2⟩:=id hb
 simp only at hc hd
 subst hc hd
 exact(rc_ne_decline_or (k:=false) ⟨_,ho,rfl⟩ ⟨_,ho2,rfl⟩ (by decide) F.sub_dict_list F.slot_list_ne F.slot_dict_ne_refl
  (fun _ hq=>call_meets F.slot_list_ne ⟨_,ho,rfl⟩ F.entry_list_ne (F.args_list_ne_2 _ _) (list_ne_declines_dict l b items es ep n dd sl) ⟨ho,ho2,hq⟩)
  (fun _ hq=>call_meets F.slot_dict_ne_refl ⟨_,ho2,rfl⟩ F.entry_dict_ne (F.args_dict_ne_2 _ _) (dict_ne_declines_list b l items es ep n dd sl) ⟨ho2,ho,hq⟩)
  (fun _ hq=>wpAny_isSame_ref_other' hne ho ho2 (by simp) hq) (.inr hu) h)
end
end PySem.SeqAt
namespace TL
open PySem L2
inductive T where
 | non|bl (b:Bool)|int (i:Int)|str (x:Str)|tup (xs:List T)|lst (xs:List T)
  
 | dct (d:List (List Nat×List Nat))
inductive Sl where
 | pu (t:T)|ow (ts:List T)
  
 | xc (c:Str)
  
 | ob (a:Addr) (c:Str)(fl:List (Str×T))
  
 | ro (c:Str)(fl:List (Str×T))
noncomputable def Sl.isO:Sl→Prop
 | .ob _ _ _=>True
 | .ro _ _=>True
 | _=>False
noncomputable abbrev Rho:=List (Option Sl)
noncomputable def clsAt (K:PySem.W.Frag) (c:Str):Addr:=match PySem.W.nsIn K mainGlobals c with
 | some (some (.ref a))=>a
 | _=>0
noncomputable def tupH (k:List Nat):Int:=reduceHash (Builtin.Tuple.tupleHashOf (k.map fun(n:Nat)=>hashInt (n:Int)))
noncomputable def entD (x:List Nat×Addr×Addr):DictEntry:=⟨tupH x.1,.ref x.2.1,.ref x.2.2⟩
noncomputable def DictO (a:Addr)(xs:List (List Nat×Addr×Addr)):HO:=.ext fun h=>(a==sysModules)=false∧∃ ep,h.get? a=some {cls:=.type "dict",data:=.dict (xs.map entD).toArray ep}
noncomputable def vInts (k:List Nat):List V:=k.map fun(n:Nat)=>V.int (n:Int)
noncomputable def RepD (K:PySem.W.Frag)(H:Hp)(d:List (List Nat×List Nat)) (xs:List (List Nat×Addr×Addr)):Prop:=(d.map (·.1)).Nodup∧Paired (fun p x=>x.1=p.1∧SqT K H x.2.1 (vInts p.1)∧SqT K H x.2.2 (vInts p.2)) d xs
mutual
noncomputable def Rep (K:PySem.W.Frag)(H:Hp):T→V→Prop
 | .non,v=>v=.non
 | .bl b,v=>v=.bl b
 | .int i,v=>v=.int i
 | .str x,v=>v=.str x
 | .tup ts,v=>∃ a vs,v=.ref a∧SqT K H a vs∧RepL K H ts vs
 | .lst ts,v=>∃ a vs,v=.ref a∧SqL K H a vs∧RepL K H ts vs
 | .dct d,v=>∃ a xs,v=.ref a∧H a=some (DictO a xs)∧RepD K H d xs
noncomputable def RepL (K:PySem.W.Frag)(H:Hp):List T→List V→Prop
 | [],vs=>vs=[]
 | t::ts,vs=>∃ v r,vs=v::r∧Rep K H t v∧RepL K H ts r
end
theorem sqT_mono {K:PySem.W.Frag}{H H':Hp}{a:Addr}{xs:List V}(e:Same H H')(h:SqT K H a xs):SqT K H' a xs:=by
 rcases h with(h|⟨o,h⟩)|h
 ·exact .inl (.inl (e _ _ h))
 ·exact .inl (.inr ⟨o,e _ _ h⟩)
 ·exact .inr h
theorem RepD.mono {K:PySem.W.Frag}{H H':Hp}(e:Same H H'){d:List (List Nat×List Nat)}{xs:List (List Nat×Addr×Addr)}(h:RepD K H d xs):RepD K H' d xs:=⟨h.1,Paired.mapP h.2 fun p q ⟨h1,h2,h3⟩=>⟨h1,sqT_mono e h2,sqT_mono e h3⟩⟩
mutual
theorem Rep.mono {K:PySem.W.Frag}{H H':Hp}(e:Same H H'):∀{t:T}{v:V},Rep K H t v→Rep K H' t v
 | .non,v,h=>by unfold Rep at h ⊢;exact h
 | .bl b,v,h=>by unfold Rep at h ⊢;exact h
 | .int b,v,h=>by unfold Rep at h ⊢;exact h
 | .str b,v,h=>by unfold Rep at h ⊢;exact h
 | .tup ts,v,h=>by
   unfold Rep at h ⊢
   obtain⟨a,vs,h1,h2,h3⟩:=h
   exact⟨a,vs,h1,sqT_mono e h2,RepL.mono e h3⟩
 | .lst ts,v,h=>by
   unfold Rep at h ⊢
   obtain⟨a,vs,h1,h2,h3⟩:=h
   exact⟨a,vs,h1,e.seq h2,RepL.mono e h3⟩
 | .dct d,v,h=>by
   unfold Rep at h ⊢
   obtain⟨a,kvs,h1,h2,h3⟩:=h
   exact⟨a,kvs,h1,e _ _ h2,h3.mono e⟩
theorem RepL.mono {K:PySem.W.Frag}{H H':Hp}(e:Same H H'):∀{ts:List T}{vs:List V},RepL K H ts vs→RepL K H' ts vs
 | [],vs,h=>by unfold RepL at h ⊢;exact h
 | t::ts,vs,h=>by
   unfold RepL at h ⊢
   obtain⟨v,r,h1,h2,h3⟩:=h
   exact⟨v,r,h1,Rep.mono e h2,RepL.mono e h3⟩
end
section
variable {K:PySem.W.Frag}{H:Hp}
theorem RepL.nil:RepL K H [] []:=by unfold RepL;rfl
theorem RepL.cons {t:T}{v:V}{ts:List T}{vs:List V}(h:Rep K H t v)(r:RepL K H ts vs):RepL K H (t::ts) (v::vs):=by unfold RepL;exact⟨v,vs,rfl,h,r⟩
theorem RepL.one {t:T}{v:V}(h:Rep K H t v):RepL K H [t] [v]:=.cons h .nil
theorem RepL.length:∀{ts:List T}{vs:List V},RepL K H ts vs→ts.length=vs.length
 | [],vs,h=>by unfold RepL at h;subst h;rfl
 | t::ts,vs,h=>by
   unfold RepL at h
   obtain⟨v,r,rfl,_,h3⟩:=h
   simp [RepL.length h3]
theorem RepL.get:∀{ts:List T}{vs:List V}{i:Nat}{t:T},RepL K H ts vs→ts[i]?=some t→∃ v,vs[i]?=some v∧Rep K H t v
 | [],vs,i,t,h,e=>by simp at e
 | t'::ts,vs,i,t,h,e=>by
   unfold RepL at h
   obtain⟨v,r,rfl,h2,h3⟩:=h
   cases i with
   | zero=>simp at e;subst e;exact⟨v,rfl,h2⟩
   | succ i =>
     obtain⟨u,h4,h5⟩:=RepL.get (i:=i) h3 (by simpa using e)
     exact⟨u,by simpa using h4,h5⟩
theorem RepL.append:∀{ts us:List T}{vs ws:List V},RepL K H ts vs→RepL K H us ws→RepL K H (ts++us) (vs++ws)
 | [],us,vs,ws,h,q=>by unfold RepL at h;subst h;exact q
 | t::ts,us,vs,ws,h,q=>by
   unfold RepL at h
   obtain⟨v,r,rfl,h2,h3⟩:=h
   exact .cons h2 (RepL.append h3 q)
theorem RepL.take:∀{ts:List T}{vs:List V} (n:Nat),RepL K H ts vs→RepL K H (ts.take n) (vs.take n)
 | [],vs,n,h=>by unfold RepL at h;subst h;simp;exact .nil
 | t::ts,vs,0,h=>.nil
 | t::ts,vs,n+1,h=>by
   unfold RepL at h
   obtain⟨v,r,rfl,h2,h3⟩:=h
   exact .cons h2 (RepL.take n h3)
theorem RepL.drop:∀{ts:List T}{vs:List V} (n:Nat),RepL K H ts vs→RepL K H (ts.drop n) (vs.drop n)
 | [],vs,n,h=>by unfold RepL at h;subst h;simp;exact .nil
 | t::ts,vs,0,h=>h
 | t::ts,vs,n+1,h=>by
   unfold RepL at h
   obtain⟨v,r,rfl,h2,h3⟩:=h
   exact RepL.drop n h3
theorem RepL.rep {ts:List T}{vs:List V}(h:RepL K H ts vs):∀ k:Nat,RepL K H (List.replicate k ts).flatten (List.replicate k vs).flatten
 | 0=>.nil
 | k+1=>by
   rw[List.replicate_succ,List.replicate_succ,List.flatten_cons,List.flatten_cons]
   exact h.append (RepL.rep h k)
theorem RepL.ints:∀{ns:List Int}{vs:List V},RepL K H (ns.map T.int) vs↔vs=ns.map V.int
 | [],vs=>by rw[List.map_nil,List.map_nil];exact⟨fun h=>by unfold RepL at h;exact h,fun h=>by unfold RepL;exact h⟩
 | n::ns,vs=>by
   rw[List.map_cons,List.map_cons]
   constructor
   ·intro h
    unfold RepL at h
    obtain⟨v,r,rfl,h2,h3⟩:=h
    unfold Rep at h2
    rw[h2,RepL.ints.mp h3]
   ·intro h
    subst h
    exact .cons (by unfold Rep;rfl) (RepL.ints.mpr rfl)
end
structure Ex (Hq H Hq' H':Hp):Prop where
 all:Same H H'
 q:Same Hq Hq'
 sub:Same Hq' H'
 out:∀ b,H b≠none→Hq b=none→Hq' b=none
theorem Ex.refl {Hq H:Hp}(h:Same Hq H):Ex Hq H Hq H:=⟨.refl _,.refl _,h,fun _ _ n=>n⟩
theorem Ex.trans {Hq H Hq1 H1 Hq2 H2:Hp}(a:Ex Hq H Hq1 H1)(b:Ex Hq1 H1 Hq2 H2):Ex Hq H Hq2 H2 :=
 ⟨a.all.trans b.all,a.q.trans b.q,b.sub,fun c h n=>b.out c (fun z=>by
  cases e:H c with
  | none=>exact h e
  | some o=>rw[a.all c o e] at z;cases z) (a.out c h n)⟩
theorem Ex.new {Hq H:Hp}(h:Same Hq H){p:Addr}{o:HO}(hp:H p=none):Ex Hq H (upd Hq p o) (upd H p o):=by
 have hq:Hq p=none:=h.free hp
 refine⟨fun b u e=>?_,fun b u e=>?_,fun b u e=>?_,fun b e n=>?_⟩
 ·rw[upd_ne (ne_of_none e hp)];exact e
 ·rw[upd_ne (ne_of_none e hq)];exact e
 ·by_cases hb:b=p
  ·subst hb;rw[upd_same] at e ⊢;exact e
  ·rw[upd_ne hb] at e ⊢;exact h b u e
 ·have:b≠p:=fun z=>by subst z;exact e hp
  rw[upd_ne this];exact n
structure Z where
 K:PySem.W.Frag
 Hq:Hp
 H:Hp
noncomputable def FldR (K:PySem.W.Frag)(H:Hp)(fl:List (Str×T)) (fs:List (Str×V)):Prop:=Paired (fun p q=>p.1=q.1∧Rep K H p.2 q.2) fl fs
theorem FldR.mono {K:PySem.W.Frag}{H H':Hp}(e:Same H H'){fl:List (Str×T)}{fs:List (Str×V)}(h:FldR K H fl fs):FldR K H' fl fs:=Paired.mapP h fun p q ⟨h1,h2⟩=>⟨h1,h2.mono e⟩
structure Ro (z:Z)(σ:St)(ρ:Rho)(Hq H:Hp):Prop where
 ob:∀(i:Nat)(a:Addr) (c:Str)(fl:List (Str×T)),ρ[i]?=some (some (.ob a c fl))→σ[i]?=some (some (.ref a))∧Hq a=none∧z.H a=none∧∃ dx fs,H a=some (.ins (clsAt z.K c) dx fs)∧FldR z.K Hq fl fs
 on:∀(i j:Nat)(a b:Addr) (c c':Str)(fl fl':List (Str×T)),i≠j→ρ[i]?=some (some (.ob a c fl))→ρ[j]?=some (some (.ob b c' fl'))→a≠b
 ro:∀(i:Nat) (c:Str)(fl:List (Str×T)),ρ[i]?=some (some (.ro c fl))→∃ a dx fs,σ[i]?=some (some (.ref a))∧z.H a=some (.ins (clsAt z.K c) dx fs)∧FldR z.K z.Hq fl fs
theorem Ro.go {z:Z}{σ σ':St}{ρ ρ':Rho}{Hq H Hq' H':Hp}(r:Ro z σ ρ Hq H)(hs:∀(j:Nat)(sl:Sl),sl.isO→ρ'[j]?=some (some sl)→ρ[j]?=some (some sl)∧σ'[j]?=σ[j]?)
  (hh:∀ a C dx fs,H a=some (.ins C dx fs)→Hq a=none→H' a=some (.ins C dx fs)∧Hq' a=none) (hq:Same Hq Hq'):Ro z σ' ρ' Hq' H':=by
 refine⟨fun i a c fl e=>?_,fun i j a b c c' fl fl' hij e1 e2=>?_,fun i c fl e=>?_⟩
 ·obtain⟨e,es⟩:=hs i (.ob a c fl) trivial e
  obtain⟨h1,h2,h3,dx,fs,h4,h5⟩:=r.ob i a c fl e
  exact⟨by rw[es];exact h1,(hh a _ dx fs h4 h2).2,h3,dx,fs,(hh a _ dx fs h4 h2).1,h5.mono hq⟩
 ·exact r.on i j a b c c' fl fl' hij (hs i (.ob a c fl) trivial e1).1 (hs j (.ob b c' fl') trivial e2).1
 ·obtain⟨e,es⟩:=hs i (.ro c fl) trivial e
  obtain⟨a,dx,fs,h1,h2⟩:=r.ro i c fl e
  exact⟨a,dx,fs,by rw[es];exact h1,h2⟩
theorem Ro.none {z:Z}{σ:St}{ρ:Rho}{Hq H:Hp}(h:∀(j:Nat)(sl:Sl),sl.isO→ρ[j]?≠some (some sl)):Ro z σ ρ Hq H :=
 ⟨fun i a c fl e=>absurd e (h i (.ob a c fl) trivial),fun i _ a _ c _ fl _ _ e=>absurd e (h i (.ob a c fl) trivial),fun i c fl e=>absurd e (h i (.ro c fl) trivial)⟩
theorem setO_hs {σ:St}{ρ:Rho}{i:Nat}{x:Option Sl}{v:Option V}(hx:∀ sl,x=some sl→¬ sl.isO):∀(j:Nat)(sl:Sl),sl.isO→(ρ.set i x)[j]?=some (some sl)→ρ[j]?=some (some sl)∧(σ.set i v)[j]?=σ[j]?:=fun j sl h e=>by
 by_cases hj:i=j
 ·subst hj
  by_cases hi:i<ρ.length
  ·rw[List.getElem?_set_self hi] at e
   exact absurd h (hx sl (Option.some.inj e))
  ·rw[List.getElem?_eq_none (by rw[List.length_set];omega)] at e;cases e
 ·rw[List.getElem?_set_ne hj] at e ⊢
  exact⟨e,rfl⟩
theorem setO_hs' {σ:St}{ρ:Rho}{i:Nat}{x:Option Sl}(hx:∀ sl,x=some sl→¬ sl.isO):∀(j:Nat)(sl:Sl),sl.isO→(ρ.set i x)[j]?=some (some sl)→ρ[j]?=some (some sl)∧σ[j]?=σ[j]?:=fun j sl h e =>
 ⟨(setO_hs (σ:=σ) (v:=none) hx j sl h e).1,rfl⟩
structure Rn (z:Z)(σ:St)(ρ:Rho)(Hq H:Hp):Prop where
 ex:Ex z.Hq z.H Hq H
 len:ρ.length=σ.length
 pu:∀(i:Nat)(t:T),ρ[i]?=some (some (.pu t))→∃ v,σ[i]?=some (some v)∧Rep z.K Hq t v
 ow:∀(i:Nat)(ts:List T),ρ[i]?=some (some (.ow ts))→∃ a vs,σ[i]?=some (some (.ref a))∧Hq a=none∧z.H a=none∧H a=some (.lst vs)∧RepL z.K Hq ts vs
 ne:∀(i j:Nat)(ts us:List T)(a:Addr),i≠j→ρ[i]?=some (some (.ow ts))→ρ[j]?=some (some (.ow us))→σ[i]?=some (some (.ref a))→σ[j]?≠some (some (.ref a))
 xc:∀(i:Nat) (C:Str),ρ[i]?=some (some (.xc C))→∃ a oe u,σ[i]?=some (some (.ref a))∧Hq a=none∧H a=some (.frz oe u)∧oe.cls=.ref (clsAt z.K C)∧oe.dict=none∧∃ vs,oe.data=.fields vs
 o:Ro z σ ρ Hq H
theorem Rn.sub {z:Z}{σ:St}{ρ:Rho}{Hq H:Hp}(r:Rn z σ ρ Hq H):Same Hq H:=r.ex.sub
theorem Rn.ext {z:Z}{σ:St}{ρ:Rho}{Hq H Hq' H':Hp}(r:Rn z σ ρ Hq H)(e:Ex Hq H Hq' H'):Rn z σ ρ Hq' H':=by
 refine⟨r.ex.trans e,r.len,fun i t h=>?_,fun i ts h=>?_,r.ne,fun i C h=>?_,r.o.go (fun _ _ _ h=>⟨h,rfl⟩) (fun a C dx fs h n=>⟨e.all a _ h,e.out a (by rw[h];simp) n⟩) e.q⟩
 ·obtain⟨v,h1,h2⟩:=r.pu i t h
  exact⟨v,h1,h2.mono e.q⟩
 ·obtain⟨a,vs,h1,h2,h3,h4,h5⟩:=r.ow i ts h
  exact⟨a,vs,h1,e.out a (by rw[h4];simp) h2,h3,e.all a _ h4,h5.mono e.q⟩
 ·obtain⟨a,oe,u,h1,h2,h3,h4⟩:=r.xc i C h
  exact⟨a,oe,u,h1,e.out a (by rw[h3];simp) h2,e.all a _ h3,h4⟩
noncomputable abbrev FE:=Rho→Option T
noncomputable abbrev FA:=Rho→Option (List T)
noncomputable abbrev FT:=Rho→Option Bool
noncomputable def tT (z:Z)(f:FE):TE:=fun σ H Q=>∃ ρ Hq t,Rn z σ ρ Hq H∧f ρ=some t∧∀ v Hq' H',Ex Hq H Hq' H'→Rep z.K Hq' t v→Q v H'
noncomputable def tA (z:Z)(f:FA):TA:=fun σ H Q=>∃ ρ Hq ts,Rn z σ ρ Hq H∧f ρ=some ts∧∀ vs Hq' H',Ex Hq H Hq' H'→RepL z.K Hq' ts vs→Q vs H'
noncomputable def tB2 (z:Z)(f:FT):TT:=fun σ H Q=>∃ ρ Hq b,Rn z σ ρ Hq H∧f ρ=some b∧∀ Hq' H',Ex Hq H Hq' H'→Q b H'
noncomputable def RepR (K:PySem.W.Frag)(Hq H:Hp)(t:T)(v:V):Prop:=Rep K Hq t v∨∃ a vs ts,v=.ref a∧t=.lst ts∧H a=some (.lst vs)∧RepL K Hq ts vs
noncomputable def tR (z:Z)(f:FE):TE:=fun σ H Q=>∃ ρ Hq t,Rn z σ ρ Hq H∧f ρ=some t∧∀ v Hq' H',Ex Hq H Hq' H'→RepR z.K Hq' H' t v→Q v H'
noncomputable def tF (z:Z)(f:FA):TE:=fun σ H Q=>∃ ρ Hq ts,Rn z σ ρ Hq H∧f ρ=some ts∧∀ p vs Hq' H',Ex Hq H Hq' H'→H' p=none→RepL z.K Hq' ts vs→Q (.ref p) (upd H' p (.lst vs))
noncomputable abbrev EV (X:Cx)(z:Z)(e:Expr)(f:FE):Prop:=PE X e (tT z f)
noncomputable abbrev ER (X:Cx)(z:Z)(e:Expr)(f:FE):Prop:=PE X e (tR z f)
noncomputable abbrev EF (X:Cx)(z:Z)(e:Expr)(f:FA):Prop:=PE X e (tF z f)
noncomputable abbrev EA (X:Cx)(z:Z)(e:List Expr)(f:FA):Prop:=PA X e (tA z f)
noncomputable abbrev ET (X:Cx)(z:Z)(e:Expr)(f:FT):Prop:=PT X e (tB2 z f)
theorem PE.imp {X:Cx}{e:Expr}{t t':TE}(h:PE X e t)(i:∀ σ H Q,t' σ H Q→t σ H Q):PE X e t':=fun pins s σ H Q I q=>h pins s σ H Q I (i σ H Q q)
theorem PT.imp {X:Cx}{e:Expr}{t t':TT}(h:PT X e t)(i:∀ σ H Q,t' σ H Q→t σ H Q):PT X e t':=fun pins s σ H Q I q=>h pins s σ H Q I (i σ H Q q)
theorem PA.imp {X:Cx}{e:List Expr}{t t':TA}(h:PA X e t)(i:∀ σ H Q,t' σ H Q→t σ H Q):PA X e t':=fun pos pins s σ H Q I q=>h pos pins s σ H Q I (i σ H Q q)
theorem PS.imp {X:Cx}{e:Stmt}{t t':TS}(h:PS X e t)(i:∀ D σ H,t' D σ H→t D σ H):PS X e t':=fun pins s σ H Q I q=>h pins s σ H Q I (i Q σ H q)
theorem PSs.imp {X:Cx}{e:List Stmt}{t t':TS}(h:PSs X e t)(i:∀ D σ H,t' D σ H→t D σ H):PSs X e t':=fun pins s σ H Q I q=>h pins s σ H Q I (i Q σ H q)
theorem RepR.ext {K:PySem.W.Frag}{Hq H Hq' H':Hp}{t:T}{v:V}(h:RepR K Hq H t v)(e:Ex Hq H Hq' H'):RepR K Hq' H' t v:=by
 rcases h with h|⟨a,vs,ts,h1,h2,h3,h4⟩
 ·exact .inl (h.mono e.q)
 ·exact .inr ⟨a,vs,ts,h1,h2,e.all _ _ h3,h4.mono e.q⟩
theorem RepR.lst {K:PySem.W.Frag}{Hq H:Hp}{ts:List T}{v:V}(h:RepR K Hq H (.lst ts) v) (s:Same Hq H):∃ a vs,v=.ref a∧SqL K H a vs∧RepL K Hq ts vs:=by
 rcases h with h|⟨a,vs,us,h1,h2,h3,h4⟩
 ·unfold Rep at h
  obtain⟨a,vs,h1,h2,h3⟩:=h
  exact⟨a,vs,h1,s.seq h2,h3⟩
 ·cases h2
  exact⟨a,vs,h1,SqL.of h3,h4⟩
theorem RepR.tup {K:PySem.W.Frag}{Hq H:Hp}{ts:List T}{v:V}(h:RepR K Hq H (.tup ts) v) (s:Same Hq H):∃ a vs,v=.ref a∧SqT K H a vs∧RepL K Hq ts vs:=by
 rcases h with h|⟨a,vs,us,h1,h2,h3,h4⟩
 ·unfold Rep at h
  obtain⟨a,vs,h1,h2,h3⟩:=h
  exact⟨a,vs,h1,sqT_mono s h2,h3⟩
 ·cases h2
theorem RepR.int {K:PySem.W.Frag}{Hq H:Hp}{i:Int}{v:V}(h:RepR K Hq H (.int i) v):v=.int i:=by
 rcases h with h|⟨a,vs,us,h1,h2,_⟩
 ·unfold Rep at h;exact h
 ·cases h2
theorem RepR.str {K:PySem.W.Frag}{Hq H:Hp}{i:Str}{v:V}(h:RepR K Hq H (.str i) v):v=.str i:=by
 rcases h with h|⟨a,vs,us,h1,h2,_⟩
 ·unfold Rep at h;exact h
 ·cases h2
theorem RepR.bl {K:PySem.W.Frag}{Hq H:Hp}{i:Bool}{v:V}(h:RepR K Hq H (.bl i) v):v=.bl i:=by
 rcases h with h|⟨a,vs,us,h1,h2,_⟩
 ·unfold Rep at h;exact h
 ·cases h2
theorem rep_bl {K:PySem.W.Frag}{Hq:Hp}{b:Bool}:Rep K Hq (.bl b) (.bl b):=by unfold Rep;rfl
theorem rep_int {K:PySem.W.Frag}{Hq:Hp}{b:Int}:Rep K Hq (.int b) (.int b):=by unfold Rep;rfl
theorem rep_str {K:PySem.W.Frag}{Hq:Hp}{b:Str}:Rep K Hq (.str b) (.str b):=by unfold Rep;rfl
theorem rep_non {K:PySem.W.Frag}{Hq:Hp}:Rep K Hq .non .non:=by unfold Rep;rfl
theorem Rep.i {K:PySem.W.Frag}{Hq:Hp}{i:Int}{v:V}(h:Rep K Hq (.int i) v):v=.int i:=by unfold Rep at h;exact h
theorem Rep.b {K:PySem.W.Frag}{Hq:Hp}{i:Bool}{v:V}(h:Rep K Hq (.bl i) v):v=.bl i:=by unfold Rep at h;exact h
theorem Rep.s {K:PySem.W.Frag}{Hq:Hp}{i:Str}{v:V}(h:Rep K Hq (.str i) v):v=.str i:=by unfold Rep at h;exact h
theorem Rep.n {K:PySem.W.Frag}{Hq:Hp}{v:V}(h:Rep K Hq .non v):v=.non:=by unfold Rep at h;exact h
theorem rep_tupNew {K:PySem.W.Frag}{Hq:Hp}{p:Addr}{ts:List T}{vs:List V}(hp:Hq p=none)(h:RepL K Hq ts vs):Rep K (upd Hq p (.tup vs)) (.tup ts) (.ref p):=by
 unfold Rep
 exact⟨p,vs,rfl,SqT.of upd_same,h.mono fun b o e=>by rw[upd_ne (ne_of_none e hp)];exact e⟩
theorem rep_lstNew {K:PySem.W.Frag}{Hq:Hp}{p:Addr}{ts:List T}{vs:List V}(hp:Hq p=none)(h:RepL K Hq ts vs):Rep K (upd Hq p (.lst vs)) (.lst ts) (.ref p):=by
 unfold Rep
 exact⟨p,vs,rfl,SqL.of upd_same,h.mono fun b o e=>by rw[upd_ne (ne_of_none e hp)];exact e⟩
section
variable {X:Cx}{z:Z}{e:Expr}{f:FE}
theorem er_of (h:EV X z e f):ER X z e f:=PE.imp h fun σ H Q ⟨ρ,Hq,t,r,e,k⟩=>⟨ρ,Hq,t,r,e,fun v Hq' H' x p=>k v Hq' H' x (.inl p)⟩
noncomputable def fNew (f:FA):FE:=fun ρ=>(f ρ).map T.lst
theorem ev_new {f:FA}(h:EF X z e f):EV X z e (fNew f):=PE.imp h fun σ H Q ⟨ρ,Hq,t,r,e,k⟩=>by
 unfold fNew at e
 cases q:f ρ with
 | none=>rw[q] at e;cases e
 | some ts =>
   rw[q] at e
   cases e
   refine⟨ρ,Hq,ts,r,q,fun p vs Hq' H' x hp hr=>k _ _ _ (x.trans (.new x.sub hp)) (rep_lstNew (x.sub.free hp) hr)⟩
noncomputable def gv (i:Nat):FE:=fun ρ=>match ρ[i]? with|some (some (.pu t))=>some t|_=>none
noncomputable def go (i:Nat):FE:=fun ρ=>match ρ[i]? with|some (some (.ow ts))=>some (.lst ts)|_=>none
theorem ev_var (i:Nat){x:Str}{pos:Pos}(hN:X.N[i]?=some x:=by rfl)(hv:Vis X.env.scope x:=by first|exact Or.inl rfl|exact Or.inr (Or.inl rfl)|exact Or.inr (Or.inr rfl)) (hd:(x==("__debug__":Str))=false:=by decide)
  (hcd:(x==("__classdict__":Str))=false:=by decide):EV X z (.Name x pos) (gv i):=PE.imp (pe_var hN hv hd hcd) fun σ H Q ⟨ρ,Hq,t,r,e,k⟩=>by
 unfold gv at e
 split at e
 ·rename_i t' h
  cases e
  obtain⟨v,h1,h2⟩:=r.pu i t h
  exact⟨v,h1,k v Hq H (.refl r.sub) h2⟩
 ·cases e
theorem er_own (i:Nat){x:Str}{pos:Pos}(hN:X.N[i]?=some x:=by rfl)(hv:Vis X.env.scope x:=by first|exact Or.inl rfl|exact Or.inr (Or.inl rfl)|exact Or.inr (Or.inr rfl)) (hd:(x==("__debug__":Str))=false:=by decide)
  (hcd:(x==("__classdict__":Str))=false:=by decide):ER X z (.Name x pos) (go i):=PE.imp (pe_var hN hv hd hcd) fun σ H Q ⟨ρ,Hq,t,r,e,k⟩=>by
 unfold go at e
 split at e
 ·rename_i ts h
  cases e
  obtain⟨a,vs,h1,h2,h3,h4,h5⟩:=r.ow i ts h
  exact⟨_,h1,k _ Hq H (.refl r.sub) (.inr ⟨a,vs,ts,rfl,rfl,h4,h5⟩)⟩
 ·cases e
noncomputable def kc (t:T):FE:=fun _=>some t
theorem ev_int {i:Int} {j pos}:EV X z (.Constant (.int i) j pos) (kc (.int i)):=PE.imp pe_int fun σ H Q ⟨ρ,Hq,t,r,e,k⟩=>by
 cases e;exact k _ Hq H (.refl r.sub) rep_int
theorem ev_bl {b j pos}:EV X z (.Constant (.bool b) j pos) (kc (.bl b)):=PE.imp pe_bl fun σ H Q ⟨ρ,Hq,t,r,e,k⟩=>by
 cases e;exact k _ Hq H (.refl r.sub) rep_bl
theorem ev_globI {x:Str}{i:Int}{tk:Tok}{pos:Pos}(hg:Gl X x)(hm:X.mg x=some (.int i tk)) (hd:(x==("__debug__":Str))=false:=by decide):EV X z (.Name x pos) (kc (.int i)) :=
 PE.imp (pe_glob (v:=.int i) hg hm ⟨tk,rfl⟩ hd) fun σ H Q ⟨ρ,Hq,t,r,e,k⟩=>by
  cases e;exact k _ Hq H (.refl r.sub) rep_int
end
section
variable {X:Cx}{z:Z}{e:Expr}{es:List Expr}{f:FE}{fa:FA}
noncomputable def fNil:FA:=fun _=>some []
noncomputable def fCons (f:FE)(g:FA):FA:=fun ρ=>match f ρ with|some t=>(match g ρ with|some ts=>some (t::ts)|none=>none)|none=>none
theorem fCons_some {f:FE}{g:FA}{ρ:Rho}{ts:List T}(h:fCons f g ρ=some ts):∃ t r,f ρ=some t∧g ρ=some r∧ts=t::r:=by
 unfold fCons at h
 split at h
 ·rename_i t e
  split at h
  ·rename_i r e2
   cases h
   exact⟨t,r,e,e2,rfl⟩
  ·cases h
 ·cases h
theorem ea_nil:EA X z [] fNil:=PA.imp pa_nil fun σ H Q ⟨ρ,Hq,ts,r,e,k⟩=>by
 cases e;exact k [] Hq H (.refl r.sub) .nil
theorem ea_cons (h:EV X z e f)(hr:EA X z es fa)(hs:starEach (e::es) X.env=(false,eval e X.env)::starEach es X.env:=by rfl):EA X z (e::es) (fCons f fa) :=
 PA.imp (pa_cons h hr hs) fun σ H Q ⟨ρ,Hq,ts,r,e,k⟩=>by
  obtain⟨t,us,e1,e2,rfl⟩:=fCons_some e
  exact⟨ρ,Hq,t,r,e1,fun v Hq1 H1 x1 r1=>⟨ρ,Hq1,us,r.ext x1,e2,fun vs Hq2 H2 x2 r2=>k _ Hq2 H2 (x1.trans x2) (.cons (r1.mono x2.q) r2)⟩⟩
noncomputable def fTup (fa:FA):FE:=fun ρ=>match fa ρ with|some ts=>if ts.length≤sizeLine then some (.tup ts) else none|none=>none
noncomputable def fLst (fa:FA):FA:=fun ρ=>match fa ρ with|some ts=>if ts.length≤sizeLine then some ts else none|none=>none
theorem ev_tup {x1 pos}(h:EA X z es fa):EV X z (.Tuple es x1 pos) (fTup fa) :=
 PE.imp (pe_tup h) fun σ H Q ⟨ρ,Hq,t,r,e,k⟩=>by
  unfold fTup at e
  split at e
  ·rename_i ts e1
   split at e
   ·rename_i hl
    cases e
    exact⟨ρ,Hq,ts,r,e1,fun vs Hq1 H1 x1 r1=>⟨by rw[← r1.length];exact hl,fun p hp=>k _ _ _ (x1.trans (.new x1.sub hp)) (rep_tupNew (x1.sub.free hp) r1)⟩⟩
   ·cases e
  ·cases e
theorem ef_lst {pos}(h:EA X z es fa):EF X z (.List es pos) (fLst fa) :=
 PE.imp (pe_lst h) fun σ H Q ⟨ρ,Hq,t,r,e,k⟩=>by
  unfold fLst at e
  split at e
  ·rename_i ts e1
   split at e
   ·rename_i hl
    cases e
    exact⟨ρ,Hq,_,r,e1,fun vs Hq1 H1 x1 r1=>⟨by rw[← r1.length];exact hl,fun p hp=>k _ _ _ _ x1 hp r1⟩⟩
   ·cases e
  ·cases e
end
noncomputable def Op2 (X:Cx)(f:Value→Value→Sem Value)(fn:T→T→Option T):Prop :=
 ∀(pins:List (Addr×Obj)) (s:Shared)(σ:St)(Hq H:Hp)(t u w:T)(x y:V)(v v':Value)(Q:VK),Inv X pins σ H s→RelV x v→RelV y v'→Same Hq H→RepR X.K Hq H t x→RepR X.K Hq H u y→fn t u=some w →
  (∀ q Hq' H',Ex Hq H Hq' H'→Rep X.K Hq' w q→Q q H')→wpAny (model X.prog X.w) X.A (f v v') (EP X pins σ Q) X.xe s
noncomputable def rT (K:PySem.W.Frag)(fn:T→T→Option T):R2:=fun x y H Q=>∃ Hq t u w,Same Hq H∧RepR K Hq H t x∧RepR K Hq H u y∧fn t u=some w∧∀ q Hq' H',Ex Hq H Hq' H'→Rep K Hq' w q→Q q H'
theorem Op2.r {X:Cx}{f:Value→Value→Sem Value}{fn:T→T→Option T}(h:Op2 X f fn):OpR X f (rT X.K fn):=fun pins s σ H x y v u Q I rx ry ⟨Hq,t,t',w,sb,r1,r2,e,k⟩=>h pins s σ Hq H t t' w x y v u Q I rx ry sb r1 r2 e k
noncomputable def f2 (fn:T→T→Option T)(f g:FE):FE:=fun ρ=>match f ρ with|some t=>(match g ρ with|some u=>fn t u|none=>none)|none=>none
theorem f2_some {fn:T→T→Option T}{f g:FE}{ρ:Rho}{w:T}(h:f2 fn f g ρ=some w):∃ t u,f ρ=some t∧g ρ=some u∧fn t u=some w:=by
 unfold f2 at h
 split at h
 ·rename_i t e
  split at h
  ·rename_i u e2
   exact⟨t,u,e,e2,h⟩
  ·cases h
 ·cases h
section
variable {X:Cx}{z:Z}{a b:Expr}{f g:FE}{fn:T→T→Option T}{pos:Pos}
theorem read2 (hK:z.K=X.K):∀ σ H Q,tT z (f2 fn f g) σ H Q→tOp (rT X.K fn) (tR z f) (tR z g) σ H Q:=fun σ H Q ⟨ρ,Hq,w,r,e,k⟩=>by
 obtain⟨t,u,e1,e2,e3⟩:=f2_some e
 rw[← hK]
 exact⟨ρ,Hq,t,r,e1,fun v Hq1 H1 x1 r1=>⟨ρ,Hq1,u,r.ext x1,e2,fun v2 Hq2 H2 x2 r2=>⟨Hq2,t,u,w,x2.sub,r1.ext x2,r2,e3,fun q Hq3 H3 x3 r3=>k q Hq3 H3 ((x1.trans x2).trans x3) r3⟩⟩⟩
theorem ev_op (hK:z.K=X.K){op:Operator}(ho:Op2 X (binaryOp op) fn) (ha:ER X z a f)(hb:ER X z b g):EV X z (.BinOp a op b pos) (f2 fn f g):=PE.imp (pe_op ho.r ha hb) (read2 hK)
theorem ev_cmp (hK:z.K=X.K){op:CmpOp}(ho:Op2 X (compareOp op) fn) (ha:ER X z a f)(hb:ER X z b g)(hm:behindInMarks op b=false):EV X z (.Compare a [op] [b] pos) (f2 fn f g):=PE.imp (pe_cmpR ho.r ha hb hm) (read2 hK)
noncomputable def fChain (fn fn':T→T→Option T)(f g h:FE):FE:=fun ρ=>match f ρ with|some t=>(match g ρ with|some u=>(match fn t u with|some (.bl true)=>(match h ρ with|some w=>fn' u w|none=>none)|some (.bl false)=>some (.bl false)|_=>none)|none=>none)|none=>none
end
section
variable {X:Cx}{z:Z}{a b e:Expr}{f g:FE}{ft gt:FT}{pos:Pos}
noncomputable def fB (f:FE):FT:=fun ρ=>match f ρ with|some (.bl b)=>some b|_=>none
theorem fB_some {f:FE}{ρ:Rho}{b:Bool}(h:fB f ρ=some b):f ρ=some (.bl b):=by
 unfold fB at h
 split at h
 ·rename_i b' e;cases h;exact e
 ·cases h
theorem readB:∀ σ H Q,tB2 z (fB f) σ H Q→tB (tT z f) σ H Q:=fun σ H Q ⟨ρ,Hq,b,r,e,k⟩ =>
 ⟨ρ,Hq,.bl b,r,fB_some e,fun v Hq' H' x p=>⟨b,p.b,k Hq' H' x⟩⟩
theorem et_val (h:EV X z e f)(he:∀ whole,isTrue e X.env whole=(do let v ← whole;standAt e.pos;holding [v] (truthy v)):=by intro _;rfl):ET X z e (fB f):=PT.imp (pt_val h he) readB
theorem et_cmp (hK:z.K=X.K){fn:T→T→Option T}{op:CmpOp}(ho:Op2 X (compareOp op) fn) (ha:ER X z a f)(hb:ER X z b g)(hm:behindInMarks op b=false):ET X z (.Compare a [op] [b] pos) (fB (f2 fn f g)) :=
 PT.imp (pt_cmpR ho.r ha hb hm) fun σ H Q ⟨ρ,Hq,b,r,e,k⟩=>by
  have q:=read2 (X:=X) (fn:=fn) (f:=f) (g:=g) hK σ H (fun x H'=>∃ k,x=.bl k∧Q k H') ⟨ρ,Hq,.bl b,r,fB_some e,fun v Hq' H' x p=>⟨b,p.b,k Hq' H' x⟩⟩
  exact q
noncomputable def fNot (f:FT):FT:=fun ρ=>(f ρ).map (!·)
theorem et_not (h:ET X z a ft):ET X z (.UnaryOp .Not a pos) (fNot ft):=PT.imp (pt_not h) fun σ H Q ⟨ρ,Hq,b,r,e,k⟩=>by
 unfold fNot at e
 cases q:ft ρ with
 | none=>rw[q] at e;cases e
 | some c =>
   rw[q] at e
   cases e
   exact⟨ρ,Hq,c,r,q,k⟩
noncomputable def fAnd (f g:FT):FT:=fun ρ=>match f ρ with|some true=>g ρ|some false=>some false|none=>none
noncomputable def fOr (f g:FT):FT:=fun ρ=>match f ρ with|some false=>g ρ|some true=>some true|none=>none
theorem readOr:∀ σ H Q,tB2 z (fOr ft gt) σ H Q→tOr (tB2 z ft) (tB2 z gt) σ H Q:=fun σ H Q ⟨ρ,Hq,b,r,e,k⟩=>by
 unfold fOr at e
 split at e
 ·rename_i q
  exact⟨ρ,Hq,false,r,q,fun Hq1 H1 x1=>iteF ⟨ρ,Hq1,b,r.ext x1,e,fun Hq2 H2 x2=>k Hq2 H2 (x1.trans x2)⟩⟩
 ·rename_i q
  cases e
  exact⟨ρ,Hq,true,r,q,fun Hq1 H1 x1=>iteT (k Hq1 H1 x1)⟩
 ·cases e
noncomputable abbrev EW (X:Cx)(z:Z)(e:Expr)(f:FT):Prop:=PW X e (tB2 z f)
theorem PW.imp {X:Cx}{e:Expr}{t t':TT}(h:PW X e t)(i:∀ σ H Q,t' σ H Q→t σ H Q):PW X e t':=fun wh pins s σ H Q I q=>h wh pins s σ H Q I (i σ H Q q)
variable {rest:List Expr}
theorem ew_or1 (h:ET X z a ft):EW X z (.BoolOp .Or [a] pos) ft:=pw_or1 h
theorem ew_or (h:ET X z a ft)(hb:EW X z (.BoolOp .Or (b::rest) pos) gt):EW X z (.BoolOp .Or (a::b::rest) pos) (fOr ft gt):=PW.imp (pw_or h hb) readOr
theorem et_w (h:EW X z e ft):ET X z e ft:=h.pt
noncomputable def fAndV (f g:FE):FE:=fun ρ=>match f ρ with|some (.bl true)=>g ρ|some (.bl false)=>some (.bl false)|_=>none
noncomputable def fOrV (f g:FE):FE:=fun ρ=>match f ρ with|some (.bl false)=>g ρ|some (.bl true)=>some (.bl true)|_=>none
noncomputable def fNotV (f:FE):FE:=fun ρ=>match f ρ with|some (.bl b)=>some (.bl (!b))|_=>none
noncomputable def fIf (c:FT)(f g:FE):FE:=fun ρ=>match c ρ with|some true=>f ρ|some false=>g ρ|none=>none
theorem ev_ifExp {c:Expr}(hc:ET X z c ft)(ha:EV X z a f)(hb:EV X z b g):EV X z (.IfExp c a b pos) (fIf ft f g):=PE.imp (pe_ifExp hc ha hb) fun σ H Q ⟨ρ,Hq,t,r,e,k⟩=>by
 unfold fIf at e
 split at e
 ·rename_i q
  exact⟨ρ,Hq,true,r,q,fun Hq1 H1 x1=>iteT ⟨ρ,Hq1,t,r.ext x1,e,fun v2 Hq2 H2 x2=>k v2 Hq2 H2 (x1.trans x2)⟩⟩
 ·rename_i q
  exact⟨ρ,Hq,false,r,q,fun Hq1 H1 x1=>iteF ⟨ρ,Hq1,t,r.ext x1,e,fun v2 Hq2 H2 x2=>k v2 Hq2 H2 (x1.trans x2)⟩⟩
 ·cases e
end
noncomputable def spT (K:PySem.W.Frag) (n:Nat)(F:List T→Option T):Sp:=fun vs H Q _=>∃ Hq ts t,ts.length=n∧Same Hq H∧RepL K Hq ts vs∧F ts=some t∧∀ v Hq' H',Ex Hq H Hq' H'→Rep K Hq' t v→Q v H'
noncomputable def fCall (n:Nat)(F:List T→Option T)(fa:FA):FE:=fun ρ=>match fa ρ with|some ts=>if ts.length=n then F ts else none|none=>none
section
variable {X:Cx}{z:Z}{k n:Nat}{f:Addr}{fd:FuncData}{ps:List Str}{x:Str}{p pos:Pos}{e:Expr}{es:List Expr}{fa:FA}{F:List T→Option T}
theorem ev_call (hK:z.K=X.K)(G:FnOk X.prog X.w X.K X.mg X.base CX0 k f fd ps (spT X.K n F)) (hr:Room k X.A)(hg:Gl X x)(hm:X.mg x=some (.ref f)) (hk:PySem.W.keepIn X.K (.ref f)=true) (hb:Binds X.K fd ps [])
  (hl:ps.length=n)(ha:EA X z (e::es) fa)
  (hd:(x==("__debug__":Str))=false:=by decide) (hs:starEach (e::es) X.env=(false,eval e X.env)::starEach es X.env:=by rfl) (hpl:(backTo pos (starEach es X.env)).any (·.1)=false:=by rfl) :
  EV X z (.Call (.Name x p) (e::es) [] pos) (fCall n F fa) :=
 PE.imp (pe_call (E:=E0) (dvs:=[]) G hr hg hm hk hb .nil pass0 ha hd hs hpl) fun σ H Q ⟨ρ,Hq,t,r,e,k⟩=>by
  unfold fCall at e
  split at e
  ·rename_i ts e1
   split at e
   ·rename_i hl
    refine⟨ρ,Hq,ts,r,e1,fun vs Hq1 H1 x1 r1=>?_⟩
    show spT X.K n F (vs++[]) H1 Q E0
    rw[List.append_nil]
    exact⟨Hq1,ts,t,hl,x1.sub,hK▸r1,e,fun v Hq2 H2 x2 r2=>k v Hq2 H2 (x1.trans x2) (hK▸r2)⟩
   ·cases e
  ·cases e
end
end TL
namespace TL
open PySem L2
noncomputable def b2 (b:Bool):Int:=if b then 1 else 0
mutual
noncomputable def teq:T→T→Bool
 | .non,.non=>true
 | .bl a,.bl b=>a==b
 | .int a,.int b=>a==b
 | .bl a,.int b=>b2 a==b
 | .int a,.bl b=>a==b2 b
 | .str a,.str b=>a==b
 | .tup as,.tup bs=>teqL as bs
 | .lst as,.lst bs=>teqL as bs
 | .dct a,.dct b=>a==b
 | _,_=>false
noncomputable def teqL:List T→List T→Bool
 | [],[]=>true
 | a::as,b::bs=>teq a b&&teqL as bs
 | _,_=>false
end
mutual
noncomputable def dep:T→Nat
 | .tup as=>depL as+1
 | .lst as=>depL as+1
 | .dct _=>100000
 | _=>0
noncomputable def depL:List T→Nat
 | []=>0
 | a::as=>max (dep a) (depL as)
end
mutual
theorem teq_refl:∀ t:T,teq t t=true
 | .non=>rfl
 | .bl a=>by simp [teq]
 | .int a=>by simp [teq]
 | .str a=>by simp [teq]
 | .tup as=>by simp only[teq];exact teqL_refl as
 | .lst as=>by simp only[teq];exact teqL_refl as
 | .dct d=>by simp [teq]
theorem teqL_refl:∀ t:List T,teqL t t=true
 | []=>rfl
 | a::as=>by simp only[teqL,teq_refl a,teqL_refl as];rfl
end
section
variable {X:Cx}{pins:List (Addr×Obj)}{σ:St}{H:Hp}{s:Shared}
theorem get_len_ne {α:Type}{as bs:List α}(h:as.length≠bs.length):(as.length != bs.length)=true:=by simpa using h
theorem rep_dict (I:Inv X pins σ H s){a:Addr}{xs:List (List Nat×Addr×Addr)}(h:H a=some (DictO a xs)):(a==sysModules)=false∧∃ ep,s.heap.get? a=some {cls:=.type "dict",data:=.dict (xs.map entD).toArray ep}:=(I.hok a _ h).1
theorem rep_dictAt (I:Inv X pins σ H s){a:Addr}{xs:List (List Nat×Addr×Addr)}(h:H a=some (DictO a xs)):PySem.SeqAt.DictAt s.heap a:=by
 obtain⟨_,ep,ho⟩:=rep_dict I h
 exact⟨_,ep,ho⟩
theorem vInts_inj {k l:List Nat}(h:vInts k=vInts l):k=l :=
 List.map_inj_right (f:=fun(n:Nat)=>V.int (n:Int)) (fun x y z=>by injection z with z;omega) |>.mp h
theorem repD_inj' (I:Inv X pins σ H s):∀{d e:List (List Nat×List Nat)}{xs ys:List (List Nat×Addr×Addr)},Paired (fun p x=>x.1=p.1∧SqT X.K H x.2.1 (vInts p.1)∧SqT X.K H x.2.2 (vInts p.2)) d xs →
  Paired (fun p x=>x.1=p.1∧SqT X.K H x.2.1 (vInts p.1)∧SqT X.K H x.2.2 (vInts p.2)) e ys→xs.map entD=ys.map entD→d=e
 | _,_,_,_,.nil,.nil,_=>rfl
 | _,_,_,_,.nil,.cons _ _,h=>by simp at h
 | _,_,_,_,.cons _ _,.nil,h=>by simp at h
 | (a,b)::d,(a',b')::e,(x,y,z)::xs,(x',y',z')::ys,.cons ⟨h1,h2,h3⟩ r,.cons ⟨g1,g2,g3⟩ r',h=>by
   rw[List.map_cons,List.map_cons] at h
   injection h with hh ht
   rw[repD_inj' I r r' ht]
   unfold entD at hh
   injection hh with e1 e2 e3
   injection e2 with e2
   injection e3 with e3
   simp only at e2 e3 h2 h3 g2 g3
   subst e2 e3
   rw[vInts_inj (I.tuple_inj h2 g2),vInts_inj (I.tuple_inj h3 g3)]
mutual
theorem rep_inj (I:Inv X pins σ H s):∀{t u:T}{v:V},Rep X.K H t v→Rep X.K H u v→teq t u=true
 | .non,u,v,h,q=>by
   unfold Rep at h;subst h
   cases u<;>unfold Rep at q<;>first|rfl|(exact absurd q (fun z=>nomatch z))|(exact absurd q.choose_spec.choose_spec.1 (fun z=>nomatch z))
 | .bl b,u,v,h,q=>by
   unfold Rep at h;subst h
   cases u<;>unfold Rep at q<;>first|(cases q;simp [teq];done)|(exact absurd q (fun z=>nomatch z))|(exact absurd q.choose_spec.choose_spec.1 (fun z=>nomatch z))
 | .int b,u,v,h,q=>by
   unfold Rep at h;subst h
   cases u<;>unfold Rep at q<;>first|(cases q;simp [teq];done)|(exact absurd q (fun z=>nomatch z))|(exact absurd q.choose_spec.choose_spec.1 (fun z=>nomatch z))
 | .str b,u,v,h,q=>by
   unfold Rep at h;subst h
   cases u<;>unfold Rep at q<;>first|(cases q;simp [teq];done)|(exact absurd q (fun z=>nomatch z))|(exact absurd q.choose_spec.choose_spec.1 (fun z=>nomatch z))
 | .tup ts,u,v,h,q=>by
   unfold Rep at h
   obtain⟨a,vs,rfl,h2,h3⟩:=h
   cases u with
   | tup us =>
     unfold Rep at q
     obtain⟨b,ws,e,q2,q3⟩:=q
     cases e
     rw[I.tuple_inj q2 h2] at q3
     unfold teq
     exact repL_inj I h3 q3
   | lst us =>
     unfold Rep at q
     obtain⟨b,ws,e,q2,q3⟩:=q
     cases e
     obtain⟨its,_,⟨o,e1,c1,_⟩,_⟩:=I.tuple h2
     obtain⟨its2,_,⟨o2,n2,e2,c2,_⟩,_⟩:=I.list q2
     rw[e1] at e2;cases e2;rw[c1] at c2;injection c2 with z;exact absurd z (by decide)
   | non=>unfold Rep at q;cases q
   | bl _=>unfold Rep at q;cases q
   | int _=>unfold Rep at q;cases q
   | str _=>unfold Rep at q;cases q
   | dct d =>
     unfold Rep at q
     obtain⟨b,kvs,e,q2,q3⟩:=q
     cases e
     obtain⟨its,_,p,_⟩:=I.tuple h2
     exact absurd rfl (PySem.SeqAt.ne_tuple_dict p (rep_dictAt I q2))
 | .lst ts,u,v,h,q=>by
   unfold Rep at h
   obtain⟨a,vs,rfl,h2,h3⟩:=h
   cases u with
   | lst us =>
     unfold Rep at q
     obtain⟨b,ws,e,q2,q3⟩:=q
     cases e
     rw[I.list_inj q2 h2] at q3
     unfold teq
     exact repL_inj I h3 q3
   | tup us =>
     unfold Rep at q
     obtain⟨b,ws,e,q2,q3⟩:=q
     cases e
     obtain⟨its,_,⟨o,e1,c1,_⟩,_⟩:=I.tuple q2
     obtain⟨its2,_,⟨o2,n2,e2,c2,_⟩,_⟩:=I.list h2
     rw[e1] at e2;cases e2;rw[c1] at c2;injection c2 with z;exact absurd z (by decide)
   | non=>unfold Rep at q;cases q
   | bl _=>unfold Rep at q;cases q
   | int _=>unfold Rep at q;cases q
   | str _=>unfold Rep at q;cases q
   | dct d =>
     unfold Rep at q
     obtain⟨b,kvs,e,q2,q3⟩:=q
     cases e
     obtain⟨its,_,p,_⟩:=I.list h2
     exact absurd rfl (PySem.SeqAt.ne_list_dict p.isList (rep_dictAt I q2))
 | .dct d,u,v,h,q=>by
   unfold Rep at h
   obtain⟨a,kvs,rfl,h2,h3⟩:=h
   cases u with
   | tup us =>
     unfold Rep at q
     obtain⟨b,ws,e,q2,q3⟩:=q
     cases e
     obtain⟨its,_,p,_⟩:=I.tuple q2
     exact absurd rfl (PySem.SeqAt.ne_tuple_dict p (rep_dictAt I h2))
   | lst us =>
     unfold Rep at q
     obtain⟨b,ws,e,q2,q3⟩:=q
     cases e
     obtain⟨its,_,p,_⟩:=I.list q2
     exact absurd rfl (PySem.SeqAt.ne_list_dict p.isList (rep_dictAt I h2))
   | dct e =>
     unfold Rep at q
     obtain⟨b,kvs',e',q2,q3⟩:=q
     cases e'
     obtain⟨_,ep,o1⟩:=rep_dict I h2
     obtain⟨_,ep',o2⟩:=rep_dict I q2
     rw[o1] at o2
     injection o2 with o2
     injection o2 with _ _ o3 _
     injection o3 with o3 _
     have o4:=congrArg Array.toList o3
     simp only at o4
     rw[repD_inj' I h3.2 q3.2 o4]
     simp [teq]
   | non=>unfold Rep at q;cases q
   | bl _=>unfold Rep at q;cases q
   | int _=>unfold Rep at q;cases q
   | str _=>unfold Rep at q;cases q
theorem repL_inj (I:Inv X pins σ H s):∀{t u:List T}{v:List V},RepL X.K H t v→RepL X.K H u v→teqL t u=true
 | [],u,v,h,q=>by
   unfold RepL at h;subst h
   cases u with
   | nil=>rfl
   | cons a as=>unfold RepL at q;obtain⟨_,_,z,_⟩:=q;cases z
 | t::ts,u,v,h,q=>by
   unfold RepL at h
   obtain⟨x,r,rfl,h2,h3⟩:=h
   cases u with
   | nil=>unfold RepL at q;cases q
   | cons a as =>
     unfold RepL at q
     obtain⟨y,r',e,q2,q3⟩:=q
     cases e
     unfold teqL
     rw[rep_inj I h2 q2,repL_inj I h3 q3];rfl
end
theorem RepR.rep {K:PySem.W.Frag}{Hq H:Hp}{t:T}{v:V}(h:RepR K Hq H t v)(sb:Same Hq H):Rep K H t v:=by
 rcases h with h|⟨a,vs,ts,rfl,rfl,h3,h4⟩
 ·exact h.mono sb
 ·unfold Rep
  exact⟨a,vs,rfl,SqL.of h3,h4.mono sb⟩
open SeqAt
noncomputable def eqJ (ts us:List T) (j:Nat):Bool:=match ts[j]?,us[j]? with|some x,some y=>teq x y|_,_=>true
theorem eqJ_all:∀(ts us:List T),ts.length=us.length→(List.range ts.length).all (eqJ ts us)=teqL ts us
 | [],[],_=>rfl
 | [],_::_,h=>by simp at h
 | _::_,[],h=>by simp at h
 | t::ts,u::us,h=>by
   have ih:=eqJ_all ts us (by simpa using h)
   rw[List.length_cons,List.range_succ_eq_map,List.all_cons,List.all_map]
   have e1:eqJ (t::ts) (u::us) 0=teq t u:=rfl
   have e2:(eqJ (t::ts) (u::us) ∘ Nat.succ)=eqJ ts us:=by funext j;simp [eqJ]
   rw[e1,e2,ih]
   simp only[teqL]
theorem teqL_len:∀{ts us:List T},teqL ts us=true→ts.length=us.length
 | [],[],_=>rfl
 | [],_::_,h=>by simp [teqL] at h
 | _::_,[],h=>by simp [teqL] at h
 | t::ts,u::us,h=>by
   simp only[teqL,Bool.and_eq_true] at h
   simp [teqL_len h.2]
theorem teqL_ne {ts us:List T}(h:ts.length≠us.length):teqL ts us=false:=by
 cases e:teqL ts us with
 | false=>rfl
 | true=>exact absurd (teqL_len e) h
theorem eqJ_tup (ts us:List T):((List.range (min ts.length us.length)).all (eqJ ts us)&&ts.length==us.length)=teqL ts us:=by
 by_cases h:ts.length=us.length
 ·rw[← h,Nat.min_self,eqJ_all ts us h];simp
 ·rw[teqL_ne h]
  have:(ts.length==us.length)=false:=by simpa using h
  rw[this,Bool.and_false]
theorem dep_mem:∀{ts:List T}{j:Nat}{t:T},ts[j]?=some t→dep t≤depL ts
 | [],_,_,h=>by simp at h
 | a::as,0,t,h=>by simp at h;subst h;simp only[depL];exact Nat.le_max_left _ _
 | a::as,j+1,t,h=>by
   have:=dep_mem (ts:=as) (j:=j) (t:=t) (by simpa using h)
   simp only[depL];exact Nat.le_trans this (Nat.le_max_right _ _)
theorem sz_mem:∀{ts:List T}{j:Nat}{t:T},ts[j]?=some t→sizeOf t<sizeOf ts
 | [],_,_,h=>by simp at h
 | a::as,0,t,h=>by simp at h;subst h;simp;omega
 | a::as,j+1,t,h=>by
   have:=sz_mem (ts:=as) (j:=j) (t:=t) (by simpa using h)
   simp;omega
theorem rel_at {xs:List V}{its:List Value}(r:Vals xs its){j:Nat}(h:j<its.toArray.size){x:V}(e:xs[j]?=some x):RelV x its.toArray[j]:=by
 obtain⟨u,h1,h2⟩:=r.get e
 have:its.toArray[j]=u:=by
  rw[List.getElem_toArray]
  exact Option.some.inj ((List.getElem?_eq_getElem _).symm.trans h1)
 rw[this];exact h2
theorem eq_all (I:Inv X pins σ H s):∀(n:Nat)(t u:T)(x y:V)(a b:Value)(A:Around),sizeOf t<n→RelV x a→RelV y b→Rep X.K H t x→Rep X.K H u y→A.units+dep t<cLine →
  RcAt A s a b (teq t u)∧EqAt A s a b (teq t u):=by
 intro n
 induction n with
 | zero=>intro t u x y a b A h;exact absurd h (Nat.not_lt_zero _)
 | succ n ih =>
   intro t u x y a b A hn rx ry hx hy hu
   have hu0:A.units<cLine:=by omega
   have seqT:∀{ts us:List T}{l m:Addr}{vs ws:List V},sizeOf ts<n→A.units+depL ts+1<cLine→SqT X.K H l vs→SqT X.K H m ws→RepL X.K H ts vs→RepL X.K H us ws→RcAt A s (.ref l) (.ref m) (teqL ts us):=fun{ts us l m vs ws} h0 h1 h2 h3 h4 h5=>by
    obtain⟨its,r1,p1,_⟩:=I.tuple h2
    obtain⟨its2,r2,p2,_⟩:=I.tuple h3
    have l1:its.toArray.size=ts.length:=by rw[List.size_toArray,← r1.length,h4.length]
    have l2:its2.toArray.size=us.length:=by rw[List.size_toArray,← r2.length,h5.length]
    have:=RcAt.tuples (A:=A) (e:=eqJ ts us) p1 p2 hu0 fun j j1 j2=>by
     have e1:ts[j]?=some (ts[j]'(by omega)):=List.getElem?_eq_getElem _
     have e2:us[j]?=some (us[j]'(by omega)):=List.getElem?_eq_getElem _
     obtain⟨v,ev,hv⟩:=h4.get e1
     obtain⟨w,ew,hw⟩:=h5.get e2
     have e3:eqJ ts us j=teq (ts[j]'(by omega)) (us[j]'(by omega)):=by unfold eqJ;rw[e1,e2]
     rw[e3]
     exact(ih _ _ v w _ _ A.in1 (Nat.lt_of_lt_of_le (sz_mem e1) (Nat.le_of_lt h0)) (rel_at r1 j1 ev) (rel_at r2 j2 ew) hv hw (by have:=dep_mem e1;show A.units+1+_<cLine;omega)).2
    rw[l1,l2,eqJ_tup] at this
    exact this
   have seqL:∀{ts us:List T}{l m:Addr}{vs ws:List V},sizeOf ts<n→A.units+depL ts+1<cLine→SqL X.K H l vs→SqL X.K H m ws→RepL X.K H ts vs→RepL X.K H us ws→RcAt A s (.ref l) (.ref m) (teqL ts us):=fun{ts us l m vs ws} h0 h1 h2 h3 h4 h5=>by
    obtain⟨its,r1,p1,_⟩:=I.list h2
    obtain⟨its2,r2,p2,_⟩:=I.list h3
    have l1:its.toArray.size=ts.length:=by rw[List.size_toArray,← r1.length,h4.length]
    have l2:its2.toArray.size=us.length:=by rw[List.size_toArray,← r2.length,h5.length]
    by_cases hl:ts.length=us.length
    ·have:=RcAt.lists (A:=A) (e:=eqJ ts us) p1.isList p2.isList (by rw[l1,l2,hl]) hu0 fun j j1 j2=>by
      have e1:ts[j]?=some (ts[j]'(by omega)):=List.getElem?_eq_getElem _
      have e2:us[j]?=some (us[j]'(by omega)):=List.getElem?_eq_getElem _
      obtain⟨v,ev,hv⟩:=h4.get e1
      obtain⟨w,ew,hw⟩:=h5.get e2
      have e3:eqJ ts us j=teq (ts[j]'(by omega)) (us[j]'(by omega)):=by unfold eqJ;rw[e1,e2]
      rw[e3]
      exact(ih _ _ v w _ _ A.in1 (Nat.lt_of_lt_of_le (sz_mem e1) (Nat.le_of_lt h0)) (rel_at r1 j1 ev) (rel_at r2 j2 ew) hv hw (by have:=dep_mem e1;show A.units+1+_<cLine;omega)).2
     rw[l1,eqJ_all ts us hl] at this
     exact this
    ·rw[teqL_ne hl]
     exact RcAt.lists_lengths p1.isList p2.isList (by rw[l1,l2];exact get_len_ne hl) hu0
   have both:∀{l m:Addr}{k:Bool},x=.ref l→y=.ref m→teq t u=k→RcAt A s (.ref l) (.ref m) k→RcAt A s (.ref l) (.ref m) k∧EqAt A s (.ref l) (.ref m) k:=fun{l m k} ex ey ek h=>by
    refine⟨h,?_⟩
    by_cases e:l=m
    ·subst e
     subst ex ey
     have:k=true:=by rw[← ek];exact rep_inj I hx hy
     rw[this];exact EqAt.same _
    ·exact EqAt.of_refs e h
   cases t with
   | non =>
     cases hx.n;cases rx
     cases u with
     | non=>cases hy.n;cases ry;exact⟨.none_none,.same _⟩
     | bl c=>cases hy.b;cases ry;exact⟨.none_bool c,.none_bool c⟩
     | int c=>cases hy.i;obtain⟨k,rfl⟩:=ry;exact⟨.none_int c k,.none_int c k⟩
     | str c=>cases hy.s;obtain⟨k,rfl⟩:=ry;exact⟨.none_str c k,.none_str c k⟩
     | tup us=>unfold Rep at hy;obtain⟨m,ws,rfl,q2,q3⟩:=hy;cases ry;obtain⟨_,_,p,_⟩:=I.tuple q2;exact⟨.none_tuple p hu0,.none_tuple p hu0⟩
     | lst us=>unfold Rep at hy;obtain⟨m,ws,rfl,q2,q3⟩:=hy;cases ry;obtain⟨_,_,p,_⟩:=I.list q2;exact⟨.none_list p.isList hu0,.none_list p.isList hu0⟩
     | dct us=>unfold Rep at hy;obtain⟨m,ws,rfl,q2,q3⟩:=hy;cases ry;exact⟨.none_dict (rep_dictAt I q2) hu0,.none_dict (rep_dictAt I q2) hu0⟩
   | bl d =>
     cases hx.b;cases rx
     cases u with
     | non=>cases hy.n;cases ry;exact⟨.bool_none d,.bool_none d⟩
     | bl c=>cases hy.b;cases ry;exact⟨.bool_bool d c,.bool_bool d c⟩
     | int c=>cases hy.i;obtain⟨k,rfl⟩:=ry;exact⟨.bool_int d c k,.bool_int d c k⟩
     | str c=>cases hy.s;obtain⟨k,rfl⟩:=ry;exact⟨.bool_str d c k,.bool_str d c k⟩
     | tup us=>unfold Rep at hy;obtain⟨m,ws,rfl,q2,q3⟩:=hy;cases ry;obtain⟨_,_,p,_⟩:=I.tuple q2;exact⟨.bool_tuple d p hu0,.bool_tuple d p hu0⟩
     | lst us=>unfold Rep at hy;obtain⟨m,ws,rfl,q2,q3⟩:=hy;cases ry;obtain⟨_,_,p,_⟩:=I.list q2;exact⟨.bool_list d p.isList hu0,.bool_list d p.isList hu0⟩
     | dct us=>unfold Rep at hy;obtain⟨m,ws,rfl,q2,q3⟩:=hy;cases ry;exact⟨.bool_dict d (rep_dictAt I q2) hu0,.bool_dict d (rep_dictAt I q2) hu0⟩
   | int d =>
     cases hx.i;obtain⟨kk,rfl⟩:=rx
     cases u with
     | non=>cases hy.n;cases ry;exact⟨.int_none d kk,.int_none d kk⟩
     | bl c=>cases hy.b;cases ry;exact⟨.int_bool d kk c,.int_bool d kk c⟩
     | int c=>cases hy.i;obtain⟨k,rfl⟩:=ry;exact⟨.int_int d kk c k,.int_int d kk c k⟩
     | str c=>cases hy.s;obtain⟨k,rfl⟩:=ry;exact⟨.int_str d kk c k,.int_str d kk c k⟩
     | tup us=>unfold Rep at hy;obtain⟨m,ws,rfl,q2,q3⟩:=hy;cases ry;obtain⟨_,_,p,_⟩:=I.tuple q2;exact⟨.int_tuple d kk p hu0,.int_tuple d kk p hu0⟩
     | lst us=>unfold Rep at hy;obtain⟨m,ws,rfl,q2,q3⟩:=hy;cases ry;obtain⟨_,_,p,_⟩:=I.list q2;exact⟨.int_list d kk p.isList hu0,.int_list d kk p.isList hu0⟩
     | dct us=>unfold Rep at hy;obtain⟨m,ws,rfl,q2,q3⟩:=hy;cases ry;exact⟨.int_dict d kk (rep_dictAt I q2) hu0,.int_dict d kk (rep_dictAt I q2) hu0⟩
   | str d =>
     cases hx.s;obtain⟨kk,rfl⟩:=rx
     cases u with
     | non=>cases hy.n;cases ry;exact⟨.str_none d kk,.str_none d kk⟩
     | bl c=>cases hy.b;cases ry;exact⟨.str_bool d kk c,.str_bool d kk c⟩
     | int c=>cases hy.i;obtain⟨k,rfl⟩:=ry;exact⟨.str_int d kk c k,.str_int d kk c k⟩
     | str c=>cases hy.s;obtain⟨k,rfl⟩:=ry;exact⟨.str_str d kk c k,.str_str d kk c k⟩
     | tup us=>unfold Rep at hy;obtain⟨m,ws,rfl,q2,q3⟩:=hy;cases ry;obtain⟨_,_,p,_⟩:=I.tuple q2;exact⟨.str_tuple d kk p hu0,.str_tuple d kk p hu0⟩
     | lst us=>unfold Rep at hy;obtain⟨m,ws,rfl,q2,q3⟩:=hy;cases ry;obtain⟨_,_,p,_⟩:=I.list q2;exact⟨.str_list d kk p.isList hu0,.str_list d kk p.isList hu0⟩
     | dct us=>unfold Rep at hy;obtain⟨m,ws,rfl,q2,q3⟩:=hy;cases ry;exact⟨.str_dict d kk (rep_dictAt I q2) hu0,.str_dict d kk (rep_dictAt I q2) hu0⟩
   | tup ts =>
     have hx':=hx
     unfold Rep at hx';obtain⟨l,vs,ex,q2,q3⟩:=hx'
     have rx':a=.ref l:=by rw[ex] at rx;exact rx
     subst rx'
     obtain⟨_,_,p,_⟩:=I.tuple q2
     cases u with
     | non=>cases hy.n;cases ry;exact⟨.tuple_none p hu0,.tuple_none p hu0⟩
     | bl c=>cases hy.b;cases ry;exact⟨.tuple_bool c p hu0,.tuple_bool c p hu0⟩
     | int c=>cases hy.i;obtain⟨k,rfl⟩:=ry;exact⟨.tuple_int c k p hu0,.tuple_int c k p hu0⟩
     | str c=>cases hy.s;obtain⟨k,rfl⟩:=ry;exact⟨.tuple_str c k p hu0,.tuple_str c k p hu0⟩
     | tup us =>
       have hy':=hy
       unfold Rep at hy';obtain⟨m,ws,ey,w2,w3⟩:=hy'
       have ry':b=.ref m:=by rw[ey] at ry;exact ry
       subst ry'
       exact both ex ey rfl (seqT (by simp at hn;omega) (by simp only[dep] at hu;omega) q2 w2 q3 w3)
     | lst us =>
       have hy':=hy
       unfold Rep at hy';obtain⟨m,ws,ey,w2,w3⟩:=hy'
       have ry':b=.ref m:=by rw[ey] at ry;exact ry
       subst ry'
       obtain⟨_,_,p',_⟩:=I.list w2
       exact⟨.tuple_list p p'.isList hu0,.tuple_list p p'.isList hu0⟩
     | dct us =>
       have hy':=hy
       unfold Rep at hy';obtain⟨m,ws,ey,w2,w3⟩:=hy'
       have ry':b=.ref m:=by rw[ey] at ry;exact ry
       subst ry'
       exact⟨.tuple_dict p (rep_dictAt I w2) hu0,.tuple_dict p (rep_dictAt I w2) hu0⟩
   | lst ts =>
     have hx':=hx
     unfold Rep at hx';obtain⟨l,vs,ex,q2,q3⟩:=hx'
     have rx':a=.ref l:=by rw[ex] at rx;exact rx
     subst rx'
     obtain⟨_,_,p,_⟩:=I.list q2
     cases u with
     | non=>cases hy.n;cases ry;exact⟨.list_none p.isList hu0,.list_none p.isList hu0⟩
     | bl c=>cases hy.b;cases ry;exact⟨.list_bool c p.isList hu0,.list_bool c p.isList hu0⟩
     | int c=>cases hy.i;obtain⟨k,rfl⟩:=ry;exact⟨.list_int c k p.isList hu0,.list_int c k p.isList hu0⟩
     | str c=>cases hy.s;obtain⟨k,rfl⟩:=ry;exact⟨.list_str c k p.isList hu0,.list_str c k p.isList hu0⟩
     | lst us =>
       have hy':=hy
       unfold Rep at hy';obtain⟨m,ws,ey,w2,w3⟩:=hy'
       have ry':b=.ref m:=by rw[ey] at ry;exact ry
       subst ry'
       exact both ex ey rfl (seqL (by simp at hn;omega) (by simp only[dep] at hu;omega) q2 w2 q3 w3)
     | tup us =>
       have hy':=hy
       unfold Rep at hy';obtain⟨m,ws,ey,w2,w3⟩:=hy'
       have ry':b=.ref m:=by rw[ey] at ry;exact ry
       subst ry'
       obtain⟨_,_,p',_⟩:=I.tuple w2
       exact⟨.list_tuple p.isList p' hu0,.list_tuple p.isList p' hu0⟩
     | dct us =>
       have hy':=hy
       unfold Rep at hy';obtain⟨m,ws,ey,w2,w3⟩:=hy'
       have ry':b=.ref m:=by rw[ey] at ry;exact ry
       subst ry'
       exact⟨.list_dict p.isList (rep_dictAt I w2) hu0,.list_dict p.isList (rep_dictAt I w2) hu0⟩
   | dct d=>simp only[dep] at hu;exact absurd hu (by simp [cLine])
end
end TL
namespace TL
open PySem L2
mutual
noncomputable def nrm:T→T
 | .bl b=>.int (b2 b)
 | .tup as=>.tup (nrmL as)
 | .lst as=>.lst (nrmL as)
 | t=>t
noncomputable def nrmL:List T→List T
 | []=>[]
 | a::as=>nrm a::nrmL as
end
theorem b2_inj {a b:Bool}(h:b2 a=b2 b):a=b:=by cases a<;>cases b<;>first|rfl|(exact absurd h (by decide))
mutual
theorem teq_iff:∀ t u:T,teq t u=true↔nrm t=nrm u
 | .non,u=>by cases u<;>simp [teq,nrm]
 | .bl a,u=>by
   cases u<;>simp [teq,nrm]
   exact⟨fun h=>by rw[h],b2_inj⟩
 | .int a,u=>by cases u<;>simp [teq,nrm]
 | .str a,u=>by cases u<;>simp [teq,nrm]
 | .tup as,u=>by
   cases u with
   | tup bs=>simp only[teq,nrm];rw[teqL_iff as bs];exact⟨fun h=>by rw[h],fun h=>by injection h⟩
   | _=>simp [teq,nrm]
 | .lst as,u=>by
   cases u with
   | lst bs=>simp only[teq,nrm];rw[teqL_iff as bs];exact⟨fun h=>by rw[h],fun h=>by injection h⟩
   | _=>simp [teq,nrm]
 | .dct a,u=>by cases u<;>simp [teq,nrm]
theorem teqL_iff:∀ t u:List T,teqL t u=true↔nrmL t=nrmL u
 | [],[]=>by simp [teqL,nrmL]
 | [],_::_=>by simp [teqL,nrmL]
 | _::_,[]=>by simp [teqL,nrmL]
 | a::as,b::bs=>by
   simp only[teqL,nrmL,Bool.and_eq_true]
   rw[teq_iff a b,teqL_iff as bs]
   exact⟨fun h=>by rw[h.1,h.2],fun h=>by injection h with h1 h2;exact⟨h1,h2⟩⟩
end
theorem teq_trans {t u w:T}(h:teq t u=true):teq t w=teq u w:=by
 rw[Bool.eq_iff_iff,teq_iff,teq_iff,(teq_iff t u).mp h]
noncomputable def tAdd:T→T→Option T
 | .int i,.int j=>some (.int (i+j))
 | .str x,.str y=>if x.length+y.length≤sizeLine then some (.str (x++y)) else none
 | .tup a,.tup b=>if a.length+b.length≤sizeLine then some (.tup (a++b)) else none
 | .lst a,.lst b=>if a.length+b.length≤sizeLine then some (.lst (a++b)) else none
 | _,_=>none
noncomputable def tSub:T→T→Option T
 | .int i,.int j=>some (.int (i - j))
 | _,_=>none
noncomputable def mulOk (i j:Int):Bool:=(decide (-(2 ^ 64)<i)&&decide (i<2 ^ 64))||(decide (-(2 ^ 64)<j)&&decide (j<2 ^ 64))
noncomputable def tMul:T→T→Option T
 | .int i,.int j=>if mulOk i j=true then some (.int (i * j)) else none
 | .tup a,.int k=>if 0≤k∧k<1000000∧a.length * k.toNat≤sizeLine then some (.tup (List.replicate k.toNat a).flatten) else none
 | _,_=>none
noncomputable def tFd:T→T→Option T
 | .int i,.int j=>if 0<j∧j<1073741824 then some (.int (i / j)) else none
 | _,_=>none
noncomputable def tMd:T→T→Option T
 | .int i,.int j=>if 0<j then some (.int (i % j)) else none
 | _,_=>none
noncomputable def tLtI:T→T→Option T
 | .int i,.int j=>some (.bl (decide (i<j)))
 | _,_=>none
noncomputable def tLeI:T→T→Option T
 | .int i,.int j=>some (.bl (decide (i≤j)))
 | _,_=>none
noncomputable def tGtI:T→T→Option T
 | .int i,.int j=>some (.bl (decide (j<i)))
 | _,_=>none
noncomputable def tGeI:T→T→Option T
 | .int i,.int j=>some (.bl (decide (j≤i)))
 | _,_=>none
noncomputable def tEqq (t u:T):Option T:=if dep t≤60 then some (.bl (teq t u)) else none
noncomputable def tNee (t u:T):Option T:=if dep t≤60 then some (.bl (!teq t u)) else none
noncomputable def tInn (neg:Bool)(x:T):T→Option T
 | .tup ts=>if (ts.all fun y=>decide (dep y≤60))=true then some (.bl (if neg then !(ts.any fun y=>teq y x) else ts.any fun y=>teq y x)) else none
 | .lst ts=>if (ts.all fun y=>decide (dep y≤60))=true then some (.bl (if neg then !(ts.any fun y=>teq y x) else ts.any fun y=>teq y x)) else none
 | _=>none
section
variable {X:Cx}
theorem oI {f:Value→Value→Sem Value}{C:Int→Int→Prop}{g:Int→Int→T}{gv:Int→Int→V}{fn:T→T→Option T}(hg:∀ i j K H,Rep K H (g i j) (gv i j)) (h:OpR X f (rI C gv))
  (hf:∀ t u w,fn t u=some w→∃ i j,t=.int i∧u=.int j∧C i j∧w=g i j):Op2 X f fn:=by
 intro pins s σ Hq H t u w x y v v' Q I rx ry sb r1 r2 e k
 obtain⟨i,j,rfl,rfl,hc,rfl⟩:=hf t u w e
 cases r1.int;cases r2.int
 exact h pins s σ H _ _ v v' Q I rx ry ⟨i,j,rfl,rfl,hc,k _ Hq H (.refl sb) (hg i j _ _)⟩
theorem oI0 {f:Value→Value→Sem Value}{g:Int→Int→T}{gv:Int→Int→V}{fn:T→T→Option T}(hg:∀ i j K H,Rep K H (g i j) (gv i j)) (h:OpR X f (rI0 gv))
  (hf:∀ t u w,fn t u=some w→∃ i j,t=.int i∧u=.int j∧w=g i j):Op2 X f fn:=by
 intro pins s σ Hq H t u w x y v v' Q I rx ry sb r1 r2 e k
 obtain⟨i,j,rfl,rfl,rfl⟩:=hf t u w e
 cases r1.int;cases r2.int
 exact h pins s σ H _ _ v v' Q I rx ry ⟨i,j,rfl,rfl,k _ Hq H (.refl sb) (hg i j _ _)⟩
theorem o_fd:Op2 X (binaryOp .FloorDiv) tFd:=oI (g:=fun i j=>.int (i / j)) (fun _ _ _ _=>rep_int) op_fdiv fun t u w e=>by
 cases t<;>cases u<;>simp [tFd] at e;exact⟨_,_,rfl,rfl,e.1,e.2.symm⟩
theorem o_md:Op2 X (binaryOp .Mod) tMd:=oI (g:=fun i j=>.int (i % j)) (fun _ _ _ _=>rep_int) op_mod fun t u w e=>by
 cases t<;>cases u<;>simp [tMd] at e;exact⟨_,_,rfl,rfl,e.1,e.2.symm⟩
theorem o_lt:Op2 X (compareOp .Lt) tLtI:=oI0 (g:=fun i j=>.bl (decide (i<j))) (fun _ _ _ _=>rep_bl) op_lt fun t u w e=>by
 cases t<;>cases u<;>simp [tLtI] at e;exact⟨_,_,rfl,rfl,e.symm⟩
theorem o_le:Op2 X (compareOp .LtE) tLeI:=oI0 (g:=fun i j=>.bl (decide (i≤j))) (fun _ _ _ _=>rep_bl) op_le fun t u w e=>by
 cases t<;>cases u<;>simp [tLeI] at e;exact⟨_,_,rfl,rfl,e.symm⟩
theorem o_gt:Op2 X (compareOp .Gt) tGtI:=oI0 (g:=fun i j=>.bl (decide (j<i))) (fun _ _ _ _=>rep_bl) op_gt fun t u w e=>by
 cases t<;>cases u<;>simp [tGtI] at e;exact⟨_,_,rfl,rfl,e.symm⟩
theorem tuple_add_all {prog:Program}{w:World}{A:Around}{E:Value→Shared→Prop}{s:Shared}{t b:Addr}{vs ws:List Value}{Q:Value→Shared→Prop}(ht:PyProof.Rows.IsTup s.heap t vs.toArray)(hb:PyProof.Rows.IsTup s.heap b ws.toArray)
  (h0:vs=[]→Q (.ref b) s) (h1:ws=[]→Q (.ref t) s) (h2:Q (.ref s.heap.objs.size) {s with heap:=s.heap.push {cls:=.type "tuple",data:=.seq (vs++ws).toArray}})
  (hsz:vs.length+ws.length≤sizeLine):wpAny (model prog w) A (binaryOp .Add (.ref t) (.ref b)) Q E s:=by
 by_cases hv:vs=[]
 ·obtain⟨⟨cls,dd,data,sl⟩,ho,hc,n,hd⟩:=id ht
  obtain⟨⟨cls2,dd2,data2,sl2⟩,ho2,hc2,n2,hd2⟩:=id hb
  simp only at hc hd hc2 hd2
  subst hc hd hc2 hd2
  exact PySem.concat_meets ⟨_,ho,rfl⟩ ⟨_,ho2,rfl⟩ noFill_tuple_add seq_tuple_add PySem.F.slot_tuple_add PySem.F.entry_tuple_add (PySem.F.args_tuple_add_2 _ _)
   (PyProof.Rows.tuple_addW0 t b vs.toArray ws.toArray n n2 dd dd2 sl sl2 (by simp [hv])) ⟨ho,ho2,h0 hv⟩
 ·exact HT.cat_tup ht hb hv h1 (fun _=>h2) hsz
theorem o_add:Op2 X (binaryOp .Add) tAdd:=by
 intro pins s σ Hq H t u w x y v v' Q I rx ry sb r1 r2 e k
 cases t with
 | dct d=>simp [tAdd] at e
 | int i =>
   cases u with
   | int j =>
     cases r1.int;cases r2.int
     simp only[tAdd,Option.some.injEq] at e
     subst e
     exact op_add pins s σ H _ _ v v' Q I rx ry ⟨i,j,rfl,rfl,k _ Hq H (.refl sb) rep_int⟩
   | _=>simp [tAdd] at e
 | str i =>
   cases u with
   | str j =>
     cases r1.str;cases r2.str
     simp only[tAdd] at e
     split at e
     ·rename_i hl
      cases e
      exact op_add_str pins s σ H _ _ v v' Q I rx ry ⟨i,j,rfl,rfl,hl,k _ Hq H (.refl sb) rep_str⟩
     ·cases e
   | _=>simp [tAdd] at e
 | tup as =>
   cases u with
   | tup bs =>
     simp only[tAdd] at e
     split at e
     ·rename_i hl
      cases e
      obtain⟨a,vs,rfl,q1,q2⟩:=r1.tup sb
      obtain⟨b,ws,rfl,q3,q4⟩:=r2.tup sb
      cases rx;cases ry
      obtain⟨its,r1',p1,_⟩:=I.tuple q1
      obtain⟨its2,r2',p2,_⟩:=I.tuple q3
      have hl':vs.length+ws.length≤sizeLine:=by rw[← q2.length,← q4.length];exact hl
      refine tuple_add_all p1 p2 (fun z=>?_) (fun z=>?_) ?_ (by rw[← r1'.length,← r2'.length];exact hl')
      ·have:as=[]:=List.eq_nil_of_length_eq_zero (by rw[q2.length,r1'.length,z];rfl)
       subst this
       rcases r2 with r2|⟨_,_,_,_,z,_⟩
       ·exact⟨.ref b,H,I,rfl,k _ Hq H (.refl sb) r2⟩
       ·cases z
      ·have:bs=[]:=List.eq_nil_of_length_eq_zero (by rw[q4.length,r2'.length,z];rfl)
       subst this
       rw[List.append_nil] at k
       rcases r1 with r1|⟨_,_,_,_,z,_⟩
       ·exact⟨.ref a,H,I,rfl,k _ Hq H (.refl sb) r1⟩
       ·cases z
      ·refine⟨.ref s.heap.objs.size,_,I.laid (t':=s.toks) (o:=.tup (vs++ws)) (fun b ob q=>Heap.get?_push_of_some _ q) (Nat.le_refl _) ⟨by rw[List.length_append];exact hl',_,r1'.append r2',PyProof.Rows.IsTup.new _ _⟩,rfl,k _ _ _ (.new sb I.fresh) (rep_tupNew (sb.free I.fresh) (q2.append q4))⟩
     ·cases e
   | _=>simp [tAdd] at e
 | lst as =>
   cases u with
   | lst bs =>
     simp only[tAdd] at e
     split at e
     ·rename_i hl
      cases e
      obtain⟨a,vs,rfl,q1,q2⟩:=r1.lst sb
      obtain⟨b,ws,rfl,q3,q4⟩:=r2.lst sb
      cases rx;cases ry
      obtain⟨its,r1',p1,_⟩:=I.list q1
      obtain⟨its2,r2',p2,_⟩:=I.list q3
      have hl':vs.length+ws.length≤sizeLine:=by rw[← q2.length,← q4.length];exact hl
      obtain⟨⟨cls,dd,data,sl⟩,ho,hc,n,hd⟩:=id p1.isList
      obtain⟨⟨cls2,dd2,data2,sl2⟩,ho2,hc2,n2,hd2⟩:=id p2.isList
      simp only at hc hd hc2 hd2
      subst hc hd hc2 hd2
      refine PySem.concat_meets ⟨_,ho,rfl⟩ ⟨_,ho2,rfl⟩ noFill_list_add seq_list_add PySem.F.slot_list_add PySem.F.entry_list_add (PySem.F.args_list_add_2 _ _)
       (PyProof.Rows.list_addW a b its.toArray its2.toArray n n2 dd dd2 sl sl2 (by rw[List.size_toArray,List.size_toArray,← r1'.length,← r2'.length];exact hl')) ⟨ho,ho2,?_⟩
      have ea:its.toArray++its2.toArray=(its++its2).toArray:=by simp
      rw[ea]
      exact⟨.ref _,_,I.lnew (t':=s.toks) (r1'.append r2') (by rw[List.length_append];exact hl'),rfl,k _ _ _ (.new sb I.fresh) (rep_lstNew (sb.free I.fresh) (q2.append q4))⟩
     ·cases e
   | _=>simp [tAdd] at e
 | non=>simp [tAdd] at e
 | bl _=>simp [tAdd] at e
theorem o_eq (hu:X.A.units+64<cLine):Op2 X (compareOp .Eq) tEqq:=by
 intro pins s σ Hq H t u w x y v v' Q I rx ry sb r1 r2 e k
 simp only[tEqq] at e
 split at e
 ·rename_i hd
  cases e
  have:=(eq_all I (sizeOf t+1) t u x y v v' X.A (by omega) rx ry (r1.rep sb) (r2.rep sb) (by omega)).1
  exact this X.prog X.w X.xe _ ⟨.bl (teq t u),H,I,rfl,k _ Hq H (.refl sb) rep_bl⟩
 ·cases e
end
end TL
namespace TL
open PySem L2 SeqAt
section
variable {X:Cx}{pins:List (Addr×Obj)}{σ:L2.St}{H:Hp}{s:Shared}
theorem ne_all (I:Inv X pins σ H s)(t u:T)(x y:V)(a b:Value)(A:Around)(rx:RelV x a)(ry:RelV y b)(hx:Rep X.K H t x)(hy:Rep X.K H u y)(hu:A.units+dep t<cLine) :
  RcNeAt A s a b (!teq t u):=by
 have hu0:A.units<cLine:=by omega
 have el:∀{ts us:List T}{vs ws:List V}{its its2:List Value},A.units+depL ts+1<cLine→Vals vs its→Vals ws its2→RepL X.K H ts vs→RepL X.K H us ws →
   ∀ j (h1:j<its.toArray.size)(h2:j<its2.toArray.size),EqAt A.in1 s its.toArray[j] its2.toArray[j] (eqJ ts us j):=fun{ts us vs ws its its2} h1 r1 r2 h4 h5 j j1 j2=>by
  have l1:its.toArray.size=ts.length:=by rw[List.size_toArray,← r1.length,h4.length]
  have l2:its2.toArray.size=us.length:=by rw[List.size_toArray,← r2.length,h5.length]
  have e1:ts[j]?=some (ts[j]'(by omega)):=List.getElem?_eq_getElem _
  have e2:us[j]?=some (us[j]'(by omega)):=List.getElem?_eq_getElem _
  obtain⟨v,ev,hv⟩:=h4.get e1
  obtain⟨w,ew,hw⟩:=h5.get e2
  have e3:eqJ ts us j=teq (ts[j]'(by omega)) (us[j]'(by omega)):=by unfold eqJ;rw[e1,e2]
  rw[e3]
  exact(eq_all I _ _ _ v w _ _ A.in1 (Nat.lt_succ_self _) (rel_at r1 j1 ev) (rel_at r2 j2 ew) hv hw (by have:=dep_mem e1;show A.units+1+_<cLine;omega)).2
 have seqT:∀{ts us:List T}{l m:Addr}{vs ws:List V},A.units+depL ts+1<cLine→SqT X.K H l vs→SqT X.K H m ws→RepL X.K H ts vs→RepL X.K H us ws→RcNeAt A s (.ref l) (.ref m) (!teqL ts us):=fun{ts us l m vs ws} h1 h2 h3 h4 h5=>by
  obtain⟨its,r1,p1,_⟩:=I.tuple h2
  obtain⟨its2,r2,p2,_⟩:=I.tuple h3
  have l1:its.toArray.size=ts.length:=by rw[List.size_toArray,← r1.length,h4.length]
  have l2:its2.toArray.size=us.length:=by rw[List.size_toArray,← r2.length,h5.length]
  have:=RcNeAt.tuples (A:=A) (e:=eqJ ts us) p1 p2 hu0 (el h1 r1 r2 h4 h5)
  rw[l1,l2,eqJ_tup] at this
  exact this
 have seqL:∀{ts us:List T}{l m:Addr}{vs ws:List V},A.units+depL ts+1<cLine→SqL X.K H l vs→SqL X.K H m ws→RepL X.K H ts vs→RepL X.K H us ws→RcNeAt A s (.ref l) (.ref m) (!teqL ts us):=fun{ts us l m vs ws} h1 h2 h3 h4 h5=>by
  obtain⟨its,r1,p1,_⟩:=I.list h2
  obtain⟨its2,r2,p2,_⟩:=I.list h3
  have l1:its.toArray.size=ts.length:=by rw[List.size_toArray,← r1.length,h4.length]
  have l2:its2.toArray.size=us.length:=by rw[List.size_toArray,← r2.length,h5.length]
  by_cases hl:ts.length=us.length
  ·have:=RcNeAt.lists (A:=A) (e:=eqJ ts us) p1.isList p2.isList (by rw[l1,l2,hl]) hu0 (el h1 r1 r2 h4 h5)
   rw[l1,eqJ_all ts us hl] at this
   exact this
  ·rw[teqL_ne hl]
   exact RcNeAt.lists_lengths p1.isList p2.isList (by rw[l1,l2];exact get_len_ne hl) hu0
 cases t with
 | non  =>
   cases hx.n;cases rx
   cases u with
   | non  => cases hy.n;cases ry;exact .none_none
   | bl c=>cases hy.b;cases ry;exact .none_bool c
   | int c=>cases hy.i;obtain⟨k,rfl⟩:=ry;exact .none_int c k
   | str c=>cases hy.s;obtain⟨k,rfl⟩:=ry;exact .none_str c k
   | tup us=>unfold Rep at hy;obtain⟨m,ws,rfl,w2,w3⟩:=hy;cases ry;obtain⟨_,_,p',_⟩:=I.tuple w2;exact .none_tuple p' hu0
   | lst us=>unfold Rep at hy;obtain⟨m,ws,rfl,w2,w3⟩:=hy;cases ry;obtain⟨_,_,p',_⟩:=I.list w2;exact .none_list p'.isList hu0
   | dct us=>unfold Rep at hy;obtain⟨m,ws,rfl,w2,w3⟩:=hy;cases ry;exact .none_dict (rep_dictAt I w2) hu0
 | bl d =>
   cases hx.b;cases rx
   cases u with
   | non  => cases hy.n;cases ry;exact .bool_none d
   | bl c=>cases hy.b;cases ry;exact .bool_bool d c
   | int c=>cases hy.i;obtain⟨k,rfl⟩:=ry;exact .bool_int d c k
   | str c=>cases hy.s;obtain⟨k,rfl⟩:=ry;exact .bool_str d c k
   | tup us=>unfold Rep at hy;obtain⟨m,ws,rfl,w2,w3⟩:=hy;cases ry;obtain⟨_,_,p',_⟩:=I.tuple w2;exact .bool_tuple d p' hu0
   | lst us=>unfold Rep at hy;obtain⟨m,ws,rfl,w2,w3⟩:=hy;cases ry;obtain⟨_,_,p',_⟩:=I.list w2;exact .bool_list d p'.isList hu0
   | dct us=>unfold Rep at hy;obtain⟨m,ws,rfl,w2,w3⟩:=hy;cases ry;exact .bool_dict d (rep_dictAt I w2) hu0
 | int d =>
   cases hx.i;obtain⟨kk,rfl⟩:=rx
   cases u with
   | non  => cases hy.n;cases ry;exact .int_none d kk
   | bl c=>cases hy.b;cases ry;exact .int_bool d kk c
   | int c=>cases hy.i;obtain⟨k,rfl⟩:=ry;exact .int_int d kk c k
   | str c=>cases hy.s;obtain⟨k,rfl⟩:=ry;exact .int_str d kk c k
   | tup us=>unfold Rep at hy;obtain⟨m,ws,rfl,w2,w3⟩:=hy;cases ry;obtain⟨_,_,p',_⟩:=I.tuple w2;exact .int_tuple d kk p' hu0
   | lst us=>unfold Rep at hy;obtain⟨m,ws,rfl,w2,w3⟩:=hy;cases ry;obtain⟨_,_,p',_⟩:=I.list w2;exact .int_list d kk p'.isList hu0
   | dct us=>unfold Rep at hy;obtain⟨m,ws,rfl,w2,w3⟩:=hy;cases ry;exact .int_dict d kk (rep_dictAt I w2) hu0
 | str d =>
   cases hx.s;obtain⟨kk,rfl⟩:=rx
   cases u with
   | non  => cases hy.n;cases ry;exact .str_none d kk
   | bl c=>cases hy.b;cases ry;exact .str_bool d kk c
   | int c=>cases hy.i;obtain⟨k,rfl⟩:=ry;exact .str_int d kk c k
   | str c=>cases hy.s;obtain⟨k,rfl⟩:=ry;exact .str_str d kk c k
   | tup us=>unfold Rep at hy;obtain⟨m,ws,rfl,w2,w3⟩:=hy;cases ry;obtain⟨_,_,p',_⟩:=I.tuple w2;exact .str_tuple d kk p' hu0
   | lst us=>unfold Rep at hy;obtain⟨m,ws,rfl,w2,w3⟩:=hy;cases ry;obtain⟨_,_,p',_⟩:=I.list w2;exact .str_list d kk p'.isList hu0
   | dct us=>unfold Rep at hy;obtain⟨m,ws,rfl,w2,w3⟩:=hy;cases ry;exact .str_dict d kk (rep_dictAt I w2) hu0
 | tup ts =>
   unfold Rep at hx;obtain⟨l,vs,rfl,q2,q3⟩:=hx;cases rx
   obtain⟨_,_,p,_⟩:=I.tuple q2
   cases u with
   | non  => cases hy.n;cases ry;exact .tuple_none p hu0
   | bl c=>cases hy.b;cases ry;exact .tuple_bool c p hu0
   | int c=>cases hy.i;obtain⟨k,rfl⟩:=ry;exact .tuple_int c k p hu0
   | str c=>cases hy.s;obtain⟨k,rfl⟩:=ry;exact .tuple_str c k p hu0
   | tup us=>unfold Rep at hy;obtain⟨m,ws,rfl,w2,w3⟩:=hy;cases ry;obtain⟨_,_,p',_⟩:=I.tuple w2;exact seqT (by simp only[dep] at hu;omega) q2 w2 q3 w3
   | lst us=>unfold Rep at hy;obtain⟨m,ws,rfl,w2,w3⟩:=hy;cases ry;obtain⟨_,_,p',_⟩:=I.list w2;exact .tuple_list p p'.isList hu0
   | dct us=>unfold Rep at hy;obtain⟨m,ws,rfl,w2,w3⟩:=hy;cases ry;exact .tuple_dict p (rep_dictAt I w2) hu0
 | lst ts =>
   unfold Rep at hx;obtain⟨l,vs,rfl,q2,q3⟩:=hx;cases rx
   obtain⟨_,_,p,_⟩:=I.list q2
   cases u with
   | non  => cases hy.n;cases ry;exact .list_none p.isList hu0
   | bl c=>cases hy.b;cases ry;exact .list_bool c p.isList hu0
   | int c=>cases hy.i;obtain⟨k,rfl⟩:=ry;exact .list_int c k p.isList hu0
   | str c=>cases hy.s;obtain⟨k,rfl⟩:=ry;exact .list_str c k p.isList hu0
   | tup us=>unfold Rep at hy;obtain⟨m,ws,rfl,w2,w3⟩:=hy;cases ry;obtain⟨_,_,p',_⟩:=I.tuple w2;exact .list_tuple p.isList p' hu0
   | lst us=>unfold Rep at hy;obtain⟨m,ws,rfl,w2,w3⟩:=hy;cases ry;obtain⟨_,_,p',_⟩:=I.list w2;exact seqL (by simp only[dep] at hu;omega) q2 w2 q3 w3
   | dct us=>unfold Rep at hy;obtain⟨m,ws,rfl,w2,w3⟩:=hy;cases ry;exact .list_dict p.isList (rep_dictAt I w2) hu0
 | dct d=>simp only[dep] at hu;exact absurd hu (by simp [cLine])
end
section
variable {X:Cx}
theorem o_ne (hu:X.A.units+64<cLine):Op2 X (compareOp .NotEq) tNee:=by
 intro pins s σ Hq H t u w x y v v' Q I rx ry sb r1 r2 e k
 simp only[tNee] at e
 split at e
 ·rename_i hd
  cases e
  have:=ne_all I t u x y v v' X.A rx ry (r1.rep sb) (r2.rep sb) (by omega)
  exact this X.prog X.w X.xe _ ⟨.bl (!teq t u),H,I,rfl,k _ Hq H (.refl sb) rep_bl⟩
 ·cases e
theorem in_at {pins:List (Addr×Obj)}{σ:L2.St}{H:Hp}{s:Shared}{A:Around}(I:Inv X pins σ H s){ts:List T}{vs:List V}{its:List Value}{u:T}{y:V}{b:Value}(hu:A.units+62<cLine)(hd:(ts.all fun y=>decide (dep y≤60))=true)
  (r:Vals vs its)(q:RepL X.K H ts vs)(ry:RelV y b)(hy:Rep X.K H u y):∃ e:Value→Bool,(∀ w,w∈its.toArray→EqAt A.in1 s w b (e w))∧its.toArray.any e=ts.any fun t=>teq t u:=by
 classical
 let e:Value→Bool:=fun w=>decide (∃(j:Nat)(t:T),its[j]?=some w∧ts[j]?=some t∧teq t u=true)
 have len:its.length=ts.length:=by rw[← r.length,q.length]
 have key:∀(j:Nat)(w:Value)(t:T),its[j]?=some w→ts[j]?=some t→e w=teq t u:=fun j w t h1 h2=>by
  cases h:teq t u with
  | true=>exact decide_eq_true ⟨j,t,h1,h2,h⟩
  | false =>
    refine decide_eq_false ?_
    rintro⟨j',t',h1',h2',h'⟩
    obtain⟨v1,e1,g1⟩:=q.get h2
    obtain⟨v2,e2,g2⟩:=q.get h2'
    obtain⟨w1,f1,k1⟩:=r.get e1
    obtain⟨w2,f2,k2⟩:=r.get e2
    rw[h1] at f1;cases f1
    rw[h1'] at f2;cases f2
    have:v1=v2:=k1.inj k2
    subst this
    have:=teq_trans (w:=u) (rep_inj I g1 g2)
    rw[h,h'] at this;cases this
 refine⟨e,fun w hw=>?_,?_⟩
 ·obtain⟨j,hj,rfl⟩:=Array.mem_iff_getElem.mp hw
  have hj':j<its.length:=by simpa using hj
  have e1:its[j]?=some its.toArray[j]:=by rw[List.getElem_toArray];exact List.getElem?_eq_getElem _
  have e2:ts[j]?=some (ts[j]'(by omega)):=List.getElem?_eq_getElem _
  obtain⟨v,ev,hv⟩:=q.get e2
  rw[key j _ _ e1 e2]
  have hdt:dep (ts[j]'(by omega))≤60:=by
   have:=List.all_eq_true.mp hd _ (List.getElem_mem (by omega:j<ts.length))
   exact of_decide_eq_true this
  exact(eq_all I _ _ _ v y _ _ A.in1 (Nat.lt_succ_self _) (rel_at r hj ev) ry hv hy (by show A.units+1+_<cLine;omega)).2
 ·rw[Bool.eq_iff_iff]
  rw[Array.any_eq_true]
  rw[List.any_eq_true]
  constructor
  ·rintro⟨j,hj,h⟩
   have hj':j<its.length:=by simpa using hj
   have e1:its[j]?=some its.toArray[j]:=by rw[List.getElem_toArray];exact List.getElem?_eq_getElem _
   have e2:ts[j]?=some (ts[j]'(by omega)):=List.getElem?_eq_getElem _
   rw[key j _ _ e1 e2] at h
   exact⟨_,List.getElem_mem _,h⟩
  ·rintro⟨t,ht,h⟩
   obtain⟨j,hj,rfl⟩:=List.mem_iff_getElem.mp ht
   have hj':j<its.length:=by omega
   have e1:its[j]?=some its.toArray[j]:=by rw[List.getElem_toArray];exact List.getElem?_eq_getElem _
   refine⟨j,by simpa using hj',?_⟩
   rw[key j _ _ e1 (List.getElem?_eq_getElem hj)];exact h
theorem o_in (hu:X.A.units+64<cLine):Op2 X (compareOp .In) (tInn false):=by
 intro pins s σ Hq H t u w x y v v' Q I rx ry sb r1 r2 e k
 have hx:=r1.rep sb
 cases u with
 | tup ts =>
   simp only[tInn] at e
   split at e
   ·rename_i hd
    cases e
    obtain⟨a,vs,rfl,q1,q2⟩:=r2.tup sb
    cases ry
    obtain⟨its,r,p,_⟩:=I.tuple q1
    obtain⟨ee,h1,h2⟩:=in_at (A:=X.A) I (by omega) hd r (q2.mono sb) rx hx
    refine in_tupleAt ee p h1 ?_
    rw[h2]
    exact⟨.bl _,H,I,rfl,k _ Hq H (.refl sb) rep_bl⟩
   ·cases e
 | lst ts =>
   simp only[tInn] at e
   split at e
   ·rename_i hd
    cases e
    obtain⟨a,vs,rfl,q1,q2⟩:=r2.lst sb
    cases ry
    obtain⟨its,r,p,_⟩:=I.list q1
    obtain⟨ee,h1,h2⟩:=in_at (A:=X.A) I (by omega) hd r (q2.mono sb) rx hx
    refine in_listAt ee p.isList h1 ?_
    rw[h2]
    exact⟨.bl _,H,I,rfl,k _ Hq H (.refl sb) rep_bl⟩
   ·cases e
 | _=>simp [tInn] at e
theorem o_notin (hu:X.A.units+64<cLine):Op2 X (compareOp .NotIn) (tInn true):=by
 intro pins s σ Hq H t u w x y v v' Q I rx ry sb r1 r2 e k
 have hx:=r1.rep sb
 cases u with
 | tup ts =>
   simp only[tInn] at e
   split at e
   ·rename_i hd
    cases e
    obtain⟨a,vs,rfl,q1,q2⟩:=r2.tup sb
    cases ry
    obtain⟨its,r,p,_⟩:=I.tuple q1
    obtain⟨ee,h1,h2⟩:=in_at (A:=X.A) I (by omega) hd r (q2.mono sb) rx hx
    refine notIn_tupleAt ee p h1 ?_
    rw[h2]
    exact⟨.bl _,H,I,rfl,k _ Hq H (.refl sb) rep_bl⟩
   ·cases e
 | lst ts =>
   simp only[tInn] at e
   split at e
   ·rename_i hd
    cases e
    obtain⟨a,vs,rfl,q1,q2⟩:=r2.lst sb
    cases ry
    obtain⟨its,r,p,_⟩:=I.list q1
    obtain⟨ee,h1,h2⟩:=in_at (A:=X.A) I (by omega) hd r (q2.mono sb) rx hx
    refine notIn_listAt ee p.isList h1 ?_
    rw[h2]
    exact⟨.bl _,H,I,rfl,k _ Hq H (.refl sb) rep_bl⟩
   ·cases e
 | _=>simp [tInn] at e
end
end TL
namespace TL
open PySem L2
section
variable {prog:Program}{w:World}{A:Around}{E:Value→Shared→Prop}{s:Shared}
theorem tupExact {t:Addr}{items:Array Value}{Q:Bool→Shared→Prop}(ht:PyProof.Rows.IsTup s.heap t items)(h:Q true s):wpAny (model prog w) A (Builtin.Tuple.tupleIsExact (.ref t)) Q E s:=by
 unfold Builtin.Tuple.tupleIsExact
 exact wpAny_bind (wpAny_typeOf ht.typeIs (wpAny_pure h))
theorem getItem_tuple_whole {t sl:Addr}{items:Array Value}{vl vu:Value}{lo hi:Option Int}{Q:Value→Shared→Prop}(ht:PyProof.Rows.IsTup s.heap t items)(hs:s.heap.IsSliceOf sl vl vu .none)(pl:IsPart vl lo)(pu:IsPart vu hi)
  (hw:HT.sIx items.size 0 lo=0∧HT.sIx items.size items.size hi=items.size)(h:Q (.ref t) s):wpAny (model prog w) A (getItem (.ref t) (.ref sl)) Q E s:=by
 obtain⟨os,hos,hcs,hds⟩:=id hs
 have hTs:s.TypeIs (.ref sl) "slice":=⟨os,hos,hcs⟩
 unfold getItem
 try with_reducible refine wpAny_holding ?_
 first|refine wpAny_bind (wpAny_pure ?_)|skip
 refine wpAny_bind (wpAny_sequenceKey ht.typeIs (by decide) ?_)
 refine wpAny_bind (wpAny_callSpecial?_slot (name:=Str.ofString "__getitem__") ht.typeIs PyProof.Rows.slot_tuple_getitem
  (wpAny_call_entry PyProof.Rows.slot_tuple_getitem ht.typeIs PyProof.Rows.entry_tuple_getitem ?_ (PyProof.Rows.args_tuple_getitem _ _)))
 show wpAny _ _ (Builtin.Tuple.tupleItemsOf (.ref t) >>= _) _ _ s
 refine wpAny_bind (PyProof.Rows.tupleItemsOf_ ht ?_)
 refine wpAny_bind (wpAny_typeOf hTs ?_)
 rw[if_pos (by decide)]
 refine wpAny_bind (HT.sliceApplied_gen hs pl pu ?_)
 rw[hw.1,hw.2,Nat.sub_zero]
 show wpAny _ _ (if ((((0:Nat):Int)==0&&(1:Int)==1&&items.size==items.size)=true) then _ else _) _ _ s
 rw[if_pos (by simp)]
 refine wpAny_bind (tupExact ht ?_)
 show wpAny _ _ (if true=true then _ else _) _ _ s
 rw[if_pos rfl]
 exact wpAny_bind (wpAny_rule (wpAny_pure ⟨_,rfl,wpAny_pure h⟩))
theorem noFill_tuple_mul:fillsNumberSlot (.type "tuple") "mul"=pure false :=
 fillsNumberSlot_seq (id:="tuple.__mul__") (r:=some (.builtin "tuple.__rmul__")) F.slot_tuple_mul.lookup (by decide +kernel) F.slot_tuple_rmul.lookup (by decide +kernel)
theorem repeat_tuple:seqRepeat? (.type "tuple")=pure (some (.builtin "tuple.__mul__")):=by
 unfold seqRepeat?
 rw[seqSlot_of (T:="tuple") (name:="__mul__") (id:="tuple.__mul__") F.slot_tuple_mul.lookup (by decide +kernel),seqSlot_of (T:="tuple") (name:="__rmul__") (id:="tuple.__rmul__") F.slot_tuple_rmul.lookup (by decide +kernel)]
 rfl
theorem int_rmul_tuple (a:Int)(t:Tok)(l:Addr)(items:Array Value) (n:Nat)(dd:Option Addr)(sl:Array (Option Value)) :
  Meets (Builtin.«int.__rmul__» ⟨[.int a t,.ref l],[]⟩) (fun _ R s=>s.heap.get? l=some {cls:=.type "tuple",dict:=dd,data:=.seq items n,slots:=sl}∧R (.ok (.ret Value.notImplemented)) s) :=
 .of_wp fun prog w A R s h=>by obtain⟨hp,g,d,tk,os⟩:=s;obtain⟨hl,h⟩:=h;wp_walk;exact⟨_,rfl,h⟩
theorem tuple_mulSame (l:Addr)(items:Array Value) (n:Nat)(dd:Option Addr)(sl:Array (Option Value)) (k:Int)(t:Tok)(h1 : -(2 ^ 63)≤k) (h2:k<2 ^ 63)(hc:(items.isEmpty||k==1)=true) :
  Meets (Builtin.«tuple.__mul__» ⟨[.ref l,.int k t],[]⟩) (fun _ R s=>s.heap.get? l=some {cls:=.type "tuple",dict:=dd,data:=.seq items n,slots:=sl}∧R (.ok (.ret (.ref l))) s) :=
 .of_wp fun prog w A R s h=>by
  obtain⟨hp,g,d,tk,os⟩:=s;obtain⟨hl,h⟩:=h
  have ht:PyProof.Rows.IsTup hp l items:=⟨_,hl,rfl,n,rfl⟩
  have f1:=AutoSeq1.idx_int
  have f2:(decide (k < -(2 ^ 63))||decide (k≥2 ^ 63))=false:=by
   rw[decide_eq_false (by omega),decide_eq_false (by omega)];rfl
  wp_walk using AutoSeq1.wpAny_loadPart' hl
  show wpAny _ _ (if (decide (k < -(2 ^ 63))||decide (k≥2 ^ 63))=true then _ else _) _ _ _
  rw[f2,if_neg Bool.false_ne_true]
  refine wpAny_bind (PyProof.Rows.tupleItemsOf_ ht ?_)
  show wpAny _ _ (if (items.isEmpty||k==1)=true then _ else _) _ _ _
  rw[if_pos hc]
  refine wpAny_bind (tupExact ht ?_)
  show wpAny _ _ (if true=true then _ else _) _ _ _
  rw[if_pos rfl]
  exact wpAny_bind (wpAny_rule (wpAny_pure ⟨_,rfl,h⟩))
theorem tuple_mulZero (l:Addr)(items:Array Value) (n:Nat)(dd:Option Addr)(sl:Array (Option Value)) (k:Int)(t:Tok)(hk:k=0)(hc:items.isEmpty=false) :
  Meets (Builtin.«tuple.__mul__» ⟨[.ref l,.int k t],[]⟩) (fun _ R s=>s.heap.get? l=some {cls:=.type "tuple",dict:=dd,data:=.seq items n,slots:=sl}∧R (.ok (.ret (.ref s.heap.objs.size))) {s with heap:=s.heap.push {cls:=.type "tuple",data:=.seq #[]}}) :=
 .of_wp fun prog w A R s h=>by
  obtain⟨hp,g,d,tk,os⟩:=s;obtain⟨hl,h⟩:=h
  have ht:PyProof.Rows.IsTup hp l items:=⟨_,hl,rfl,n,rfl⟩
  have f1:=AutoSeq1.idx_int
  have f2:(decide (k < -(2 ^ 63))||decide (k≥2 ^ 63))=false:=by
   rw[decide_eq_false (by omega),decide_eq_false (by omega)];rfl
  wp_walk using AutoSeq1.wpAny_loadPart' hl
  exact⟨_,rfl,h⟩
theorem tuple_mulMore (l:Addr)(items:Array Value) (n:Nat)(dd:Option Addr)(sl:Array (Option Value)) (k:Int)(t:Tok)(h1:1<k)(h2:k<2 ^ 63)(hc:items.isEmpty=false)(hz:(items.size:Int) * k≤sizeLine)
  (hsz:(List.foldl (fun x1 x2=>x1++x2) #[] (List.replicate k.toNat items)).size≤sizeLine) :
  Meets (Builtin.«tuple.__mul__» ⟨[.ref l,.int k t],[]⟩) (fun _ R s=>s.heap.get? l=some {cls:=.type "tuple",dict:=dd,data:=.seq items n,slots:=sl}∧R (.ok (.ret (.ref s.heap.objs.size))) {s with heap:=s.heap.push {cls:=.type "tuple",data:=.seq (List.foldl (fun x1 x2=>x1++x2) #[] (List.replicate k.toNat items))}}) :=
 .of_wp fun prog w A R s h=>by
  obtain⟨hp,g,d,tk,os⟩:=s;obtain⟨hl,h⟩:=h
  have ht:PyProof.Rows.IsTup hp l items:=⟨_,hl,rfl,n,rfl⟩
  have f1:=AutoSeq1.idx_int
  have f2:(decide (k < -(2 ^ 63))||decide (k≥2 ^ 63))=false:=by
   rw[decide_eq_false (by omega),decide_eq_false (by omega)];rfl
  wp_walk using AutoSeq1.wpAny_loadPart' hl
  show wpAny _ _ (if (decide (k < -(2 ^ 63))||decide (k≥2 ^ 63))=true then _ else _) _ _ _
  rw[f2,if_neg Bool.false_ne_true]
  refine wpAny_bind (PyProof.Rows.tupleItemsOf_ ht ?_)
  show wpAny _ _ (if (items.isEmpty||k==1)=true then _ else _) _ _ _
  rw[if_neg (by rw[hc,Bool.false_or];simp;omega)]
  show wpAny _ _ (if (decide (k≤0)||items.isEmpty)=true then _ else _) _ _ _
  rw[if_neg (by rw[hc,Bool.or_false];simp;omega)]
  have hl0:(sizeLine:Int)=16777216:=by rw[sizeLine_eq];rfl
  show wpAny _ _ (if (items.size:Int) * k>(2 ^ 63 - 1) / 8 then _ else _) _ _ _
  rw[if_neg (by omega)]
  show wpAny _ _ (if Builtin.Tuple.tupleTooMany ((items.size:Int) * k)=true then _ else _) _ _ _
  rw[if_neg (by unfold Builtin.Tuple.tupleTooMany;simp;omega)]
  exact wpAny_bind (m:=Builtin.Tuple.tupleExact _) (wpAny_newObj_type (wpAny_pure ⟨_,rfl,h⟩) hsz)
end
section
variable {X:Cx}
theorem o_mul:Op2 X (binaryOp .Mult) tMul:=by
 intro pins s σ Hq H t u w x y v v' Q I rx ry sb r1 r2 e k
 cases t with
 | int i =>
   cases u with
   | int j =>
     cases r1.int;cases r2.int
     simp only[tMul] at e
     split at e
     ·rename_i hm
      cases e
      refine op_mul pins s σ H _ _ v v' Q I rx ry ⟨i,j,rfl,rfl,?_,k _ Hq H (.refl sb) rep_int⟩
      simp only[mulOk,Bool.or_eq_true,Bool.and_eq_true,decide_eq_true_eq] at hm
      exact hm
     ·cases e
   | _=>simp [tMul] at e
 | tup as =>
   cases u with
   | int j =>
     simp only[tMul] at e
     split at e
     ·rename_i hm
      cases e
      obtain⟨a,vs,rfl,q1,q2⟩:=r1.tup sb
      cases r2.int
      cases rx
      obtain⟨tt,rfl⟩:=ry
      obtain⟨its,r,p,_⟩:=I.tuple q1
      have hlen:its.length=as.length:=by rw[← r.length,q2.length]
      obtain⟨⟨cls,dd,data,sl⟩,ho,hc,n,hd⟩:=id p
      simp only at hc hd
      subst hc hd
      refine wpAny_binaryOp_repeat_ref (T:="tuple") (U:="int") (by decide) ⟨_,ho,rfl⟩ (fun s'=>typeIs_int s' j tt) noFill_tuple_mul F.fills_int_mul F.slot_int_rmul repeat_tuple F.slot_int_index.lookup
       (call_meets F.slot_int_rmul (typeIs_int s j tt) F.entry_int_rmul (F.args_int_rmul_2 _ _) (int_rmul_tuple j tt a its.toArray n dd sl) ⟨ho,rfl,⟨_,ho,rfl⟩,?_⟩)
      by_cases h0:(its.toArray.isEmpty||j==1)=true
      ·refine call_meets F.slot_tuple_mul ⟨_,ho,rfl⟩ F.entry_tuple_mul (F.args_tuple_mul_2 _ _) (tuple_mulSame a its.toArray n dd sl j tt (by omega) (by omega) h0) ⟨ho,?_⟩
       refine⟨.ref a,H,I,rfl,k _ Hq H (.refl sb) ?_⟩
       have ee:(List.replicate j.toNat as).flatten=as:=by
        rw[Bool.or_eq_true] at h0
        rcases h0 with z|z
        ·have:as=[]:=List.eq_nil_of_length_eq_zero (by rw[← hlen];simpa using z)
         subst this;simp
        ·have:j=1:=by simpa using z
         subst this;simp
       rw[ee]
       rcases r1 with r1|⟨_,_,_,_,z,_⟩
       ·exact r1
       ·cases z
      ·rw[Bool.not_eq_true,Bool.or_eq_false_iff] at h0
       by_cases hz:j=0
       ·subst hz
        refine call_meets F.slot_tuple_mul ⟨_,ho,rfl⟩ F.entry_tuple_mul (F.args_tuple_mul_2 _ _) (tuple_mulZero a its.toArray n dd sl 0 tt rfl h0.1) ⟨ho,?_⟩
        exact⟨.ref s.heap.objs.size,_,I.laid (t':=s.toks) (o:=.tup []) (fun b ob q=>Heap.get?_push_of_some _ q) (Nat.le_refl _) ⟨Nat.zero_le _,[],.nil,PyProof.Rows.IsTup.new _ _⟩,rfl,k _ _ _ (.new sb I.fresh) (rep_tupNew (sb.free I.fresh) .nil)⟩
       ·have h1:1<j:=by
         have:j≠1:=by simpa using h0.2
         omega
        have hnew:List.foldl (fun x1 x2=>x1++x2) #[] (List.replicate j.toNat its.toArray)=(List.replicate j.toNat its).flatten.toArray:=by
         have:=foldl_rep its j.toNat []
         rw[List.nil_append] at this
         exact this
        have hsz:(List.replicate j.toNat its).flatten.length≤sizeLine:=by rw[len_rep,Nat.mul_comm,hlen];exact hm.2.2
        refine call_meets F.slot_tuple_mul ⟨_,ho,rfl⟩ F.entry_tuple_mul (F.args_tuple_mul_2 _ _) (tuple_mulMore a its.toArray n dd sl j tt h1 (by omega) h0.1 ?_ (by rw[hnew,List.size_toArray];exact hsz)) ⟨ho,?_⟩
        ·rw[List.size_toArray,hlen]
         have h3:=hm.2.2
         have:((as.length * j.toNat:Nat):Int)≤(sizeLine:Int):=by exact_mod_cast h3
         rw[Int.natCast_mul,Int.toNat_of_nonneg hm.1] at this
         exact this
        ·rw[hnew]
         exact⟨.ref s.heap.objs.size,_,I.laid (t':=s.toks) (o:=.tup (List.replicate j.toNat vs).flatten) (fun b ob q=>Heap.get?_push_of_some _ q) (Nat.le_refl _) ⟨by rw[(r.rep j.toNat).length];exact hsz,_,r.rep j.toNat,PyProof.Rows.IsTup.new _ _⟩,rfl,k _ _ _ (.new sb I.fresh) (rep_tupNew (sb.free I.fresh) (q2.rep j.toNat))⟩
     ·cases e
   | _=>simp [tMul] at e
 | _=>cases u<;>simp [tMul] at e
end
end TL
namespace TL
open PySem L2
section
variable {X:Cx}{z:Z}{a b c:Expr}{f g h:FE}{fn fn':T→T→Option T}{pos:Pos}
theorem fChain_some {ρ:Rho}{w:T}(e:fChain fn fn' f g h ρ=some w):∃ t u,f ρ=some t∧g ρ=some u∧((∃ y,fn t u=some (.bl true)∧h ρ=some y∧fn' u y=some w)∨(fn t u=some (.bl false)∧w=.bl false)):=by
 unfold fChain at e
 split at e
 ·rename_i t e1
  split at e
  ·rename_i u e2
   split at e
   ·rename_i e3
    split at e
    ·rename_i y e4
     exact⟨t,u,e1,e2,.inl ⟨y,e3,e4,e⟩⟩
    ·cases e
   ·rename_i e3
    cases e
    exact⟨t,u,e1,e2,.inr ⟨e3,rfl⟩⟩
   ·cases e
  ·cases e
 ·cases e
theorem readC (hK:z.K=X.K):∀ σ H Q,tT z (fChain fn fn' f g h) σ H Q→tChain (rT X.K fn) (rT X.K fn') (tR z f) (tR z g) (tR z h) σ H Q:=fun σ H Q ⟨ρ,Hq,w,r,e,k⟩=>by
 obtain⟨t,u,e1,e2,e3⟩:=fChain_some e
 rw[← hK]
 refine⟨ρ,Hq,t,r,e1,fun v Hq1 H1 x1 r1=>⟨ρ,Hq1,u,r.ext x1,e2,fun v2 Hq2 H2 x2 r2=>?_⟩⟩
 rcases e3 with⟨y,e3,e4,e5⟩|⟨e3,rfl⟩
 ·exact⟨Hq2,t,u,.bl true,x2.sub,r1.ext x2,r2,e3,fun q Hq3 H3 x3 r3=>⟨true,r3.b,iteT ⟨ρ,Hq3,y,((r.ext x1).ext x2).ext x3,e4,fun v4 Hq4 H4 x4 r4=>⟨Hq4,u,y,w,x4.sub,(r2.ext x3).ext x4,r4,e5,fun q5 Hq5 H5 x5 r5=>k q5 Hq5 H5 ((((x1.trans x2).trans x3).trans x4).trans x5) r5⟩⟩⟩⟩
 ·exact⟨Hq2,t,u,.bl false,x2.sub,r1.ext x2,r2,e3,fun q Hq3 H3 x3 r3=>⟨false,r3.b,iteF (k _ Hq3 H3 ((x1.trans x2).trans x3) rep_bl)⟩⟩
theorem et_chain (hK:z.K=X.K){op op':CmpOp}(ho:Op2 X (compareOp op) fn) (ho':Op2 X (compareOp op') fn') (ha:ER X z a f)(hb:ER X z b g)(hc:ER X z c h)
  (hm:lastMarks [op,op'] [b,c]=false:=by with_unfolding_all rfl):ET X z (.Compare a [op,op'] [b,c] pos) (fB (fChain fn fn' f g h)) :=
 PT.imp (pt_chain ho.r ho'.r ha hb hc hm) fun σ H Q ⟨ρ,Hq,b,r,e,k⟩ =>
  readC (X:=X) hK σ H (fun x H'=>∃ k,x=.bl k∧Q k H') ⟨ρ,Hq,.bl b,r,fB_some e,fun v Hq' H' x p=>⟨b,p.b,k Hq' H' x⟩⟩
end
noncomputable def f1 (fn:T→Option T)(f:FE):FE:=fun ρ=>match f ρ with|some t=>fn t|none=>none
theorem f1_some {fn:T→Option T}{f:FE}{ρ:Rho}{w:T}(h:f1 fn f ρ=some w):∃ t,f ρ=some t∧fn t=some w:=by
 unfold f1 at h
 split at h
 ·rename_i t e;exact⟨t,e,h⟩
 ·cases h
noncomputable def tNeg:T→Option T
 | .int i=>some (.int (-i))
 | _=>none
section
variable {X:Cx}{z:Z}{a b e:Expr}{f g:FE}{pos:Pos}
theorem ev_neg (h:EV X z a f):EV X z (.UnaryOp .USub a pos) (f1 tNeg f):=PE.imp (pe_un un_neg h) fun σ H Q ⟨ρ,Hq,w,r,e,k⟩=>by
 obtain⟨t,e1,e2⟩:=f1_some e
 cases t<;>simp [tNeg] at e2
 subst e2
 exact⟨ρ,Hq,_,r,e1,fun v Hq1 H1 x1 r1=>⟨_,r1.i,k _ Hq1 H1 x1 rep_int⟩⟩
noncomputable def tIx:T→T→Option T
 | .tup ts,.int i=>atI ts i
 | .lst ts,.int i=>atI ts i
 | _,_=>none
theorem repL_atI {K:PySem.W.Frag}{H:Hp}{ts:List T}{vs:List V}(h:RepL K H ts vs){i:Int}{t:T}(e:atI ts i=some t):∃ v,atI vs i=some v∧Rep K H t v:=by
 unfold atI at e ⊢
 rw[← h.length]
 cases q:ixN ts.length i with
 | none=>rw[q] at e;cases e
 | some j =>
   rw[q] at e
   exact h.get e
theorem ev_ix (hK:z.K=X.K)(ha:ER X z a f)(hb:EV X z b g)(hs:PlainIx b):EV X z (.Subscript a b pos) (f2 tIx f g):=PE.imp (pe_ix ix_seq ha hb hs) fun σ H Q ⟨ρ,Hq,w,r,e,k⟩=>by
 obtain⟨t,u,e1,e2,e3⟩:=f2_some e
 refine⟨ρ,Hq,t,r,e1,fun v Hq1 H1 x1 r1=>⟨ρ,Hq1,u,r.ext x1,e2,fun v2 Hq2 H2 x2 r2=>?_⟩⟩
 cases t with
 | tup ts =>
   cases u with
   | int i =>
     obtain⟨p,vs,rfl,q1,q2⟩:=(r1.ext x2).tup x2.sub
     obtain⟨y,h1,h2⟩:=repL_atI q2 e3
     exact .inr (.inl ⟨p,vs,i,y,rfl,r2.i,hK▸q1,h1,k y Hq2 H2 (x1.trans x2) h2⟩)
   | _=>simp [tIx] at e3
 | lst ts =>
   cases u with
   | int i =>
     obtain⟨p,vs,rfl,q1,q2⟩:=(r1.ext x2).lst x2.sub
     obtain⟨y,h1,h2⟩:=repL_atI q2 e3
     exact .inl ⟨p,vs,i,y,rfl,r2.i,hK▸q1,h1,k y Hq2 H2 (x1.trans x2) h2⟩
   | _=>simp [tIx] at e3
 | _=>simp [tIx] at e3
noncomputable def cutT {α:Type}(xs:List α)(lo hi:Option Int):List α:=(xs.drop (HT.sIx xs.length 0 lo)).take (HT.sIx xs.length xs.length hi - HT.sIx xs.length 0 lo)
noncomputable def FO:=Rho→Option (Option Int)
noncomputable def foN:FO:=fun _=>some none
noncomputable def foS (f:FE):FO:=fun ρ=>match f ρ with|some (.int i)=>some (some i)|_=>none
noncomputable def tO (z:Z)(f:FO):TO:=fun σ H Q=>∃ ρ Hq o,Rn z σ ρ Hq H∧f ρ=some o∧∀ Hq' H',Ex Hq H Hq' H'→Q o H'
theorem PO.imp {X:Cx}{e:Option Expr}{t t':TO}(h:PO X e t)(i:∀ σ H Q,t' σ H Q→t σ H Q):PO X e t':=fun pins s σ H Q I q=>h pins s σ H Q I (i σ H Q q)
theorem eo_none:PO X none (tO z foN):=PO.imp po_none fun σ H Q ⟨ρ,Hq,o,r,e,k⟩=>by
 cases e;exact k Hq H (.refl r.sub)
theorem eo_some (h:EV X z e f):PO X (some e) (tO z (foS f)):=PO.imp (po_some h) fun σ H Q ⟨ρ,Hq,o,r,e,k⟩=>by
 unfold foS at e
 split at e
 ·rename_i i e1
  cases e
  exact⟨ρ,Hq,_,r,e1,fun v Hq1 H1 x1 r1=>⟨i,r1.i,k Hq1 H1 x1⟩⟩
 ·cases e
theorem RepL.cut {K:PySem.W.Frag}{H:Hp}{ts:List T}{vs:List V}(h:RepL K H ts vs)(lo hi:Option Int):RepL K H (cutT ts lo hi) (cutV vs lo hi):=by
 unfold cutT cutV
 rw[h.length]
 exact(h.drop _).take _
noncomputable def tCut (t:T)(lo hi:Option Int):Option T:=match t with
 | .tup ts=>some (.tup (cutT ts lo hi))
 | .lst ts=>some (.lst (cutT ts lo hi))
 | _=>none
noncomputable def rCut (K:PySem.W.Frag):V→Option Int→Option Int→Hp→VK→Prop:=fun x lo hi H Q=>∃ Hq t w,Same Hq H∧RepR K Hq H t x∧tCut t lo hi=some w∧∀ q Hq' H',Ex Hq H Hq' H'→Rep K Hq' w q→Q q H'
theorem sl_cut:SlR X (rCut X.K):=by
 intro pins s σ H x v vl vu lo hi sl Q I rx hs pl pu h
 obtain⟨Hq,t,w,sb,r1,e,k⟩:=h
 cases t with
 | tup ts =>
   simp only[tCut,Option.some.injEq] at e
   subst e
   obtain⟨a,vs,rfl,q1,q2⟩:=r1.tup sb
   by_cases hw:HT.sIx vs.length 0 lo=0∧HT.sIx vs.length vs.length hi=vs.length
   ·cases rx
    obtain⟨its,r,ht,hz⟩:=I.tuple q1
    have hlen:its.toArray.size=vs.length:=by rw[List.size_toArray];exact r.length.symm
    refine⟨"tuple",_,PyProof.Rows.slot_tuple_getitem.lookup,ht.typeIs,getItem_tuple_whole ht hs pl pu (by rw[hlen];exact hw) ?_⟩
    refine⟨.ref a,H,I,rfl,k _ Hq H (.refl sb) ?_⟩
    have:cutT ts lo hi=ts:=by
     unfold cutT
     rw[q2.length,hw.1,hw.2,Nat.sub_zero,List.drop_zero,← q2.length,List.take_length]
    rw[this]
    rcases r1 with r1|⟨_,_,_,_,z,_⟩
    ·exact r1
    ·cases z
   ·exact sl_tup pins s σ H _ v vl vu lo hi sl Q I rx hs pl pu ⟨a,vs,rfl,q1,hw,fun p hp=>k _ _ _ (.new sb hp) (rep_tupNew (sb.free hp) (q2.cut lo hi))⟩
 | lst ts =>
   simp only[tCut,Option.some.injEq] at e
   subst e
   obtain⟨a,vs,rfl,q1,q2⟩:=r1.lst sb
   exact sl_list pins s σ H _ v vl vu lo hi sl Q I rx hs pl pu ⟨a,vs,rfl,q1,fun p hp=>k _ _ _ (.new sb hp) (rep_lstNew (sb.free hp) (q2.cut lo hi))⟩
 | _=>simp [tCut] at e
noncomputable def fCut (f:FE)(lo hi:FO):FE:=fun ρ=>match f ρ with|some t=>(match lo ρ with|some l=>(match hi ρ with|some h=>tCut t l h|none=>none)|none=>none)|none=>none
theorem ev_slice (hK:z.K=X.K){lo hi:Option Expr}{fl fh:FO}{p2:Pos}(he:ER X z e f)(hl:PO X lo (tO z fl)) (hh:PO X hi (tO z fh)):EV X z (.Subscript e (.Slice lo hi none p2) pos) (fCut f fl fh) :=
 PE.imp (pe_slice sl_cut he hl hh) fun σ H Q ⟨ρ,Hq,w,r,e,k⟩=>by
  unfold fCut at e
  split at e
  ·rename_i t e1
   split at e
   ·rename_i l e2
    split at e
    ·rename_i h e3
     refine⟨ρ,Hq,t,r,e1,fun v Hq1 H1 x1 r1=>⟨ρ,Hq1,l,r.ext x1,e2,fun Hq2 H2 x2=>⟨ρ,Hq2,h,(r.ext x1).ext x2,e3,fun Hq3 H3 x3=>?_⟩⟩⟩
     rw[← hK]
     exact⟨Hq3,t,w,x3.sub,(r1.ext x2).ext x3,e,fun q Hq4 H4 x4 r4=>k q Hq4 H4 (((x1.trans x2).trans x3).trans x4) r4⟩
    ·cases e
   ·cases e
  ·cases e
noncomputable def tRev:T→Option T
 | .tup ts=>some (.tup ts.reverse)
 | _=>none
end
end TL
namespace TL
open PySem L2
section
variable {X:Cx}{z:Z}{e:Expr}{f g:FE}{p p' pos:Pos}
noncomputable def tAR (z:Z)(f:FE):TA:=fun σ H Q=>∃ ρ Hq t,Rn z σ ρ Hq H∧f ρ=some t∧∀ v Hq' H',Ex Hq H Hq' H'→RepR z.K Hq' H' t v→Q [v] H'
theorem ea_r1 (h:ER X z e f)(hs:starEach [e] X.env=[(false,eval e X.env)]:=by rfl):PA X [e] (tAR z f):=PA.imp (pa_cons h pa_nil hs) fun σ H Q ⟨ρ,Hq,t,r,e,k⟩ =>
 ⟨ρ,Hq,t,r,e,fun v Hq' H' x rr=>k v Hq' H' x rr⟩
noncomputable def Bi1 (X:Cx)(fv:Value)(fn:T→Option T):Prop:=CallR X fv fun xs H Q=>∃ Hq t w x,xs=[x]∧Same Hq H∧RepR X.K Hq H t x∧fn t=some w∧∀ q Hq' H',Ex Hq H Hq' H'→Rep X.K Hq' w q→Q q H'
theorem read1 (hK:z.K=X.K){fn:T→Option T}:∀ σ H Q,tT z (f1 fn f) σ H Q→tCB (fun xs H Q=>∃ Hq t w x,xs=[x]∧Same Hq H∧RepR X.K Hq H t x∧fn t=some w∧∀ q Hq' H',Ex Hq H Hq' H'→Rep X.K Hq' w q→Q q H') (tAR z f) σ H Q:=fun σ H Q ⟨ρ,Hq,w,r,e,k⟩=>by
 obtain⟨t,e1,e2⟩:=f1_some e
 rw[← hK]
 exact⟨ρ,Hq,t,r,e1,fun v Hq1 H1 x1 r1=>⟨Hq1,t,w,v,rfl,x1.sub,r1,e2,fun q Hq2 H2 x2 r2=>k q Hq2 H2 (x1.trans x2) r2⟩⟩
theorem ev_b1 (hK:z.K=X.K){fn:T→Option T}{x:Str}{id:String}(hb:Bi1 X (.builtin id) fn) (hg:Gl X x)(hm:X.mg x=none)(hv:bootBuiltins x=some (.builtin id)) (he:ER X z e f)(hn:x≠"__name__":=by decide)(hdb:(x==("__debug__":Str))=false:=by decide)
  (hs:starEach [e] X.env=[(false,eval e X.env)]:=by rfl):EV X z (.Call (.Name x p) [e] [] pos) (f1 fn f):=PE.imp (pe_callB hb hg hm hv (ea_r1 he hs) hn hdb hs rfl) (read1 hK)
theorem ev_y1 (hK:z.K=X.K){fn:T→Option T}{x:Str}{id:String}(hb:Bi1 X (.type id) fn) (hg:Gl X x)(hm:X.mg x=none)(hv:bootBuiltins x=some (.type id)) (he:ER X z e f)(hn:x≠"__name__":=by decide)(hdb:(x==("__debug__":Str))=false:=by decide)
  (hs:starEach [e] X.env=[(false,eval e X.env)]:=by rfl):EV X z (.Call (.Name x p) [e] [] pos) (f1 fn f):=PE.imp (pe_callTy hb hg hm hv (ea_r1 he hs) hn hdb hs rfl) (read1 hK)
noncomputable def tLen:T→Option T
 | .tup ts=>some (.int ts.length)
 | .lst ts=>some (.int ts.length)
 | .str x=>if x.length≤sizeLine then some (.int x.length) else none
 | _=>none
theorem b_len:Bi1 X (.builtin "len") tLen:=by
 intro pins s σ H xs us Q I r h
 obtain⟨Hq,t,w,x,rfl,sb,r1,e,k⟩:=h
 cases t with
 | tup ts =>
   simp only[tLen,Option.some.injEq] at e;subst e
   obtain⟨a,vs,rfl,q1,q2⟩:=r1.tup sb
   exact call_len_seq pins s σ H _ us Q I r ⟨a,vs,rfl,.inr q1,by rw[← q2.length];exact k _ Hq H (.refl sb) rep_int⟩
 | lst ts =>
   simp only[tLen,Option.some.injEq] at e;subst e
   obtain⟨a,vs,rfl,q1,q2⟩:=r1.lst sb
   exact call_len_seq pins s σ H _ us Q I r ⟨a,vs,rfl,.inl q1,by rw[← q2.length];exact k _ Hq H (.refl sb) rep_int⟩
 | str y =>
   simp only[tLen] at e
   split at e
   ·rename_i hl
    cases e
    cases r1.str
    exact call_len_str pins s σ H _ us Q I r ⟨y,rfl,hl,k _ Hq H (.refl sb) rep_int⟩
   ·cases e
 | _=>simp [tLen] at e
noncomputable def tTupOf:T→Option T
 | .tup ts=>some (.tup ts)
 | .lst ts=>some (.tup ts)
 | _=>none
theorem b_tuple:Bi1 X (.type "tuple") tTupOf:=by
 intro pins s σ H xs us Q I r h
 obtain⟨Hq,t,w,x,rfl,sb,r1,e,k⟩:=h
 cases t with
 | tup ts =>
   simp only[tTupOf,Option.some.injEq] at e;subst e
   obtain⟨a,vs,rfl,q1,q2⟩:=r1.tup sb
   refine call_tuple_of pins s σ H _ us Q I r ⟨a,vs,rfl,.inr ⟨q1,k _ Hq H (.refl sb) ?_⟩⟩
   rcases r1 with r1|⟨_,_,_,_,z,_⟩
   ·exact r1
   ·cases z
 | lst ts =>
   simp only[tTupOf,Option.some.injEq] at e;subst e
   obtain⟨a,vs,rfl,q1,q2⟩:=r1.lst sb
   exact call_tuple_of pins s σ H _ us Q I r ⟨a,vs,rfl,.inl ⟨q1,fun l hl=>k _ _ _ (.new sb hl) (rep_tupNew (sb.free hl) q2)⟩⟩
 | _=>simp [tTupOf] at e
noncomputable def tLstOf:T→Option T
 | .tup ts=>some (.lst ts)
 | .lst ts=>some (.lst ts)
 | _=>none
noncomputable def tStrOf:T→Option T
 | .int i=>if i.natAbs.log2<1920 then some (.str (toString i)) else none
 | _=>none
noncomputable def tAll:T→Option T
 | .lst ts=>if (ts.all fun t=>match t with|.bl _=>true|_=>false)=true then some (.bl (ts.all fun t=>match t with|.bl b=>b|_=>true)) else none
 | _=>none
noncomputable def tAny:T→Option T
 | .lst ts=>if (ts.all fun t=>match t with|.bl _=>true|_=>false)=true then some (.bl (ts.any fun t=>match t with|.bl b=>b|_=>false)) else none
 | _=>none
theorem bools_at {K:PySem.W.Frag}{H:Hp}{ts:List T}{vs:List V}{its:List Value}(r:Vals vs its)(q:RepL K H ts vs)(hb:(ts.all fun t=>match t with|.bl _=>true|_=>false)=true) :
  ∃ bs:List Bool,ts=bs.map T.bl∧its=bs.map Value.bool:=by
 have:∃ bs:List Bool,ts=bs.map T.bl:=by
  clear q
  induction ts with
  | nil=>exact⟨[],rfl⟩
  | cons t ts ih =>
    rw[List.all_cons,Bool.and_eq_true] at hb
    obtain⟨bs,e⟩:=ih hb.2
    cases t with
    | bl b=>exact⟨b::bs,by rw[e];rfl⟩
    | _=>simp at hb
 obtain⟨bs,rfl⟩:=this
 refine⟨bs,rfl,?_⟩
 clear hb
 induction bs generalizing vs its with
 | nil=>unfold RepL at q;simp at q;subst q;cases r;rfl
 | cons b bs ih =>
   rw[List.map_cons] at q
   unfold RepL at q
   obtain⟨v,rr,rfl,h2,h3⟩:=q
   cases h2.b
   cases r with
   | cons r1 r2 =>
     cases r1
     rw[ih r2 h3];rfl
theorem range_all (bs:List Bool):(List.range bs.length).all (fun i=>bs.getD i true)=bs.all id:=by
 induction bs with
 | nil=>rfl
 | cons b bs ih =>
   rw[List.length_cons,List.range_succ_eq_map,List.all_cons,List.all_map,List.all_cons,← ih]
   rfl
theorem truth_bools {prog:Program}{w:World}{A:Around}(bs:List Bool):TruthOf prog w A (fun i v=>(bs.map Value.bool).toArray[i]?=some v) fun i=>bs.getD i true:=by
 intro i v s Q E hv hq
 have hv':(bs.map Value.bool)[i]?=some v:=by simpa using hv
 rw[List.getElem?_map] at hv'
 cases e:bs[i]? with
 | none=>rw[e] at hv';cases hv'
 | some b =>
   rw[e] at hv'
   cases hv'
   have:bs.getD i true=b:=by rw[List.getD_eq_getElem?_getD,e];rfl
   dsimp only at hq
   rw[this] at hq
   exact wpAny_truthy_bool hq
theorem b_all (hc:X.calm=true):Bi1 X (.builtin "all") tAll:=by
 intro pins s σ H xs us Q I r h
 obtain⟨Hq,t,w,x,rfl,sb,r1,e,k⟩:=h
 cases t with
 | lst ts =>
   simp only[tAll] at e
   split at e
   ·rename_i hb
    cases e
    obtain⟨a,vs,rfl,q1,q2⟩:=r1.lst sb
    obtain⟨u,rfl,ru⟩:=vals1 r
    cases ru
    obtain⟨its,rv,p,hz⟩:=I.list q1
    obtain⟨bs,rfl,rfl⟩:=bools_at rv q2 hb
    refine call_all_walk (wpAny_pyIter_list p.isList ?_)
    have hax:a<s.heap.objs.size:=let ⟨o,ho,_⟩:=p.isList;Heap.lt_size ho
    refine⟨s.heap.objs.size,[s.heap.objs.size,a],[s.heap.objs.size],(bs.map Value.bool).toArray.size,(fun i v=>(bs.map Value.bool).toArray[i]?=some v),(fun i h=>h.IsListIter s.heap.objs.size a i∧h.IsList a (bs.map Value.bool).toArray),fun i=>bs.getD i true,rfl,
     Walks.list (show X.A.in1.handled=none from I.ok.hd hc) s.heap.objs.size a (Nat.ne_of_lt hax) (bs.map Value.bool).toArray,⟨⟨_,Heap.get?_push_size _ rfl,rfl,rfl⟩,p.isList.push _⟩,truth_bools bs,fun h' tk kp=>?_⟩
    have ev:(List.range (bs.map Value.bool).toArray.size).all (fun i=>bs.getD i true)=(bs.map T.bl).all fun t=>match t with|.bl b=>b|_=>true:=by
     rw[List.size_toArray,List.length_map,range_all,List.all_map]
     rfl
    rw[ev]
    exact⟨.bl _,H,I.kept (t':=tk) fun b o e=>kp b o (by simp;exact Nat.ne_of_lt (Heap.lt_size e)) (Heap.get?_push_of_some _ e),rfl,k _ Hq H (.refl sb) rep_bl⟩
   ·cases e
 | _=>simp [tAll] at e
noncomputable def isT (c:String):T→Bool
 | .non=>false
 | .bl _=>c=="bool"||c=="int"
 | .int _=>c=="int"
 | .str _=>c=="str"
 | .tup _=>c=="tuple"
 | .lst _=>c=="list"
 | .dct _=>c=="dict"
noncomputable def tIs (c:String)(t:T):Option T:=some (.bl (isT c t))
structure Kit (K:PySem.W.Frag)(c:String):Prop where
 non:PySem.W.kitOne K (.type "NoneType") (.type c)=some (isT c .non)
 bl:PySem.W.kitOne K (.type "bool") (.type c)=some (isT c (.bl true))
 int:PySem.W.kitOne K (.type "int") (.type c)=some (isT c (.int 0))
 str:PySem.W.kitOne K (.type "str") (.type c)=some (isT c (.str ""))
 tup:PySem.W.kitOne K (.type "tuple") (.type c)=some (isT c (.tup []))
 lst:PySem.W.kitOne K (.type "list") (.type c)=some (isT c (.lst []))
 dct:PySem.W.kitOne K (.type "dict") (.type c)=some (isT c (.dct []))
noncomputable def tMin:T→T→Option T
 | .int i,.int j=>some (.int (if j<i then j else i))
 | _,_=>none
theorem ev_min (hc:X.calm=true){a b:Expr}(hg:Gl X "min")(hm:X.mg "min"=none)(ha:EV X z a f)(hb:EV X z b g)(hs:starEach [a,b] X.env=[(false,eval a X.env),(false,eval b X.env)]:=by rfl) (hs2:starEach [b] X.env=[(false,eval b X.env)]:=by rfl) :
  EV X z (.Call (.Name "min" p) [a,b] [] pos) (f2 tMin f g):=by
 refine PE.imp (pe_callB (call_min2 hc) hg hm (by rfl) (pa_cons ha (pa_cons hb pa_nil (by rw[hs2];rfl)) (by rw[hs,hs2])) (by decide) (by decide) (by rw[hs,hs2]) (by rw[hs2];rfl)) fun σ H Q ⟨ρ,Hq,w,r,e,k⟩=>?_
 obtain⟨t,u,e1,e2,e3⟩:=f2_some e
 cases t<;>cases u<;>simp [tMin] at e3
 subst e3
 rename_i i j
 exact⟨ρ,Hq,_,r,e1,fun v Hq1 H1 x1 r1=>⟨ρ,Hq1,_,r.ext x1,e2,fun v2 Hq2 H2 x2 r2=>⟨i,j,by rw[r1.i,r2.i],k _ Hq2 H2 (x1.trans x2) rep_int⟩⟩⟩
end
end TL
namespace TL
open PySem L2
noncomputable def Walk (K:PySem.W.Frag)(J:It)(ts:List T)(Hq:Hp)(P:Hp→Prop):Prop:=∀(i:Nat)(Hq' H':Hp),Same Hq Hq'→Same Hq' H'→P H' →
 (∀ t,ts[i]?=some t→J.go i H'∧∀ x H3,J.yld i H' x H3→∃ Hq3,Ex Hq' H' Hq3 H3∧Rep K Hq3 t x)∧(ts.length≤i→J.stop i H')
noncomputable def iR (z:Z)(f:FA):TI:=fun σ H R=>∃ ρ Hq ts,Rn z σ ρ Hq H∧f ρ=some ts∧∀ J Hq' H' P,Ex Hq H Hq' H'→P H'→(∀ a b,Same a b→P a→P b)→Walk z.K J ts Hq' P→R J H'
noncomputable def iP (z:Z)(f:FA):TI:=fun σ H R=>∃ ρ Hq ts,Rn z σ ρ Hq H∧f ρ=some ts∧∀ J Hq' H',Ex Hq H Hq' H'→Walk z.K J ts Hq' (fun _=>True)→R J H'
noncomputable def fIt (f:FE):FA:=fun ρ=>match f ρ with|some (.tup ts)=>some ts|some (.lst ts)=>some ts|_=>none
section
variable {X:Cx}{z:Z}{e tg:Expr}{f g:FE}{p pos:Pos}
theorem PI.imp {t t':TI}(h:PI X tg e t)(i:∀ σ H R,t' σ H R→t σ H R):PI X tg e t':=fun pins s σ H R I q=>h pins s σ H R I (i σ H R q)
noncomputable def iSq (K:PySem.W.Frag)(tl:TE):TI:=fun σ H R=>tl σ H fun x H1=>∃ a,x=.ref a∧((∃ xs,SqL K H1 a xs)∧R (Itl K a) H1∨(∃ xs,SqT K H1 a xs)∧R (Itt K a) H1)
theorem pi_seq {tl:TE}(hl:PE X e tl):PI X tg e (iSq X.K tl):=by
 intro pins s σ H R I h
 refine thn (hl pins s σ H _ I h) fun v s1 ⟨x,H1,I1,r1,q1⟩=>?_
 obtain⟨a,e,q1⟩:=q1
 subst e
 cases r1
 rcases q1 with⟨⟨xs,hq⟩,q⟩|⟨⟨xs,hq⟩,q⟩
 ·obtain⟨its,rv,p,hz⟩:=I1.list hq
  refine wpAny_pyIter_list p.isList ?_
  refine⟨s1.heap.objs.size,[s1.heap.objs.size],_,_,H1,rfl,I1.kept (t':=s1.toks) fun b o e=>Heap.get?_push_of_some _ e,turn_list a _,⟨_,Heap.get?_push_size _ rfl,rfl,rfl⟩,fun b hb=>?_,q⟩
  have e:b=s1.heap.objs.size:=by simpa using hb
  subst e
  exact I1.fpOk (Nat.le_refl _) (I1.hok.fresh (Nat.le_refl _))
 ·obtain⟨its,rv,p,hz⟩:=I1.tuple hq
  refine wpAny_pyIter_tuple (show s1.heap.IsTuple a its.toArray from p) ?_
  refine⟨s1.heap.objs.size,[s1.heap.objs.size],_,_,H1,rfl,I1.kept (t':=s1.toks) fun b o e=>Heap.get?_push_of_some _ e,turn_tuple a _,⟨_,Heap.get?_push_size _ rfl,rfl,rfl⟩,fun b hb=>?_,q⟩
  have e:b=s1.heap.objs.size:=by simpa using hb
  subst e
  exact I1.fpOk (Nat.le_refl _) (I1.hok.fresh (Nat.le_refl _))
theorem walk_t {K:PySem.W.Frag}{a:Addr}{ts:List T}{vs:List V}{Hq:Hp}(hr:RepL K Hq ts vs)(P:Hp→Prop)(hP:∀ Hq' H',Same Hq Hq'→Same Hq' H'→P H'→SqT K H' a vs):Walk K (Itt K a) ts Hq P:=by
 intro i Hq' H' s1 s2 p
 have q:=hP Hq' H' s1 s2 p
 refine⟨fun t e=>?_,fun h=>⟨vs,q,by rw[← hr.length];exact h⟩⟩
 obtain⟨v,e1,r1⟩:=hr.get e
 refine⟨⟨vs,v,q,e1⟩,fun x H3 y=>?_⟩
 obtain⟨rfl,y⟩:=y
 have:=y vs q
 rw[e1] at this
 cases this
 exact⟨Hq',.refl s2,r1.mono s1⟩
theorem walk_l {K:PySem.W.Frag}{a:Addr}{ts:List T}{vs:List V}{Hq:Hp}(hr:RepL K Hq ts vs)(P:Hp→Prop)(hP:∀ Hq' H',Same Hq Hq'→Same Hq' H'→P H'→SqL K H' a vs):Walk K (Itl K a) ts Hq P:=by
 intro i Hq' H' s1 s2 p
 have q:=hP Hq' H' s1 s2 p
 refine⟨fun t e=>?_,fun h=>⟨vs,q,by rw[← hr.length];exact h⟩⟩
 obtain⟨v,e1,r1⟩:=hr.get e
 refine⟨⟨vs,v,q,e1⟩,fun x H3 y=>?_⟩
 obtain⟨rfl,y⟩:=y
 have:=y vs q
 rw[e1] at this
 cases this
 exact⟨Hq',.refl s2,r1.mono s1⟩
noncomputable def rangeT (lo:Int) (n:Nat):List T:=(List.range n).map fun(i:Nat)=>.int (lo+(i:Int))
theorem walk_r {K:PySem.W.Frag}{lo:Int}{n:Nat}{Hq:Hp}(P:Hp→Prop):Walk K (Itr lo n) (rangeT lo n) Hq P:=by
 intro i Hq' H' s1 s2 p
 have hl:(rangeT lo n).length=n:=by unfold rangeT;simp
 refine⟨fun t e=>?_,fun h=>by rw[hl] at h;exact h⟩
 have hi:i<n:=by
  have:=(List.getElem?_eq_some_iff.mp e).1
  rw[hl] at this;exact this
 refine⟨hi,fun x H3 y=>?_⟩
 obtain⟨rfl,rfl⟩:=y
 unfold rangeT at e
 rw[List.getElem?_map,List.getElem?_range hi] at e
 cases e
 exact⟨Hq',.refl s2,rep_int⟩
theorem ir_seq (hK:z.K=X.K)(h:ER X z e f):PI X tg e (iR z (fIt f)):=PI.imp (pi_seq h) fun σ H R ⟨ρ,Hq,ts,r,e,k⟩=>by
 unfold fIt at e
 split at e
 ·rename_i us e1
  cases e
  refine⟨ρ,Hq,_,r,e1,fun v Hq1 H1 x1 r1=>?_⟩
  obtain⟨a,vs,rfl,q1,q2⟩:=r1.tup x1.sub
  rw[hK] at q1 q2
  refine⟨a,rfl,.inr ⟨⟨vs,q1⟩,?_⟩⟩
  rw[← hK]
  refine k _ Hq1 H1 (fun H'=>SqT X.K H' a vs) x1 q1 (fun a b s h=>sqT_mono s h) ?_
  rw[hK]
  exact walk_t q2 _ fun _ _ _ _ p=>p
 ·rename_i us e1
  cases e
  refine⟨ρ,Hq,_,r,e1,fun v Hq1 H1 x1 r1=>?_⟩
  obtain⟨a,vs,rfl,q1,q2⟩:=r1.lst x1.sub
  rw[hK] at q1 q2
  refine⟨a,rfl,.inl ⟨⟨vs,q1⟩,?_⟩⟩
  rw[← hK]
  refine k _ Hq1 H1 (fun H'=>SqL X.K H' a vs) x1 q1 (fun a b s h=>s.seq h) ?_
  rw[hK]
  exact walk_l q2 _ fun _ _ _ _ p=>p
 ·cases e
theorem ip_seq (hK:z.K=X.K)(h:EV X z e f):PI X tg e (iP z (fIt f)):=PI.imp (pi_seq h) fun σ H R ⟨ρ,Hq,ts,r,e,k⟩=>by
 unfold fIt at e
 split at e
 ·rename_i us e1
  cases e
  refine⟨ρ,Hq,_,r,e1,fun v Hq1 H1 x1 r1=>?_⟩
  unfold Rep at r1
  obtain⟨a,vs,rfl,q1,q2⟩:=r1
  rw[hK] at q1 q2
  refine⟨a,rfl,.inr ⟨⟨vs,sqT_mono x1.sub q1⟩,?_⟩⟩
  rw[← hK]
  refine k _ Hq1 H1 x1 ?_
  rw[hK]
  exact walk_t q2 _ fun _ _ s1 s2 _=>sqT_mono s2 (sqT_mono s1 q1)
 ·rename_i us e1
  cases e
  refine⟨ρ,Hq,_,r,e1,fun v Hq1 H1 x1 r1=>?_⟩
  unfold Rep at r1
  obtain⟨a,vs,rfl,q1,q2⟩:=r1
  rw[hK] at q1 q2
  refine⟨a,rfl,.inl ⟨⟨vs,x1.sub.seq q1⟩,?_⟩⟩
  rw[← hK]
  refine k _ Hq1 H1 x1 ?_
  rw[hK]
  exact walk_l q2 _ fun _ _ s1 s2 _=>s2.seq (s1.seq q1)
 ·cases e
noncomputable def fRng (f:FE):FA:=fun ρ=>match f ρ with|some (.int j)=>if -(2 ^ 62)≤j∧j<2 ^ 62 then some (rangeT 0 j.toNat) else none|_=>none
noncomputable def fRng2 (f g:FE):FA:=fun ρ=>match f ρ with|some (.int i)=>(match g ρ with|some (.int j)=>if -(2 ^ 62)≤i∧i<2 ^ 62 ∧ -(2 ^ 62)≤j∧j<2 ^ 62 then some (rangeT i (j - i).toNat) else none|_=>none)|_=>none
theorem ip_range (hg:Gl X "range")(hm:X.mg "range"=none)(h:EV X z e f)(hs:starEach [e] X.env=[(false,eval e X.env)]:=by rfl):PI X tg (.Call (.Name "range" p) [e] [] pos) (iP z (fRng f)) :=
 PI.imp (pi_range1 hg hm (pa_cons h pa_nil hs) hs) fun σ H R ⟨ρ,Hq,ts,r,e,k⟩=>by
  unfold fRng at e
  split at e
  ·rename_i j e1
   split at e
   ·rename_i hj
    cases e
    exact⟨ρ,Hq,_,r,e1,fun v Hq1 H1 x1 r1=>⟨j,by rw[r1.i],hj.1,hj.2,k _ Hq1 H1 x1 (walk_r _)⟩⟩
   ·cases e
  ·cases e
theorem ip_range2 {a:Expr}(hg:Gl X "range")(hm:X.mg "range"=none)(ha:EV X z a f)(h:EV X z e g)(hs:starEach [a,e] X.env=[(false,eval a X.env),(false,eval e X.env)]:=by rfl) (hs2:starEach [e] X.env=[(false,eval e X.env)]:=by rfl):PI X tg (.Call (.Name "range" p) [a,e] [] pos) (iP z (fRng2 f g)) :=
 PI.imp (pi_range2 hg hm (pa_cons ha (pa_cons h pa_nil (by rw[hs2];rfl)) (by rw[hs,hs2])) hs hs2) fun σ H R ⟨ρ,Hq,ts,r,e,k⟩=>by
  unfold fRng2 at e
  split at e
  ·rename_i i e1
   split at e
   ·rename_i j e2
    split at e
    ·rename_i hj
     cases e
     exact⟨ρ,Hq,_,r,e1,fun v Hq1 H1 x1 r1=>⟨ρ,Hq1,_,r.ext x1,e2,fun v2 Hq2 H2 x2 r2=>⟨i,j,by rw[r1.i,r2.i],hj,k _ Hq2 H2 (x1.trans x2) (walk_r _)⟩⟩⟩
    ·cases e
   ·cases e
  ·cases e
theorem ir_of {f:FA}(h:PI X tg e (iP z f)):PI X tg e (iR z f):=PI.imp h fun σ H R ⟨ρ,Hq,ts,r,e,k⟩=>⟨ρ,Hq,ts,r,e,fun J Hq' H' x w=>k J Hq' H' (fun _=>True) x trivial (fun _ _ _ h=>h) w⟩
end
noncomputable abbrev FG:=T→Rho→Option Rho
noncomputable def tG (z:Z)(tc:List Nat)(g:FG):TG:=fun v σ H Q=>∃ ρ Hq t ρ',Rn z σ ρ Hq H∧Rep z.K Hq t v∧g t ρ=some ρ'∧∀ σ',Rn z σ' ρ' Hq H→(∀ j,j∉tc→σ'[j]?=σ[j]?)→Q σ' H
theorem Rn.setP {z:Z}{σ:L2.St}{ρ:Rho}{Hq H:Hp}(r:Rn z σ ρ Hq H) (i:Nat){t:T}{v:V}(h:Rep z.K Hq t v):Rn z (σ.set i (some v)) (ρ.set i (some (.pu t))) Hq H:=by
 have hl:=r.len
 refine⟨r.ex,by rw[List.length_set,List.length_set];exact hl,fun j u e=>?_,fun j u e=>?_,fun j k us ws a hjk e1 e2 e3=>?_,fun j C e=>?_,r.o.go (setO_hs (fun _ q=>by cases q;exact id)) (fun _ _ _ _ h n=>⟨h,n⟩) (.refl _)⟩
 ·by_cases hj:i=j
  ·subst hj
   by_cases hi:i<ρ.length
   ·rw[List.getElem?_set_self hi] at e
    cases e
    exact⟨v,List.getElem?_set_self (by omega),h⟩
   ·rw[List.getElem?_eq_none (by rw[List.length_set];omega)] at e;cases e
  ·rw[List.getElem?_set_ne hj] at e ⊢
   exact r.pu j u e
 ·by_cases hj:i=j
  ·subst hj
   by_cases hi:i<ρ.length
   ·rw[List.getElem?_set_self hi] at e;cases e
   ·rw[List.getElem?_eq_none (by rw[List.length_set];omega)] at e;cases e
  ·rw[List.getElem?_set_ne hj] at e ⊢
   exact r.ow j u e
 ·have h1:i≠j:=fun z=>by
   subst z
   by_cases hi:i<ρ.length
   ·rw[List.getElem?_set_self hi] at e1;cases e1
   ·rw[List.getElem?_eq_none (by rw[List.length_set];omega)] at e1;cases e1
  have h2:i≠k:=fun z=>by
   subst z
   by_cases hi:i<ρ.length
   ·rw[List.getElem?_set_self hi] at e2;cases e2
   ·rw[List.getElem?_eq_none (by rw[List.length_set];omega)] at e2;cases e2
  rw[List.getElem?_set_ne h1] at e1 e3
  rw[List.getElem?_set_ne h2] at e2 ⊢
  exact r.ne j k us ws a hjk e1 e2 e3
 ·by_cases hj:i=j
  ·subst hj
   by_cases hi:i<ρ.length
   ·rw[List.getElem?_set_self hi] at e;cases e
   ·rw[List.getElem?_eq_none (by rw[List.length_set];omega)] at e;cases e
  ·rw[List.getElem?_set_ne hj] at e ⊢
   exact r.xc j C e
noncomputable def gNm (i:Nat):FG:=fun t ρ=>some (ρ.set i (some (.pu t)))
section
variable {X:Cx}{z:Z}{pos:Pos}
theorem PG.imp {tg:Expr}{t t':TG}(h:PG X tg t)(i:∀ v σ H Q,t' v σ H Q→t v σ H Q):PG X tg t':=fun pins s σ H v u Q I r q=>h pins s σ H v u Q I r (i v σ H Q q)
theorem eg_name (i:Nat){x:Str}(hN:X.N.Nodup)(hi:X.N[i]?=some x:=by rfl)(hx:Loc X.env.scope x:=by first|exact Or.inl rfl|exact Or.inr rfl)(hf:X.fn x=true∨X.env.scope.names.lookup x=some .local:=by first|exact .inl rfl|exact .inr rfl):PG X (.Name x pos) (tG z [i] (gNm i)) :=
 PG.imp (pg_name hN hi hx hf) fun v σ H Q ⟨ρ,Hq,t,ρ',r,h,e,k⟩=>by
  cases e
  refine k _ (r.setP i h) fun j hj=>?_
  exact List.getElem?_set_ne fun z=>hj (by simp [z])
noncomputable def gTp2 (i j:Nat):FG:=fun t ρ=>match t with|.tup [a,b]=>some ((ρ.set i (some (.pu a))).set j (some (.pu b)))|_=>none
theorem eg_tup2 (hK:z.K=X.K)(hc:X.calm=true) (i j:Nat){x y:Str}{px py:Pos}{kd:Nat}(hN:X.N.Nodup)(hi:X.N[i]?=some x:=by rfl)(hj:X.N[j]?=some y:=by rfl)(hx:Loc X.env.scope x:=by first|exact Or.inl rfl|exact Or.inr rfl)(hy:Loc X.env.scope y:=by first|exact Or.inl rfl|exact Or.inr rfl)
  (hf:X.fn x=true∨X.env.scope.names.lookup x=some .local:=by first|exact .inl rfl|exact .inr rfl)(hf2:X.fn y=true∨X.env.scope.names.lookup y=some .local:=by first|exact .inl rfl|exact .inr rfl):PG X (.Tuple [.Name x px,.Name y py] kd pos) (tG z [i,j] (gTp2 i j)) :=
 PG.imp (pg_tup (n:=2) hc (pgs_cons (pg_name hN hi hx hf) (pgs_cons (pg_name hN hj hy hf2) pgs_nil))) fun v σ H Q ⟨ρ,Hq,t,ρ',r,h,e,k⟩=>by
  unfold gTp2 at e
  split at e
  ·rename_i a b
   cases e
   unfold Rep at h
   obtain⟨p,vs,rfl,q1,q2⟩:=h
   unfold RepL at q2
   obtain⟨v1,r1,rfl,h1,q2⟩:=q2
   unfold RepL at q2
   obtain⟨v2,r2,rfl,h2,q2⟩:=q2
   unfold RepL at q2
   subst q2
   refine⟨p,[v1,v2],rfl,hK▸sqT_mono r.sub q1,rfl,v1,[v2],rfl,v2,[],rfl,rfl,k _ ((r.setP i h1).setP j h2) fun l hl=>?_⟩
   have h1:j≠l:=fun z=>hl (by simp [z])
   have h2:i≠l:=fun z=>hl (by simp [z])
   rw[List.getElem?_set_ne h1,List.getElem?_set_ne h2]
  ·cases e
end
noncomputable def compL (g:FG)(c:FT)(e:FE)(ρ:Rho):List T→Option (List T)
 | []=>some []
 | t::ts=>match g t ρ with
   | none=>none
   | some ρ1=>match c ρ1 with
     | none=>none
     | some false=>compL g c e ρ ts
     | some true=>match e ρ1 with
       | none=>none
       | some y=>match compL g c e ρ ts with
         | none=>none
         | some ys=>some (y::ys)
noncomputable def subR (ix:List (Option Nat)) (ρ:Rho):Rho:=ix.map fun o=>o.bind fun i=>match ρ[i]? with|some (some (.pu t))=>some (.pu t)|_=>none
noncomputable def fComp (ix:List (Option Nat)) (fi:FA)(g:FG)(c:FT)(e:FE):FA:=fun ρ=>match fi ρ with|some ts=>if ts.length≤sizeLine then compL g c e (subR ix ρ) ts else none|none=>none
noncomputable def fYes:FT:=fun _=>some true
theorem Rn.subst {z:Z}{σ:L2.St}{ρ:Rho}{Hq H:Hp}(r:Rn z σ ρ Hq H)(ix:List (Option Nat)):Rn ⟨z.K,Hq,H⟩ (subSt ix σ) (subR ix ρ) Hq H:=by
 have none_ow:∀(i:Nat)(ts:List T),(subR ix ρ)[i]?≠some (some (.ow ts)):=fun i ts e=>by
  unfold subR at e
  rw[List.getElem?_map] at e
  cases hj:ix[i]? with
  | none=>rw[hj] at e;cases e
  | some oi =>
    rw[hj] at e
    cases oi with
    | none=>cases e
    | some k =>
      have e':(match ρ[k]? with|some (some (.pu t))=>some (Sl.pu t)|_=>none)=some (.ow ts):=Option.some.inj e
      split at e'<;>cases e'
 have none_xc:∀(i:Nat) (C:Str),(subR ix ρ)[i]?≠some (some (.xc C)):=fun i C e=>by
  unfold subR at e
  rw[List.getElem?_map] at e
  cases hj:ix[i]? with
  | none=>rw[hj] at e;cases e
  | some oi =>
    rw[hj] at e
    cases oi with
    | none=>cases e
    | some k =>
      have e':(match ρ[k]? with|some (some (.pu t))=>some (Sl.pu t)|_=>none)=some (.xc C):=Option.some.inj e
      split at e'<;>cases e'
 have none_o:∀(i:Nat)(sl:Sl),sl.isO→(subR ix ρ)[i]?≠some (some sl):=fun i sl ho e=>by
  unfold subR at e
  rw[List.getElem?_map] at e
  cases hj:ix[i]? with
  | none=>rw[hj] at e;cases e
  | some oi =>
    rw[hj] at e
    cases oi with
    | none=>cases e
    | some k =>
      have e':(match ρ[k]? with|some (some (.pu t))=>some (Sl.pu t)|_=>none)=some sl:=Option.some.inj e
      split at e'
      ·cases e';exact ho
      ·cases e'
 refine⟨.refl r.sub,by unfold subR subSt;rw[List.length_map,List.length_map],fun i t e=>?_,fun i ts e=>absurd e (none_ow i ts),fun i j ts us a _ e _=>absurd e (none_ow i ts),fun i C e=>absurd e (none_xc i C),.none none_o⟩
 unfold subR at e
 unfold subSt
 rw[List.getElem?_map] at e ⊢
 cases hj:ix[i]? with
 | none=>rw[hj] at e;cases e
 | some oi =>
   rw[hj] at e
   cases oi with
   | none=>cases e
   | some k =>
     have e':(match ρ[k]? with|some (some (.pu t))=>some (Sl.pu t)|_=>none)=some (.pu t):=Option.some.inj e
     split at e'
     ·rename_i u h
      cases e'
      obtain⟨v,h1,h2⟩:=r.pu k _ h
      refine⟨v,?_,h2⟩
      show some ((σ[k]?).join)=some (some v)
      rw[h1];rfl
     ·cases e'
section
variable {X:Cx}{z:Z}{elt iter tg:Expr}{ifs:List Expr}{scope:Scope}{pos:Pos}{N':List Str}{ix:List (Option Nat)}{fi:FA}{g:FG}{tc:List Nat}{c:FT}{fe:FE}
theorem comp_read (hK:z.K=X.K)(hix:IxOk X.N X.env.scope scope N' ix)(htc:∀ j,j∈tc→∀ i,ix[j]?≠some (some i)):∀ σ H Q,tF z (fComp ix fi g c fe) σ H Q→tComp ix (iR z fi) (fun v σ H Q=>∃ z',z'.K=X.K∧tG z' tc g v σ H Q) (fun σ H Q=>∃ z',z'.K=X.K∧tB2 z' c σ H Q) (fun σ H Q=>∃ z',z'.K=X.K∧tT z' fe σ H Q) σ H Q:=by
 intro σ H Q ⟨ρ,Hq,us,r,e,k⟩
 unfold fComp at e
 split at e
 ·rename_i ts e1
  split at e
  ·rename_i hlen
   refine⟨ρ,Hq,ts,r,e1,fun J Hq1 H1 P x1 hP hPm wk=>?_⟩
   refine⟨fun i m ys H'=>m=ts.length - i∧i≤ts.length∧ys.length≤i∧∃ Hq' pre rest,Ex Hq1 H1 Hq' H'∧RepL z.K Hq' pre ys∧compL g c fe (subR ix ρ) (ts.drop i)=some rest∧us=pre++rest,
    ⟨ts.length,rfl,Nat.zero_le _,Nat.le_refl _,Hq1,[],us,.refl x1.sub,.nil,by simpa using e,rfl⟩,?_⟩
   rintro i m ys H' ⟨rfl,hi,hy,Hq',pre,rest,x2,rp,cr,rfl⟩
   have w:=wk i Hq' H' x2.q x2.sub (hPm _ _ x2.all hP)
   by_cases hlt:i<ts.length
   ·obtain⟨go,yl⟩:=w.1 ts[i] (List.getElem?_eq_getElem hlt)
    refine .inr ⟨go,by omega,fun x H3 y=>?_⟩
    obtain⟨Hq3,x3,rx⟩:=yl x H3 y
    have ed:ts.drop i=ts[i]::ts.drop (i+1):=List.drop_eq_getElem_cons hlt
    rw[ed] at cr
    unfold compL at cr
    have rn:=(((r.ext x1).ext x2).ext x3).subst ix
    have x2:=x2.trans x3
    have rp:=rp.mono x3.q
    split at cr
    ·cases cr
    ·rename_i ρ1 eg
     refine⟨⟨z.K,Hq3,H3⟩,hK,subR ix ρ,Hq3,_,ρ1,rn,rx,eg,fun σ' rn' un=>⟨fun j v ej=>?_,?_⟩⟩
     ·by_cases hj:j∈tc
      ·unfold subSt at ej
       rw[List.getElem?_map] at ej
       cases hx:ix[j]? with
       | none=>rw[hx] at ej;cases ej
       | some oi =>
         rw[hx] at ej
         cases oi with
         | none=>cases ej
         | some k=>exact absurd hx (htc j hj k)
      ·rw[un j hj];exact ej
     ·split at cr
      ·cases cr
      ·rename_i ec
       refine⟨⟨z.K,Hq3,H3⟩,hK,ρ1,Hq3,false,rn',ec,fun Hq4 H4 x4=>iteF ⟨ts.length - (i+1),by omega,rfl,hlt,by omega,Hq4,pre,rest,x2.trans x4,rp.mono x4.q,cr,rfl⟩⟩
      ·rename_i ec
       split at cr
       ·cases cr
       ·rename_i y ey
        split at cr
        ·cases cr
        ·rename_i ys' er
         cases cr
         refine⟨⟨z.K,Hq3,H3⟩,hK,ρ1,Hq3,true,rn',ec,fun Hq4 H4 x4=>iteT ⟨⟨z.K,Hq3,H3⟩,hK,ρ1,Hq4,y,rn'.ext x4,ey,fun v5 Hq5 H5 x5 r5=>?_⟩⟩
         refine⟨ts.length - (i+1),by omega,rfl,hlt,by rw[List.length_append];simp;omega,Hq5,pre++[y],ys',(x2.trans x4).trans x5,((rp.mono x4.q).mono x5.q).append (.one r5),er,by simp⟩
   ·have hi':i=ts.length:=by omega
    subst hi'
    rw[List.drop_length] at cr
    cases cr
    refine .inl ⟨w.2 (Nat.le_refl _),by omega,fun p hp=>?_⟩
    rw[List.append_nil] at k
    exact k p ys Hq' H' (x1.trans x2) hp rp
  ·cases e
 ·cases e
theorem ef_comp (hK:z.K=X.K)(hc:X.calm=true)(hkind:scope.kind=.function)(hcell:∀ y∈scope.names,y.2=.cell→scope.names.lookup y.1=some .cell)(hdis:∀ x,(x,NameKind.cell)∈scope.names→(x,NameKind.free)∉scope.names) (hnames:∀ y∈scope.names,y.2=.local→scope.names.lookup y.1=some .local)
  (hfr:∀ x∈scope.names,x.2=.free→X.env.kindOf x.1=some .cell∨X.env.kindOf x.1=some .free)(hix:IxOk X.N X.env.scope scope N' ix)(hfree:∀(j i:Nat) (x:Str),ix[j]?=some (some i)→N'[j]?=some x→scope.names.lookup x=some .free)
  (htc:∀ j,j∈tc→∀ i,ix[j]?≠some (some i))
  (hi:PI X tg iter (iR z fi)) (hg:∀ C s H fp z',z'.K=X.K→PG (compCx X scope N' C s H fp) tg (tG z' tc g)) (ht:∀ C s H fp z',z'.K=X.K→PIfs (compCx X scope N' C s H fp) ifs (tB2 z' c)) (he:∀ C s H fp z',z'.K=X.K→EV (compCx X scope N' C s H fp) z' elt fe)
  (hs:∀ x,foldedSetIterable iter X.env x=pure x:=by intro _;rfl):EF X z (.ListComp elt [⟨tg,iter,ifs,0⟩] scope pos) (fComp ix fi g c fe):=by
 have big:PE X (.ListComp elt [⟨tg,iter,ifs,0⟩] scope pos) (tComp ix (iR z fi) (fun v σ H Q=>∃ z',z'.K=X.K∧tG z' tc g v σ H Q) (fun σ H Q=>∃ z',z'.K=X.K∧tB2 z' c σ H Q) (fun σ H Q=>∃ z',z'.K=X.K∧tT z' fe σ H Q)) :=
  pe_comp hc hkind hcell hdis hnames hfr hix hfree hi
   (fun C s H fp pins s' σ H' v u Q I r ⟨z',hz,q⟩=>hg C s H fp z' hz pins s' σ H' v u Q I r q)
   (fun C s H fp pins s' σ H' Q I ⟨z',hz,q⟩=>ht C s H fp z' hz pins s' σ H' Q I q)
   (fun C s H fp pins s' σ H' Q I ⟨z',hz,q⟩=>he C s H fp z' hz pins s' σ H' Q I q) hs
 exact PE.imp big (comp_read hK hix htc)
end
end TL
namespace TL
open PySem L2
inductive Out where
 | nx (ρ:Rho)|rt (t:T)|bk (ρ:Rho)|ct (ρ:Rho)
noncomputable abbrev FS:=Rho→Option Out
noncomputable def Fin (z:Z)(H0:Hp)(D:Ends):Out→Prop
 | .nx ρ=>∀ σ Hq H,Rn z σ ρ Hq H→Same H0 Hq→D.nx σ H
 | .rt t=>∀ v Hq H,Ex z.Hq z.H Hq H→Rep z.K Hq t v→D.rt v H
 | .bk ρ=>∀ σ Hq H,Rn z σ ρ Hq H→Same H0 Hq→D.bk σ H
 | .ct ρ=>∀ σ Hq H,Rn z σ ρ Hq H→Same H0 Hq→D.ct σ H
theorem Fin.from {z:Z}{H0 H1:Hp}{D:Ends}{o:Out}(k:Fin z H0 D o)(h:Same H0 H1):Fin z H1 D o:=by
 cases o with
 | nx ρ=>exact fun σ Hq H r s=>k σ Hq H r (h.trans s)
 | rt t=>exact k
 | bk ρ=>exact fun σ Hq H r s=>k σ Hq H r (h.trans s)
 | ct ρ=>exact fun σ Hq H r s=>k σ Hq H r (h.trans s)
noncomputable def tS (z:Z)(F:FS):TS:=fun D σ H=>∃ ρ Hq o,Rn z σ ρ Hq H∧F ρ=some o∧Fin z Hq D o
noncomputable abbrev SV (X:Cx)(z:Z)(s:Stmt)(F:FS):Prop:=PS X s (tS z F)
noncomputable abbrev SVs (X:Cx)(z:Z)(s:List Stmt)(F:FS):Prop:=PSs X s (tS z F)
section
variable {X:Cx}{z:Z}{st:Stmt}{rest:List Stmt}{F G:FS}{e:Expr}{f g:FE}{fa:FA}{pos:Pos}
noncomputable def sNil:FS:=fun ρ=>some (.nx ρ)
theorem ss_nil:SVs X z [] sNil:=PSs.imp pss_nil fun D σ H ⟨ρ,Hq,o,r,e,k⟩=>by
 cases e;exact k σ Hq H r (.refl _)
noncomputable def sSeq (F G:FS):FS:=fun ρ=>match F ρ with|some (.nx ρ')=>G ρ'|o=>o
theorem ss_cons (h1:SV X z st F)(h2:SVs X z rest G):SVs X z (st::rest) (sSeq F G):=PSs.imp (pss_cons h1 h2) fun D σ H ⟨ρ,Hq,o,r,e,k⟩=>by
 unfold sSeq at e
 split at e
 ·rename_i ρ' e1
  exact⟨ρ,Hq,_,r,e1,fun σ' Hq' H' r' sm=>⟨ρ',Hq',o,r',e,k.from sm⟩⟩
 ·rename_i o' hne
  refine⟨ρ,Hq,o,r,e,?_⟩
  cases o with
  | nx ρ'=>exact absurd e (hne ρ')
  | rt t=>exact k
  | bk ρ'=>exact k
  | ct ρ'=>exact k
theorem ss_one (h1:SV X z st F):SVs X z [st] F:=pss_one h1
noncomputable def sRet (f:FE):FS:=fun ρ=>(f ρ).map .rt
theorem s_ret (h:EV X z e f):SV X z (.Return (some e) pos) (sRet f):=PS.imp (ps_ret h) fun D σ H ⟨ρ,Hq,o,r,e,k⟩=>by
 unfold sRet at e
 cases q:f ρ with
 | none=>rw[q] at e;cases e
 | some t =>
   rw[q] at e
   cases e
   exact⟨ρ,Hq,t,r,q,fun v Hq' H' x p=>k v Hq' H' (r.ex.trans x) p⟩
noncomputable def sRetO (i:Nat):FS:=fun ρ=>match ρ[i]? with|some (some (.ow ts))=>some (.rt (.lst ts))|_=>none
theorem s_retO (i:Nat){x:Str}{p:Pos}(hN:X.N[i]?=some x:=by rfl)(hv:Vis X.env.scope x:=by first|exact Or.inl rfl|exact Or.inr (Or.inl rfl)|exact Or.inr (Or.inr rfl)) (hd:(x==("__debug__":Str))=false:=by decide)
  (hcd:(x==("__classdict__":Str))=false:=by decide):SV X z (.Return (some (.Name x p)) pos) (sRetO i):=PS.imp (ps_ret (pe_var hN hv hd hcd)) fun D σ H ⟨ρ,Hq,o,r,e,k⟩=>by
 unfold sRetO at e
 split at e
 ·rename_i ts h
  cases e
  obtain⟨a,vs,h1,h2,h3,h4,h5⟩:=r.ow i ts h
  refine⟨_,h1,k _ (upd Hq a (.lst vs)) H ?_ (rep_lstNew h2 h5)⟩
  refine⟨r.ex.all,fun b u e=>?_,fun b u e=>?_,fun b e n=>?_⟩
  ·have:b≠a:=fun q=>by subst q;rw[r.ex.q b u e] at h2;cases h2
   rw[upd_ne this];exact r.ex.q b u e
  ·by_cases hb:b=a
   ·subst hb;rw[upd_same] at e;cases e;exact h4
   ·rw[upd_ne hb] at e;exact r.sub b u e
  ·have:b≠a:=fun q=>by subst q;exact e h3
   rw[upd_ne this];exact r.ex.out b e n
 ·cases e
noncomputable def sSet (i:Nat)(f:FE):FS:=fun ρ=>(f ρ).map fun t=>.nx (ρ.set i (some (.pu t)))
theorem s_set (i:Nat){x:Str}{pos':Pos}(hN:X.N.Nodup)(h:EV X z e f)(hi:X.N[i]?=some x:=by rfl)(hx:Loc X.env.scope x:=by first|exact Or.inl rfl|exact Or.inr rfl)
  (hs:swapsWith e (some (.Name x pos')) pos.line X.env=pure false:=by rfl) (hf:X.fn x=true∨X.env.scope.names.lookup x=some .local:=by first|exact .inl rfl|exact .inr rfl):SV X z (.Assign [.Name x pos'] e pos) (sSet i f) :=
 PS.imp (ps_set hN hi hx h hs hf) fun D σ H ⟨ρ,Hq,o,r,e,k⟩=>by
  unfold sSet at e
  cases q:f ρ with
  | none=>rw[q] at e;cases e
  | some t =>
    rw[q] at e
    cases e
    exact⟨ρ,Hq,t,r,q,fun v Hq' H' x p=>k _ Hq' H' ((r.ext x).setP i p) x.q⟩
theorem Rn.setO {z:Z}{σ:L2.St}{ρ:Rho}{Hq H:Hp}(r:Rn z σ ρ Hq H) (i:Nat){ts:List T}{vs:List V}{p:Addr}(hp:H p=none)(h:RepL z.K Hq ts vs):Rn z (σ.set i (some (.ref p))) (ρ.set i (some (.ow ts))) Hq (upd H p (.lst vs)):=by
 have hl:=r.len
 have hq:Hq p=none:=r.sub.free hp
 have hz:z.H p=none:=r.ex.all.free hp
 refine⟨⟨fun b u e=>?_,r.ex.q,fun b u e=>?_,r.ex.out⟩,by rw[List.length_set,List.length_set];exact hl,fun j u e=>?_,fun j u e=>?_,fun j k us ws a hjk e1 e2 e3=>?_,fun j C e=>?_,r.o.go (setO_hs (fun _ q=>by cases q;exact id)) (fun _ _ _ _ h n=>⟨by rw[upd_ne (ne_of_none h hp)];exact h,n⟩) (.refl _)⟩
 ·rw[upd_ne (ne_of_none e hz)];exact r.ex.all b u e
 ·rw[upd_ne (ne_of_none e hq)];exact r.sub b u e
 ·by_cases hj:i=j
  ·subst hj
   by_cases hi:i<ρ.length
   ·rw[List.getElem?_set_self hi] at e;cases e
   ·rw[List.getElem?_eq_none (by rw[List.length_set];omega)] at e;cases e
  ·rw[List.getElem?_set_ne hj] at e ⊢
   exact r.pu j u e
 ·by_cases hj:i=j
  ·subst hj
   by_cases hi:i<ρ.length
   ·rw[List.getElem?_set_self hi] at e
    cases e
    exact⟨p,vs,List.getElem?_set_self (by omega),hq,hz,upd_same,h⟩
   ·rw[List.getElem?_eq_none (by rw[List.length_set];omega)] at e;cases e
  ·rw[List.getElem?_set_ne hj] at e ⊢
   obtain⟨a,ws,h1,h2,h3,h4,h5⟩:=r.ow j u e
   exact⟨a,ws,h1,h2,h3,by rw[upd_ne (ne_of_none h4 hp)];exact h4,h5⟩
 ·by_cases h1:i=j
  ·subst h1
   have h2:i≠k:=hjk
   by_cases hi:i<ρ.length
   ·rw[List.getElem?_set_self (by omega)] at e3
    cases e3
    rw[List.getElem?_set_ne h2] at e2 ⊢
    obtain⟨b,ws',g1,g2,g3,g4,g5⟩:=r.ow k ws e2
    rw[g1]
    intro q
    cases q
    rw[hp] at g4;cases g4
   ·rw[List.getElem?_eq_none (by rw[List.length_set];omega)] at e1;cases e1
  ·rw[List.getElem?_set_ne h1] at e1 e3
   by_cases h2:i=k
   ·subst h2
    by_cases hi:i<ρ.length
    ·rw[List.getElem?_set_self (by omega)]
     obtain⟨b,ws',g1,g2,g3,g4,g5⟩:=r.ow j us e1
     rw[g1] at e3
     intro q
     cases q
     cases e3
     rw[hp] at g4;cases g4
    ·rw[List.getElem?_eq_none (by rw[List.length_set];omega)] at e2;cases e2
   ·rw[List.getElem?_set_ne h2] at e2 ⊢
    exact r.ne j k us ws a hjk e1 e2 e3
 ·by_cases hj:i=j
  ·subst hj
   by_cases hi:i<ρ.length
   ·rw[List.getElem?_set_self hi] at e;cases e
   ·rw[List.getElem?_eq_none (by rw[List.length_set];omega)] at e;cases e
  ·rw[List.getElem?_set_ne hj] at e ⊢
   obtain⟨a,oe,u,h1,h2,h3,h4⟩:=r.xc j C e
   exact⟨a,oe,u,h1,h2,by rw[upd_ne (ne_of_none h3 hp)];exact h3,h4⟩
noncomputable def sOwn (i:Nat)(f:FA):FS:=fun ρ=>(f ρ).map fun ts=>.nx (ρ.set i (some (.ow ts)))
theorem s_own (i:Nat){x:Str}{pos':Pos}(hN:X.N.Nodup)(h:EF X z e fa)(hi:X.N[i]?=some x:=by rfl)(hx:Loc X.env.scope x:=by first|exact Or.inl rfl|exact Or.inr rfl)
  (hs:swapsWith e (some (.Name x pos')) pos.line X.env=pure false:=by rfl) (hf:X.fn x=true∨X.env.scope.names.lookup x=some .local:=by first|exact .inl rfl|exact .inr rfl):SV X z (.Assign [.Name x pos'] e pos) (sOwn i fa) :=
 PS.imp (ps_set hN hi hx h hs hf) fun D σ H ⟨ρ,Hq,o,r,e,k⟩=>by
  unfold sOwn at e
  cases q:fa ρ with
  | none=>rw[q] at e;cases e
  | some ts =>
    rw[q] at e
    cases e
    exact⟨ρ,Hq,ts,r,q,fun p vs Hq' H' x hp rl=>k _ Hq' _ ((r.ext x).setO i hp rl) x.q⟩
theorem Rn.app {z:Z}{σ:L2.St}{ρ:Rho}{Hq H:Hp}(r:Rn z σ ρ Hq H) (i:Nat){ts us:List T}{vs ws:List V}{a:Addr}(e0:ρ[i]?=some (some (.ow ts))) (hσ:σ[i]?=some (some (.ref a))) (hq:Hq a=none)(hz:z.H a=none)(hH:H a=some (.lst vs)) (h:RepL z.K Hq us ws) :
  Rn z σ (ρ.set i (some (.ow us))) Hq (upd H a (.lst ws)):=by
 have hi:i<ρ.length:=(List.getElem?_eq_some_iff.mp e0).1
 refine⟨⟨fun b u e=>?_,r.ex.q,fun b u e=>?_,r.ex.out⟩,by rw[List.length_set];exact r.len,fun j u e=>?_,fun j u e=>?_,fun j k us' ws' b hjk e1 e2 e3=>?_,fun j C e=>?_,r.o.go (setO_hs' (fun _ q=>by cases q;exact id)) (fun _ _ _ _ h n=>⟨by rw[upd_ne (ne_of h hH (fun q=>nomatch q))];exact h,n⟩) (.refl _)⟩
 ·rw[upd_ne (ne_of_none e hz)];exact r.ex.all b u e
 ·rw[upd_ne (ne_of_none e hq)];exact r.sub b u e
 ·by_cases hj:i=j
  ·subst hj;rw[List.getElem?_set_self hi] at e;cases e
  ·rw[List.getElem?_set_ne hj] at e;exact r.pu j u e
 ·by_cases hj:i=j
  ·subst hj
   rw[List.getElem?_set_self hi] at e
   cases e
   exact⟨a,ws,hσ,hq,hz,upd_same,h⟩
  ·rw[List.getElem?_set_ne hj] at e
   obtain⟨b,ws',h1,h2,h3,h4,h5⟩:=r.ow j u e
   have:b≠a:=fun q=>by subst q;exact r.ne i j ts u b hj e0 e hσ h1
   exact⟨b,ws',h1,h2,h3,by rw[upd_ne this];exact h4,h5⟩
 ·have g1:∃ us0,ρ[j]?=some (some (.ow us0)):=by
   by_cases hj:i=j
   ·subst hj;exact⟨ts,e0⟩
   ·rw[List.getElem?_set_ne hj] at e1;exact⟨us',e1⟩
  have g2:∃ us0,ρ[k]?=some (some (.ow us0)):=by
   by_cases hj:i=k
   ·subst hj;exact⟨ts,e0⟩
   ·rw[List.getElem?_set_ne hj] at e2;exact⟨ws',e2⟩
  obtain⟨u1,g1⟩:=g1
  obtain⟨u2,g2⟩:=g2
  exact r.ne j k u1 u2 b hjk g1 g2 e3
 ·by_cases hj:i=j
  ·subst hj;rw[List.getElem?_set_self hi] at e;cases e
  ·rw[List.getElem?_set_ne hj] at e
   obtain⟨b,oe,u,h1,h2,h3,h4⟩:=r.xc j C e
   exact⟨b,oe,u,h1,h2,by rw[upd_ne (ne_of h3 hH (fun q=>nomatch q))];exact h3,h4⟩
noncomputable def sApp (i:Nat)(f:FE):FS:=fun ρ=>match ρ[i]? with
 | some (some (.ow ts))=>(match f ρ with|some t=>if ts.length<sizeLine then some (.nx (ρ.set i (some (.ow (ts++[t]))))) else none|none=>none)
 | _=>none
theorem s_app (i:Nat){x:Str}{p1 p2 p3:Pos}(hb:PE X (.Call (.Attribute (.Name x p1) "append" p2) [e] [] p3) (tBM X.K "list" rAppend (tVar i) (tCons (tT z f) tNil))):SV X z (.Expr (.Call (.Attribute (.Name x p1) "append" p2) [e] [] p3) pos) (sApp i f) :=
 PS.imp (ps_expr hb) fun D σ H ⟨ρ,Hq,o,r,e,k⟩=>by
  unfold sApp at e
  split at e
  ·rename_i ts e0
   split at e
   ·rename_i t e1
    split at e
    ·rename_i hl
     cases e
     obtain⟨a,vs,h1,h2,h3,h4,h5⟩:=r.ow i ts e0
     refine⟨_,h1,.inl ⟨rfl,_,SqL.of h4⟩,ρ,Hq,t,r,e1,fun v Hq1 H1 x1 r1=>?_⟩
     have r':=r.ext x1
     obtain⟨a',vs',g1,g2,g3,g4,g5⟩:=r'.ow i ts e0
     rw[h1] at g1
     cases g1
     have:vs'=vs:=by
      have:=x1.all _ _ h4
      rw[g4] at this
      cases this;rfl
     subst this
     refine⟨a,vs',v,rfl,rfl,g4,by rw[← g5.length];exact hl,k σ Hq1 _ (r'.app i e0 h1 g2 g3 g4 (g5.append (.one r1))) x1.q⟩
    ·cases e
   ·cases e
  ·cases e
noncomputable def sIf (c:FT)(F G:FS):FS:=fun ρ=>match c ρ with|some true=>F ρ|some false=>G ρ|none=>none
theorem s_if {c:Expr}{a b:List Stmt}{ft:FT}(hc:ET X z c ft)(ha:SVs X z a F)(hb:SVs X z b G):SV X z (.If c a b pos) (sIf ft F G):=PS.imp (ps_if hc ha hb) fun D σ H ⟨ρ,Hq,o,r,e,k⟩=>by
 unfold sIf at e
 split at e
 ·rename_i q
  exact⟨ρ,Hq,true,r,q,fun Hq1 H1 x1=>iteT ⟨ρ,Hq1,o,r.ext x1,e,k.from x1.q⟩⟩
 ·rename_i q
  exact⟨ρ,Hq,false,r,q,fun Hq1 H1 x1=>iteF ⟨ρ,Hq1,o,r.ext x1,e,k.from x1.q⟩⟩
 ·cases e
noncomputable def loopF (g:FG)(b:FS):List T→Rho→Option Out
 | [],ρ=>some (.nx ρ)
 | t::ts,ρ=>match g t ρ with
   | none=>none
   | some ρ1=>match b ρ1 with
     | some (.nx ρ2)=>loopF g b ts ρ2
     | some (.ct ρ2)=>loopF g b ts ρ2
     | some (.bk ρ2)=>some (.nx ρ2)
     | some (.rt t)=>some (.rt t)
     | none=>none
noncomputable def sFor (fi:FA)(g:FG)(b:FS):FS:=fun ρ=>match fi ρ with|some ts=>loopF g b ts ρ|none=>none
theorem s_for {iter tg:Expr}{body:List Stmt}{g:FG}{tc:List Nat}(hp:PassesOwn (model X.prog X.w) X.A X.env X.xe) (hc:X.calm=true)(hi:PI X tg iter (iP z fa)) (hg:PG X tg (tG z tc g)) (hb:SVs X z body F)
  (hs:∀ x,foldedSetIterable iter X.env x=pure x:=by intro _;rfl):SV X z (.For tg iter body [] pos) (sFor fa g F):=PS.imp (ps_for hp hc hi hg hb hs) fun D σ H ⟨ρ,Hq,o,r,e,k⟩=>by
 unfold sFor at e
 split at e
 ·rename_i ts e1
  refine⟨ρ,Hq,ts,r,e1,fun J Hq1 H1 x1 wk=>?_⟩
  refine⟨fun i m σ' H'=>m=ts.length - i∧i≤ts.length∧∃ ρ' Hq',Rn z σ' ρ' Hq' H'∧Same Hq1 Hq'∧loopF g F (ts.drop i) ρ'=some o,⟨ts.length,rfl,Nat.zero_le _,ρ,Hq1,r.ext x1,.refl _,by simpa using e⟩,?_⟩
  rintro i m σ' H' ⟨rfl,hi,ρ',Hq',r',sq,lp⟩
  have w:=wk i Hq' H' sq r'.sub trivial
  by_cases hlt:i<ts.length
  ·obtain⟨go,yl⟩:=w.1 ts[i] (List.getElem?_eq_getElem hlt)
   have ed:ts.drop i=ts[i]::ts.drop (i+1):=List.drop_eq_getElem_cons hlt
   rw[ed] at lp
   unfold loopF at lp
   refine .inr ⟨go,fun σ2 H2=>∃ ρ2 Hq2,Rn z σ2 ρ2 Hq2 H2∧Same Hq1 Hq2∧loopF g F (ts.drop (i+1)) ρ2=some o,fun σ2 H2 ⟨ρ2,Hq2,h1,h2,h3⟩=>⟨ts.length - (i+1),by omega,rfl,hlt,ρ2,Hq2,h1,h2,h3⟩,fun x H3 y=>?_⟩
   obtain⟨Hq3,x3,rx⟩:=yl x H3 y
   have r':=r'.ext x3
   have sq:=sq.trans x3.q
   split at lp
   ·cases lp
   ·rename_i ρ1 eg
    refine⟨ρ',Hq3,_,ρ1,r',rx,eg,fun σ1 r1 _=>?_⟩
    split at lp
    ·rename_i ρ2 eb
     exact⟨ρ1,Hq3,_,r1,eb,fun σ2 Hq2 H2 r2 s2=>⟨ρ2,Hq2,r2,sq.trans s2,lp⟩⟩
    ·rename_i ρ2 eb
     exact⟨ρ1,Hq3,_,r1,eb,fun σ2 Hq2 H2 r2 s2=>⟨ρ2,Hq2,r2,sq.trans s2,lp⟩⟩
    ·rename_i ρ2 eb
     cases lp
     exact⟨ρ1,Hq3,_,r1,eb,fun σ2 Hq2 H2 r2 s2=>k σ2 Hq2 H2 r2 ((x1.q.trans sq).trans s2)⟩
    ·rename_i t eb
     cases lp
     exact⟨ρ1,Hq3,_,r1,eb,k⟩
    ·cases lp
  ·have hi':i=ts.length:=by omega
   subst hi'
   rw[List.drop_length] at lp
   cases lp
   exact .inl ⟨w.2 (Nat.le_refl _),k σ' Hq' H' r' (x1.q.trans sq)⟩
 ·cases e
noncomputable def sDrop (f:FE):FS:=fun ρ=>(f ρ).map fun _=>.nx ρ
noncomputable def loopW (c:FT)(b:FS):Nat→Rho→Option Out
 | 0,_=>none
 | n+1,ρ=>match c ρ with
   | some true=>(match b ρ with
     | some (.nx ρ2)=>loopW c b n ρ2
     | some (.ct ρ2)=>loopW c b n ρ2
     | some (.bk ρ2)=>some (.nx ρ2)
     | some (.rt t)=>some (.rt t)
     | none=>none)
   | some false=>some (.nx ρ)
   | none=>none
noncomputable def sWhile (n:Nat)(c:FT)(b:FS):FS:=loopW c b n
theorem s_while (n:Nat){c:Expr}{body:List Stmt}{ft:FT}(hp:PassesOwn (model X.prog X.w) X.A X.env X.xe) (hc:ET X z c ft)(hb:SVs X z body F):SV X z (.While c body [] pos) (sWhile n ft F) :=
 PS.imp (ps_while hp hc hb) fun D σ H ⟨ρ,Hq,o,r,e,k⟩=>by
  refine⟨fun m σ' H'=>∃ ρ' Hq',Rn z σ' ρ' Hq' H'∧Same Hq Hq'∧loopW ft F m ρ'=some o,⟨n,ρ,Hq,r,.refl _,e⟩,?_⟩
  rintro m σ' H' ⟨ρ',Hq',r',sq,lp⟩
  cases m with
  | zero=>cases lp
  | succ m =>
    unfold loopW at lp
    split at lp
    ·rename_i ec
     refine⟨ρ',Hq',true,r',ec,fun Hq1 H1 x1=>?_⟩
     refine⟨fun σ2 H2=>∃ ρ2 Hq2,Rn z σ2 ρ2 Hq2 H2∧Same Hq Hq2∧loopW ft F m ρ2=some o,fun σ2 H2 q=>⟨m,Nat.lt_succ_self _,q⟩,?_⟩
     have sq1:=sq.trans x1.q
     split at lp
     ·rename_i ρ2 eb
      exact⟨ρ',Hq1,_,r'.ext x1,eb,fun σ2 Hq2 H2 r2 s2=>⟨ρ2,Hq2,r2,sq1.trans s2,lp⟩⟩
     ·rename_i ρ2 eb
      exact⟨ρ',Hq1,_,r'.ext x1,eb,fun σ2 Hq2 H2 r2 s2=>⟨ρ2,Hq2,r2,sq1.trans s2,lp⟩⟩
     ·rename_i ρ2 eb
      cases lp
      exact⟨ρ',Hq1,_,r'.ext x1,eb,fun σ2 Hq2 H2 r2 s2=>k σ2 Hq2 H2 r2 (sq1.trans s2)⟩
     ·rename_i t eb
      cases lp
      exact⟨ρ',Hq1,_,r'.ext x1,eb,k⟩
     ·cases lp
    ·rename_i ec
     cases lp
     exact⟨ρ',Hq',false,r',ec,fun Hq1 H1 x1=>k σ' Hq1 H1 (r'.ext x1) (sq.trans x1.q)⟩
    ·cases lp
end
noncomputable def run (n:Nat)(F:FS)(ts:List T):Option T:=match F (ts.map (fun t=>some (.pu t))++List.replicate (n - ts.length) none) with
 | some (.rt t)=>some t
 | some (.nx _)=>some .non
 | _=>none
theorem start_rn {K:PySem.W.Frag}{Hq H:Hp}(sb:Same Hq H){N:List Str}{ts:List T}{vs:List V}(h:RepL K Hq ts vs):Rn ⟨K,Hq,H⟩ (start N vs) (ts.map (fun t=>some (.pu t))++List.replicate (N.length - ts.length) none) Hq H:=by
 have hl:=h.length
 have no:∀(i:Nat)(us:List T),(ts.map (fun t=>some (Sl.pu t))++List.replicate (N.length - ts.length) none)[i]?≠some (some (.ow us)):=fun i us e=>by
  by_cases hi:i<ts.length
  ·rw[List.getElem?_append_left (by rw[List.length_map];exact hi),List.getElem?_map,List.getElem?_eq_getElem hi] at e
   cases e
  ·rw[List.getElem?_append_right (by rw[List.length_map];omega),List.getElem?_replicate] at e
   split at e<;>cases e
 have nox:∀(i:Nat) (C:Str),(ts.map (fun t=>some (Sl.pu t))++List.replicate (N.length - ts.length) none)[i]?≠some (some (.xc C)):=fun i C e=>by
  by_cases hi:i<ts.length
  ·rw[List.getElem?_append_left (by rw[List.length_map];exact hi),List.getElem?_map,List.getElem?_eq_getElem hi] at e
   cases e
  ·rw[List.getElem?_append_right (by rw[List.length_map];omega),List.getElem?_replicate] at e
   split at e<;>cases e
 have noo:∀(i:Nat)(sl:Sl),sl.isO→(ts.map (fun t=>some (Sl.pu t))++List.replicate (N.length - ts.length) none)[i]?≠some (some sl):=fun i sl ho e=>by
  by_cases hi:i<ts.length
  ·rw[List.getElem?_append_left (by rw[List.length_map];exact hi),List.getElem?_map,List.getElem?_eq_getElem hi] at e
   cases e;exact ho
  ·rw[List.getElem?_append_right (by rw[List.length_map];omega),List.getElem?_replicate] at e
   split at e<;>cases e
 refine⟨.refl sb,by unfold L2.start;simp [hl],fun i t e=>?_,fun i us e=>absurd e (no i us),fun i j us ws a _ e _=>absurd e (no i us),fun i C e=>absurd e (nox i C),.none noo⟩
 by_cases hi:i<ts.length
 ·rw[List.getElem?_append_left (by rw[List.length_map];exact hi),List.getElem?_map,List.getElem?_eq_getElem hi] at e
  cases e
  obtain⟨v,e1,r1⟩:=h.get (List.getElem?_eq_getElem hi)
  refine⟨v,?_,r1⟩
  unfold L2.start
  rw[List.getElem?_append_left (by rw[List.length_map];omega),List.getElem?_map,e1];rfl
 ·rw[List.getElem?_append_right (by rw[List.length_map];omega),List.getElem?_replicate] at e
  split at e<;>cases e
section
variable {P:Program}{w:World}{K:PySem.W.Frag}{mg:Str→Option Value}{base:Heap}
theorem fn_ok {x qual:Str}{st:Stmt}{f:Addr}{fd:FuncData}{N ps:List Str}{k:Nat}{F:FS}(G:Fun K x qual st f fd)(S:FnScope N ps (defScope st))
  (hbody:∀(cdv:Value)(A:Around)(outer:List Env)(s:Shared)(H:Hp)(E:XK)(z:Z),Room k (A.deeper (PyProof.Rows.envOfC qual (defScope st) s.heap.objs.size f cdv))→z.K=K →
   SVs (cxOf CX0 P w K mg base N qual (defScope st) f cdv A outer s H E).nox z (defBody st) F):FnOk P w K mg base CX0 (k+1) f fd ps (spT K ps.length (run N.length F)):=by
 refine G.ok S (fun vs H Q E h=>?_) fun cdv A outer s H vs Q E hr h=>?_
 ·obtain⟨Hq,ts,t,hl,_,r,_⟩:=h
  rw[← r.length,hl]
 ·obtain⟨Hq,ts,t,hl,sb,r,e,k⟩:=h
  refine⟨_,hbody cdv A outer s H E ⟨K,Hq,H⟩ hr rfl,?_⟩
  unfold run at e
  split at e
  ·rename_i t' e1
   cases e
   exact⟨_,Hq,_,start_rn sb r,e1,fun v Hq' H' x p=>k v Hq' H' x p⟩
  ·rename_i ρ' e1
   cases e
   exact⟨_,Hq,_,start_rn sb r,e1,fun σ' Hq' H' r' _=>k .non Hq' H' r'.ex rep_non⟩
  ·cases e
end
end TL
namespace TL
open PySem L2
noncomputable def Src (K:PySem.W.Frag)(mg:Str→Option Value) (x:Str)(st:Stmt)(ps:List Str):Prop:=∃ a fd,Fun K x x st a fd∧Binds K fd ps []∧mg x=some (.ref a)
noncomputable def Has (P:Program)(w:World)(K:PySem.W.Frag)(mg:Str→Option Value)(base:Heap) (x:Str) (k n:Nat)(F:List T→Option T):Prop :=
 ∃ a fd ps,ps.length=n∧FnOk P w K mg base CX0 k a fd ps (spT K n F)∧mg x=some (.ref a)∧PySem.W.keepIn K (.ref a)=true∧Binds K fd ps []
theorem ev_has {X:Cx}{z:Z}{k n:Nat}{x:Str}{p pos:Pos}{e:Expr}{es:List Expr}{fa:FA}{F:List T→Option T}(hK:z.K=X.K)(h:Has X.prog X.w X.K X.mg X.base x k n F)(hr:Room k X.A)(ha:EA X z (e::es) fa) (hg:Gl X x:=by rfl)
  (hd:(x==("__debug__":Str))=false:=by decide) (hs:starEach (e::es) X.env=(false,eval e X.env)::starEach es X.env:=by rfl) (hpl:(backTo pos (starEach es X.env)).any (·.1)=false:=by rfl) :
  EV X z (.Call (.Name x p) (e::es) [] pos) (fCall n F fa):=by
 obtain⟨a,fd,ps,hl,G,hm,hk,hb⟩:=h
 exact ev_call hK G hr hg hm hk hb hl ha hd hs hpl
section
variable {P:Program}{w:World}{K:PySem.W.Frag}{mg:Str→Option Value}{base:Heap}
theorem has_of {x:Str}{st:Stmt}{N ps:List Str}{k:Nat}{F:FS}(G:Src K mg x st ps)(S:FnScope N ps (defScope st))
  (hbody:∀(f:Addr)(cdv:Value)(A:Around)(outer:List Env)(s:Shared)(H:Hp)(E:XK)(z:Z),Room k (A.deeper (PyProof.Rows.envOfC x (defScope st) s.heap.objs.size f cdv))→z.K=K →
   SVs (cxOf CX0 P w K mg base N x (defScope st) f cdv A outer s H E).nox z (defBody st) F):Has P w K mg base x (k+1) ps.length (run N.length F):=by
 obtain⟨a,fd,f,b,m⟩:=G
 exact⟨a,fd,ps,rfl,fn_ok f S (hbody a),m,f.kp,b⟩
theorem has_of' {x:Str}{st:Stmt}{N ps:List Str}{k n m:Nat}{F:FS}(hn:ps.length=n)(hm:N.length=m)(G:Src K mg x st ps)(S:FnScope N ps (defScope st))
  (hbody:∀(f:Addr)(cdv:Value)(A:Around)(outer:List Env)(s:Shared)(H:Hp)(E:XK)(z:Z),Room k (A.deeper (PyProof.Rows.envOfC x (defScope st) s.heap.objs.size f cdv))→z.K=K →
   SVs (cxOf CX0 P w K mg base N x (defScope st) f cdv A outer s H E).nox z (defBody st) F):Has P w K mg base x (k+1) n (run m F):=by
 subst hn hm
 exact has_of G S hbody
theorem fn_ok' {x qual:Str}{st:Stmt}{f:Addr}{fd:FuncData}{N ps:List Str}{k n m:Nat}{F:FS}(hn:ps.length=n)(hm:N.length=m)(G:Fun K x qual st f fd)(S:FnScope N ps (defScope st))
  (hbody:∀(cdv:Value)(A:Around)(outer:List Env)(s:Shared)(H:Hp)(E:XK)(z:Z),Room k (A.deeper (PyProof.Rows.envOfC qual (defScope st) s.heap.objs.size f cdv))→z.K=K →
   SVs (cxOf CX0 P w K mg base N qual (defScope st) f cdv A outer s H E).nox z (defBody st) F):FnOk P w K mg base CX0 (k+1) f fd ps (spT K n (run m F)):=by
 subst hn hm
 exact fn_ok G S hbody
theorem src_mk {h:Heap}{x:Str}{st:Stmt}{ps:List Str}{f:Addr}{oc:Value}{od an:Option Addr}{osl:Array (Option Value)}{kV doc pm cdv ct:Value}(X:K.In h)(G:h.Ns mainGlobals mg)(a:PySem.W.nsIn K mainGlobals x=some (some (.ref f)))
  (l:K.lookup f=some ⟨oc,od,.func (PySem.W.fnOf x x (defArgs st) (defBody st) (defScope st) .none kV doc pm an cdv ct),osl⟩)
  (c:PySem.W.codeIn K cdv x=true)(k:PySem.W.keepIn K (.ref f)=true)
  (hb:∀(kV doc pm:Value)(an:Option Addr)(cdv ct:Value)(us:List Value),us.length=ps.length→bindArgs (PySem.W.fnOf x x (defArgs st) (defBody st) (defScope st) .none kV doc pm an cdv ct) ⟨us,[]⟩=pure (ps.zip us)):Src K mg x st ps :=
 ⟨f,_,fun_mk (st:=st) l c k,(fun_mk (st:=st) l c k).binds hb,PySem.W.mg_of X G a⟩
end
noncomputable def compOk (N:List Str)(sc scope:Scope)(N':List Str)(ix:List (Option Nat)) (tc:List Nat):Bool :=
 scope.kind==.function&&scope.names.all (fun y=>y.2 != .cell||(scope.names.lookup y.1==some .cell&&scope.names.all (fun z=>z.2 != .free||z.1 != y.1)))&&scope.names.all (fun y=>y.2 != .local||scope.names.lookup y.1==some .local) &&
 scope.names.all (fun x=>x.2 != .free||(sc.names.lookup x.1==some .cell||sc.names.lookup x.1==some .free))&&ix.length==N'.length &&
 (List.range ix.length).all (fun j=>match ix[j]?,N'[j]? with
  | some (some i),some x=>N[i]?==some x&&(sc.names.lookup x==some .cell||sc.names.lookup x==some .free)&&scope.names.lookup x==some .free
  | _,_=>true) &&
 tc.all (fun j=>match ix[j]? with|some (some _)=>false|_=>true)
theorem ef_comp' {X:Cx}{z:Z}{elt iter tg:Expr}{ifs:List Expr}{scope:Scope}{pos:Pos}{fi:FA}{g:FG}{c:FT}{fe:FE}(N:List Str)(sc:Scope)(N':List Str)(ix:List (Option Nat)) (tc:List Nat)(ok:compOk N sc scope N' ix tc=true)
  (hK:z.K=X.K)(hi:PI X tg iter (iR z fi)) (hg:∀ C s H fp z',z'.K=X.K→PG (compCx X scope N' C s H fp) tg (tG z' tc g)) (ht:∀ C s H fp z',z'.K=X.K→PIfs (compCx X scope N' C s H fp) ifs (tB2 z' c)) (he:∀ C s H fp z',z'.K=X.K→EV (compCx X scope N' C s H fp) z' elt fe)
  (hN:X.N=N:=by rfl)(hsc:X.env.scope=sc:=by rfl)(hc:X.calm=true:=by rfl)(hs:∀ x,foldedSetIterable iter X.env x=pure x:=by intro _;rfl):EF X z (.ListComp elt [⟨tg,iter,ifs,0⟩] scope pos) (fComp ix fi g c fe):=by
 simp only[compOk,Bool.and_eq_true,List.all_eq_true,Bool.or_eq_true,bne_iff_ne,beq_iff_eq] at ok
 obtain⟨⟨⟨⟨⟨⟨o1,o2⟩,o3⟩,o4⟩,o5⟩,o6⟩,o7⟩:=ok
 subst hN
 have at6:∀(j i:Nat) (x:Str),ix[j]?=some (some i)→N'[j]?=some x→X.N[i]?=some x∧(sc.names.lookup x=some .cell∨sc.names.lookup x=some .free)∧scope.names.lookup x=some .free:=fun j i x e1 e2=>by
  have hj:j<ix.length:=(List.getElem?_eq_some_iff.mp e1).1
  have:=o6 j (List.mem_range.mpr hj)
  rw[e1,e2] at this
  simp only[Bool.and_eq_true,beq_iff_eq,Bool.or_eq_true] at this
  exact⟨this.1.1,this.1.2,this.2⟩
 refine ef_comp hK hc o1 (fun y hy e=>((o2 y hy).resolve_left fun z=>z e).1) (fun x h1 h2=>by
   have:=((o2 _ h1).resolve_left fun z=>z rfl).2 _ h2
   rcases this with z|z
   ·exact z rfl
   ·exact z rfl) (fun y hy e=>(o3 y hy).resolve_left fun z=>z e) (fun x hx e=>?_) ⟨o5,fun j i x e1 e2=>⟨(at6 j i x e1 e2).1,?_⟩⟩ (fun j i x e1 e2=>(at6 j i x e1 e2).2.2) (fun j hj i e=>?_) hi hg ht he hs
 ·have:=(o4 x hx).resolve_left fun z=>z e
  show X.env.scope.names.lookup x.1=_∨X.env.scope.names.lookup x.1=_
  rw[hsc];exact this
 ·rw[hsc]
  exact .inr (at6 j i x e1 e2).2.1
 ·have:=o7 j hj
  rw[e] at this
  cases this
theorem ef_compN {X:Cx}{z:Z}{elt iter tg:Expr}{ifs:List Expr}{scope:Scope}{pos:Pos}{fi:FA}{g:FG}{c:FT}{fe:FE}(N':List Str)(ix:List (Option Nat)) (tc:List Nat)(ok:compOk X.N X.env.scope scope N' ix tc=true)
  (hK:z.K=X.K)(hi:PI X tg iter (iR z fi)) (hg:∀ C s H fp z',z'.K=X.K→PG (compCx X scope N' C s H fp) tg (tG z' tc g)) (ht:∀ C s H fp z',z'.K=X.K→PIfs (compCx X scope N' C s H fp) ifs (tB2 z' c)) (he:∀ C s H fp z',z'.K=X.K→EV (compCx X scope N' C s H fp) z' elt fe)
  (hc:X.calm=true:=by rfl)(hs:∀ x,foldedSetIterable iter X.env x=pure x:=by intro _;rfl):EF X z (.ListComp elt [⟨tg,iter,ifs,0⟩] scope pos) (fComp ix fi g c fe) :=
 ef_comp' X.N X.env.scope N' ix tc ok hK hi hg ht he rfl rfl hc hs
theorem et_ifs1 {X:Cx}{z:Z}{c:Expr}{f:FT}(h:ET X z c f):PIfs X [c] (tB2 z f):=pifs_one h
theorem et_ifs0 {X:Cx}{z:Z}:PIfs X [] (tB2 z fYes):=fun pins s σ H Q I ⟨ρ,Hq,b,r,e,k⟩=>pifs_nil pins s σ H Q I (by
 cases e;exact k Hq H (.refl r.sub))
end TL
namespace TL
open PySem L2
section
variable {env:Env}{r:List Expr}{pos:Pos}
theorem st_Name {x:Str}:starEach (.Name x pos::r) env=(false,eval (.Name x pos) env)::starEach r env:=rfl
theorem st_Constant {c:Const}{k:Nat}:starEach (.Constant c k pos::r) env=(false,eval (.Constant c k pos) env)::starEach r env:=rfl
theorem st_BinOp {a b:Expr}{o:Operator}:starEach (.BinOp a o b pos::r) env=(false,eval (.BinOp a o b pos) env)::starEach r env:=rfl
theorem st_Call {a:Expr}{vs:List Expr}{ks:List Keyword}:starEach (.Call a vs ks pos::r) env=(false,eval (.Call a vs ks pos) env)::starEach r env:=rfl
theorem st_Subscript {a b:Expr}:starEach (.Subscript a b pos::r) env=(false,eval (.Subscript a b pos) env)::starEach r env:=rfl
theorem st_Tuple {vs:List Expr}{k:Nat}:starEach (.Tuple vs k pos::r) env=(false,eval (.Tuple vs k pos) env)::starEach r env:=rfl
end
end TL
namespace L2
open PySem PySem.Spec PyProof.Rows
section
variable {prog:Program}{w:World}{A:Around}{E:Value→Shared→Prop}{s:Shared}
theorem nextOf_tuple_item {it t:Addr}{i:Nat}{items:Array Value}{x:Value}{Q:Value→Shared→Prop}(hit:s.heap.IsTupleIter it t i)
  (ht:s.heap.IsTuple t items)(hx:items[i]?=some x)
  (hQ:∀ h',h'.IsTupleIter it t (i+1)→Heap.SameBut it s.heap h'→Q x {s with heap:=h'}) :
  wpAny (model prog w) A (Builtin.SmallTypes.nextOf (.ref it)) Q E s:=by
 obtain⟨o,ho,hc,hd⟩:=id hit
 obtain⟨ol,hol,_,nl,hdl⟩:=ht
 unfold Builtin.SmallTypes.nextOf
 refine wpAny_bind (wpAny_callSpecial?_slot (name:=Str.ofString "__next__") hit.typeIs F.slot_tuple_iterator_next
  (wpAny_call_entry F.slot_tuple_iterator_next hit.typeIs F.entry_tuple_iterator_next ?_ (F.args_tuple_iterator_next_1 _)))
 show wpAny _ _ (field (.ref it) 0 >>= _) _ _ s
 refine wpAny_bind (wpAny_field ho hd (x:=.ref t) rfl ?_)
 show wpAny _ _ (if (Value.ref t==Value.none)=true then _ else _) _ _ s
 rw[if_neg (show ¬((Value.ref t==Value.none)=true) from Bool.false_ne_true)]
 show wpAny _ _ (field (.ref it) 1 >>= _) _ _ s
 refine wpAny_bind (wpAny_field ho hd (x:=.int i 0) rfl ?_)
 show wpAny _ _ (seqItems? (.ref t) >>= _) _ _ s
 refine wpAny_bind (wpAny_seqItems hol hdl ?_)
 simp only[Int.toNat_natCast,hx]
 refine wpAny_bind (wpAny_setField ho hd (by simp) (wpAny_pure ⟨x,rfl,wpAny_pure (hQ _ ?_ (Heap.SameBut.update ..))⟩))
 exact⟨_,Heap.get?_update_self _ ho (Obj.isFreed_of_fields (Obj.data_mapFields hd _)),(Obj.cls_mapFields ..).trans hc,by
  rw[Obj.data_mapFields hd];simp [rawInt]⟩
theorem nextOf_tuple_end {it t:Addr}{i:Nat}{items:Array Value}{Q:Value→Shared→Prop}(hh:A.handled=none)
  (hit:s.heap.IsTupleIter it t i)(ht:s.heap.IsTuple t items)(hx:items[i]?=none)
  (hE:∀ h' e,Heap.ExtBut it s.heap h'→(∃ o,h'.get? e=some o∧o.cls=.type "StopIteration")→E (.ref e) {s with heap:=h'}) :
  wpAny (model prog w) A (Builtin.SmallTypes.nextOf (.ref it)) Q E s:=by
 obtain⟨o,ho,hc,hd⟩:=id hit
 obtain⟨ol,hol,_,nl,hdl⟩:=ht
 unfold Builtin.SmallTypes.nextOf
 refine wpAny_bind (wpAny_callSpecial?_slot (name:=Str.ofString "__next__") hit.typeIs F.slot_tuple_iterator_next
  (wpAny_call_entry F.slot_tuple_iterator_next hit.typeIs F.entry_tuple_iterator_next ?_ (F.args_tuple_iterator_next_1 _)))
 show wpAny _ _ (field (.ref it) 0 >>= _) _ _ s
 refine wpAny_bind (wpAny_field ho hd (x:=.ref t) rfl ?_)
 show wpAny _ _ (if (Value.ref t==Value.none)=true then _ else _) _ _ s
 rw[if_neg (show ¬((Value.ref t==Value.none)=true) from Bool.false_ne_true)]
 show wpAny _ _ (field (.ref it) 1 >>= _) _ _ s
 refine wpAny_bind (wpAny_field ho hd (x:=.int i 0) rfl ?_)
 show wpAny _ _ (seqItems? (.ref t) >>= _) _ _ s
 refine wpAny_bind (wpAny_seqItems hol hdl ?_)
 simp only[Int.toNat_natCast,hx]
 refine wpAny_bind (wpAny_rule (wpAny_bind (wpAny_setField ho hd (by simp) ?_)))
 show wpAny _ _ (newExc (.type "StopIteration") [] >>= _) _ _ _
 refine wpAny_bind ?_
 simp only[newExc,newTuple]
 refine wpAny_bind (wpAny_newObj_type ?_ (by size_fits))
 refine wpAny_bind (m:=firstArgMember _ _) (wpAny_of_eq (a:=Value.none) (by first|rfl|(simp only[firstArgMember];rfl)) ?_)
 refine wpAny_newObj_type ?_ (by size_fits)
 simp only[raiseNew]
 refine wpAny_bind (wpAny_handled ?_)
 first|rw[show A.in1.handled=none from hh]|rw[hh]
 refine wpAny_bind (wpAny_pure (wpAny_throw ?_))
 exact hE _ _ (((Heap.SameBut.update ..).extBut.push _).push _) ⟨_,Heap.get?_push_size _ rfl,rfl⟩
end
theorem draws_tuple {prog:Program}{w:World}{A:Around}(hh:A.handled=none)(it t:Addr)(hne:t≠it)(items:Array Value) :
  Draws prog w A it [it,t] items.size (fun i v=>items[i]?=some v) (fun i h=>h.IsTupleIter it t i∧h.IsTuple t items) where
 live:=fun _ _ st=>let ⟨o,ho,_⟩:=st.1;⟨o,ho⟩
 frame:=fun _ _ _ st hk=>⟨let ⟨o,ho,r⟩:=st.1;⟨o,hk it (by simp) o ho,r⟩,let ⟨o,ho,r⟩:=st.2;⟨o,hk t (by simp) o ho,r⟩⟩
 item:=fun i s Q E hi st hQ=>by
  refine nextOf_tuple_item st.1 st.2 (x:=items[i]) (by simp [hi]) fun h' hit' hs'=>?_
  exact hQ _ h' s.toks (by simp [hi]) ⟨hit',st.2.extBut hs'.extBut hne⟩ hs'
 done:=fun s Q E st hE=>nextOf_tuple_end hh st.1 st.2 (by simp) hE
set_option maxHeartbeats 1000000 in
theorem meets_enumT (l:Addr)(items:Array Value) (n:Nat)(dct:Option Addr)(sl:Array (Option Value)) :
  Meets (Builtin.«enumerate.__new__» ⟨[.type "enumerate",.ref l],[]⟩) (fun _ R s=>s.heap.get? l=some {cls:=.type "tuple",dict:=dct,data:=.seq items n,slots:=sl} ∧
   R (.ok (.ret (.ref (s.heap.push {cls:=.type "tuple_iterator",data:=.fields #[.ref l,.int 0 0]}).objs.size)))
     {s with heap:=(s.heap.push {cls:=.type "tuple_iterator",data:=.fields #[.ref l,.int 0 0]}).push {cls:=.type "enumerate",data:=.fields #[.none,.bool false,.ref s.heap.objs.size,rawInt 0,.none,.none]}}) :=
 .of_wp fun prog w A R s h=>by
  obtain⟨hp,g,d,tk,os⟩:=s;obtain⟨hl,h⟩:=h
  have hsub:=sub_enumerate
  have hL:Heap.IsTuple (Shared.heap ⟨hp,g,d,tk,os⟩) l items:=⟨_,hl,rfl,n,rfl⟩
  wp_walk using AutoSeq1.wpAny_loadPart' hl
  refine wpAny_stack_any fun st=>wpAny_pure ?_
  split
  ·rename_i c _ _ _ _ _
   cases (c==Value.type "enumerate")
   ·wp_walk using AutoSeq1.wpAny_loadPart' hl,wpAny_pyIter_tuple hL
    exact⟨_,rfl,h⟩
   ·wp_walk using AutoSeq1.wpAny_loadPart' hl,wpAny_pyIter_tuple hL
    exact⟨_,rfl,h⟩
  ·wp_walk using AutoSeq1.wpAny_loadPart' hl,wpAny_pyIter_tuple hL
   exact⟨_,rfl,h⟩
section
variable {prog:Program}{w:World}{A:Around}{E:Value→Shared→Prop}{s:Shared}
theorem call_enumT {l:Addr}{items:Array Value}{Q:Value→Shared→Prop}(hL:s.heap.IsTuple l items)
  (h:∀ h',IsEnum h' (s.heap.objs.size+1) s.heap.objs.size 0 .none→h'.IsTupleIter s.heap.objs.size l 0→h'.objs.size=s.heap.objs.size+2 →
   (∀ b o,s.heap.get? b=some o→h'.get? b=some o)→Q (.ref (s.heap.objs.size+1)) {s with heap:=h'}) :
  wpAny (model prog w) A (call (.type "enumerate") [.ref l]) Q E s:=by
 obtain⟨⟨c,dct,dt,sl⟩,hl,hc,n,hd⟩:=hL
 replace hc:c=.type "tuple":=hc
 replace hd:dt=.seq items n:=hd
 subst hc hd
 refine callType_new F.called_enumerate (by decide) (F.typeCall_enumerate_1 _) (F.newCall_enumerate_1 _) (fun obj=>F.args_object_init_2 obj _) F.entry_enumerate_new
  (meets_enumT l items n dct sl) ⟨hl,?_⟩
 have hz:(s.heap.push {cls:=.type "tuple_iterator",data:=.fields #[.ref l,.int 0 0]}).objs.size=s.heap.objs.size+1:=Heap.size_push ..
 show _∧_
 rw[hz]
 have he:IsEnum ((s.heap.push {cls:=.type "tuple_iterator",data:=.fields #[.ref l,.int 0 0]}).push
   {cls:=.type "enumerate",data:=.fields #[.none,.bool false,.ref s.heap.objs.size,rawInt 0,.none,.none]}) (s.heap.objs.size+1) s.heap.objs.size 0 .none:=by
  have:=Heap.get?_push_size (s.heap.push {cls:=.type "tuple_iterator",data:=.fields #[.ref l,.int 0 0]})
   (o:={cls:=.type "enumerate",data:=.fields #[.none,.bool false,.ref s.heap.objs.size,rawInt 0,.none,.none]}) rfl
  rw[hz] at this;exact this
 refine⟨⟨_,he,rfl⟩,h _ he ⟨_,Heap.get?_push_of_some _ (Heap.get?_push_size _ rfl),rfl,rfl⟩ (by rw[Heap.size_push,hz]) fun b o x=>Heap.get?_push_of_some _ (Heap.get?_push_of_some _ x)⟩
end
section
variable {X:Cx}{pins:List (Addr×Obj)}{σ:St}{H:Hp}{s:Shared}{h':Heap}
theorem Inv.turnedL {t':Nat}{fp:List Addr}(I:Inv X pins σ H s)(k:∀ b o,b∉fp→s.heap.get? b=some o→h'.get? b=some o)(hf:∀ b∈fp,FpOk X pins H b):Inv X pins σ H {s with heap:=h',toks:=t'}:=by
 have nit:∀ b u,H b=some u→b∉fp:=fun b u e z=>by rw[(hf b z).1] at e;cases e
 refine I.step (g':=s.gens) (d':=s.drawn) (ch:=fp) (fun b hb=>?_) (fun b o _ _ hc e _=>k b o hc e) (fun b o _ _ hc e _=>⟨o.slots,k b o hc e⟩) (fun _ _ _ _ n=>n)
  (fun b o hc e=>⟨o,k b o hc e⟩) (fun _ _ e=>e) (fun _ _ _ e=>e) (fun b ps e=>⟨#[],by rw[e];simp⟩) (fun m hm=>?_) (fun b u e=>?_) I.bare
 ·obtain⟨f0,f1,f2,f3,f4,f5⟩:=hf b hb
  exact⟨f3,f1,f4,f5⟩
 ·obtain⟨o,es,ep,ho,r⟩:=hm
  exact⟨o,es,ep,k _ o (fun z=>(hf _ z).2.1 rfl) ho,r⟩
 ·refine(I.hok b u e).stay (fun c v hc q=>k c v ?_ q) (fun _ q=>q) fun _ _ q=>q
  rcases hc with z|z
  ·rw[z];exact nit b u e
  ·exact nit c _ z
theorem Inv.track {a:Addr}{o:HO}(I:Inv X pins σ H s)(hn:H a=none)(h0:X.s₀.heap.objs.size≤a)(hL:a≠X.env.locals)(hc:∀ x c,X.env.cells.lookup x=some c→c≠a)(hp:∀ p∈X.pn++pins,p.1≠a)
  (new:ObjOk X.prog X.w (upd H a o) s.heap a o):Inv X pins σ (upd H a o) s:=by
 refine⟨I.ok,I.os,I.bare,?_,I.loc,I.cell,?_,fun x c e=>?_,fun p q=>?_,I.hok.track hn new,I.len⟩
 ·have B:=I.base
  refine⟨B.keep,B.slot,fun b ob e n hx=>?_,B.there,fun b xs e=>?_,fun b ob u e=>?_,fun b ps e=>?_⟩
  ·rw[upd_ne (Nat.ne_of_lt (Nat.lt_of_lt_of_le (Heap.lt_size e) h0))];exact B.free b ob e n hx
  ·have:=B.tups b xs e
   rw[upd_ne (ne_of_none this hn)];exact this
  ·have:=B.frzs b ob u e
   rw[upd_ne (ne_of_none this hn)];exact this
  ·obtain⟨more,this⟩:=B.tbls b ps e
   exact⟨more,by rw[upd_ne (ne_of_none this hn)];exact this⟩
 ·rw[upd_ne (Ne.symm hL)];exact I.free
 ·rw[upd_ne (hc x c e)];exact I.freeC x c e
 ·obtain⟨p1,p2,p3⟩:=I.pin p q
  exact⟨p1,by rw[upd_ne (hp p q)];exact p2,p3⟩
end
section
variable {prog:Program}{w:World}{A:Around}{E:Value→Shared→Prop}{s:Shared}
theorem pyNext_enumT_end {e it l:Addr}{i:Nat}{items:Array Value}{old:Value}{Q:Option Value→Shared→Prop}(hh:A.handled=none)
  (he:IsEnum s.heap e it i old)(hit:s.heap.IsTupleIter it l i)(hl:s.heap.IsTuple l items)(hx:items[i]?=none)
  (hQ:∀ h',Heap.ExtBut it s.heap h'→Q none {s with heap:=h'}):wpAny (model prog w) A (pyNext (.ref e)) Q E s:=by
 have hT:s.TypeIs (.ref e) "enumerate":=⟨_,he,rfl⟩
 unfold pyNext
 refine wpAny_bind (wpAny_attempt (wpAny_callSpecial?_slot (name:=Str.ofString "__next__") hT F.slot_enumerate_next
  (wpAny_call_entry F.slot_enumerate_next hT F.entry_enumerate_next ?_ (F.args_enumerate_next_1 _))))
 show wpAny _ _ (field (.ref e) 2 >>= _) _ _ _
 refine wpAny_bind (wpAny_field he rfl (x:=.ref it) rfl ?_)
 refine wpAny_bind (nextOf_tuple_end hh hit hl hx fun h' x he' hx'=>?_)
 obtain⟨o,ho,hc⟩:=hx'
 refine wpAny_bind (wpAny_isInstance (T:="StopIteration") (b:=true) ⟨o,ho,hc⟩ isSubtype_stop ?_)
 exact wpAny_pure (hQ _ he')
end
noncomputable def IteT (K:PySem.W.Frag)(a:Addr):It :=
 ⟨fun i H=>∃ xs x,SqT K H a xs∧xs[i]?=some x,fun i H x H'=>∃ p y,x=.ref p∧H p=none∧(∀ xs,SqT K H a xs→xs[i]?=some y)∧H'=upd H p (.tup [.int i,y]),fun i H=>∃ xs,SqT K H a xs∧xs.length≤i⟩
theorem turn_enumT {P:Program}{w:World}{K:PySem.W.Frag}{elts:List Expr}{kd:Nat}{ps:Pos}(a e it:Addr)(hei:e≠it)(hai:a≠it)(hae:a≠e):Turn P w K (.Tuple elts kd ps) (IteT K a) [e,it] e (fun i h=>(∃ old,IsEnum h e it i old)∧h.IsTupleIter it a i) where
 mem:=by simp
 obj:=fun i h st b hb=>by
  obtain⟨⟨old,he⟩,o,ho,c,d⟩:=st
  rcases List.mem_cons.mp hb with z|z
  ·subst z
   exact⟨_,he,fun v q=>by cases q⟩
  ·have z':b=it:=by simpa using z
   subst z'
   exact⟨o,ho,fun v q=>by rw[d] at q;cases q⟩
 keep:=fun i h h' st k=>by
  obtain⟨⟨old,he⟩,o,ho,r⟩:=st
  exact⟨⟨old,k e (by simp) _ he⟩,o,k it (by simp) o ho,r⟩
 item:=by
  intro X hP hw hK hc i pins s σ H E I hf st hg
  subst hP hw hK
  obtain⟨xs,x,hq,hx⟩:=hg
  obtain⟨its,rv,p,hz⟩:=I.tuple hq
  obtain⟨u,hu,ru⟩:=rv.get hx
  obtain⟨⟨old,he⟩,hit⟩:=st
  have hlt:i<its.toArray.size:=by
   have:=(List.getElem?_eq_some_iff.mp hu).1
   simpa using this
  refine wpAny_pyNext_enum_itemD (draws_tuple (prog:=X.prog) (w:=X.w) (A:=X.A.in1) (I.ok.hd hc) it a hai its.toArray) he ⟨hit,(show s.heap.IsTuple a its.toArray from p)⟩ hlt hei (by simp;exact⟨hei,Ne.symm hae⟩) fun y h1 tk hy ho hs1 hT hsz hk=>?_
  have ey:y=u:=by
   have h2:its[i]?=some y:=by simpa using hy
   rw[hu] at h2
   exact(Option.some.inj h2).symm
  subst ey
  refine⟨_,rfl,?_⟩
  have pn:H s.heap.objs.size=none:=I.hok.fresh (Nat.le_refl _)
  have I1:Inv X pins σ H {s with heap:=h1,toks:=tk+1}:=I.turnedL (fp:=[e,it]) (fun b o hb e'=>hk b o (fun z=>hb (by simp [z])) (fun z=>hb (by simp [z])) e') hf
  refine wpAny_letOwnedTupleGo_enum (s:={s with heap:=h1,toks:=tk+1}) ho fun h2 he2 hs2=>?_
  have I2:Inv X pins σ H {s with heap:=h2,toks:=tk+1}:=Inv.turnedL (s:={s with heap:=h1,toks:=tk+1}) (h':=h2) (t':=tk+1) (fp:=[e,it]) I1 (fun b o hb e'=>(hs2.2 b fun z=>hb (by simp [z])).trans e') hf
  have lte:e<s.heap.objs.size:=Heap.lt_size he
  have lti:it<s.heap.objs.size:=let ⟨o,ho,_⟩:=hit;Heap.lt_size ho
  have ht2:h2.get? s.heap.objs.size=some {cls:=.type "tuple",data:=.seq #[.int i tk,y]}:=(hs2.2 _ (Nat.ne_of_gt lte)).trans hT
  have I3:Inv X pins σ (upd H s.heap.objs.size (.tup [.int i,x])) {s with heap:=h2,toks:=tk+1}:=by
   have f:=I.fpOk (H':=H) (Nat.le_refl _) pn
   refine I2.track pn (Nat.le_trans I.sz (Nat.le_refl _)) f.2.1 f.2.2.2.2.1 f.2.2.2.2.2 ⟨by show 2≤sizeLine;decide,[.int i tk,y],.cons ⟨tk,rfl⟩ (.cons ru .nil),?_⟩
   exact⟨_,ht2,rfl,_,rfl⟩
  refine⟨.ref s.heap.objs.size,_,I3,rfl,⟨_,x,rfl,pn,fun ys hy=>by rw[I.tuple_inj hy hq];exact hx,rfl⟩,⟨⟨y,by simpa using he2⟩,?_⟩,fun b hb=>?_⟩
  ·obtain⟨o,ho',r⟩:=hs1.1
   exact⟨o,(hs2.2 it (Ne.symm hei)).trans ho',r⟩
  ·have hb':b<s.heap.objs.size:=by
    rcases List.mem_cons.mp hb with z|z
    ·rw[z];exact lte
    ·have z':b=it:=by simpa using z
     rw[z'];exact lti
   rw[upd_ne (Nat.ne_of_lt hb')];exact(hf b hb).1
 done:=by
  intro X hP hw hK hc i pins s σ H E I hf st hg
  subst hP hw hK
  obtain⟨xs,hq,hx⟩:=hg
  obtain⟨its,rv,p,hz⟩:=I.tuple hq
  obtain⟨⟨old,he⟩,hit⟩:=st
  have hl:=rv.length
  exact pyNext_enumT_end (I.ok.hd hc) he hit (show s.heap.IsTuple a its.toArray from p) (by simp;omega) fun h' eb=>⟨rfl,I.turnedL (t':=s.toks) (fp:=[e,it]) (fun b o hb e'=>eb b o (fun z=>hb (by simp [z])) e') hf⟩
 self:=fun _ _ _ _ _ st h=>by
  obtain⟨⟨old,he⟩,_⟩:=st
  exact wpAny_pyIter_enum he h
noncomputable def IteL (K:PySem.W.Frag)(a:Addr):It :=
 ⟨fun i H=>∃ xs x,SqL K H a xs∧xs[i]?=some x,fun i H x H'=>∃ p y,x=.ref p∧H p=none∧(∀ xs,SqL K H a xs→xs[i]?=some y)∧H'=upd H p (.tup [.int i,y]),fun i H=>∃ xs,SqL K H a xs∧xs.length≤i⟩
theorem turn_enumL {P:Program}{w:World}{K:PySem.W.Frag}{elts:List Expr}{kd:Nat}{ps:Pos}(a e it:Addr)(hei:e≠it)(hai:a≠it)(hae:a≠e):Turn P w K (.Tuple elts kd ps) (IteL K a) [e,it] e (fun i h=>(∃ old,IsEnum h e it i old)∧h.IsListIter it a i) where
 mem:=by simp
 obj:=fun i h st b hb=>by
  obtain⟨⟨old,he⟩,o,ho,c,d⟩:=st
  rcases List.mem_cons.mp hb with z|z
  ·subst z
   exact⟨_,he,fun v q=>by cases q⟩
  ·have z':b=it:=by simpa using z
   subst z'
   exact⟨o,ho,fun v q=>by rw[d] at q;cases q⟩
 keep:=fun i h h' st k=>by
  obtain⟨⟨old,he⟩,o,ho,r⟩:=st
  exact⟨⟨old,k e (by simp) _ he⟩,o,k it (by simp) o ho,r⟩
 item:=by
  intro X hP hw hK hc i pins s σ H E I hf st hg
  subst hP hw hK
  obtain⟨xs,x,hq,hx⟩:=hg
  obtain⟨its,rv,p,hz⟩:=I.list hq
  obtain⟨u,hu,ru⟩:=rv.get hx
  obtain⟨⟨old,he⟩,hit⟩:=st
  have hlt:i<its.toArray.size:=by
   have:=(List.getElem?_eq_some_iff.mp hu).1
   simpa using this
  refine wpAny_pyNext_enum_itemD (Draws.list (prog:=X.prog) (w:=X.w) (A:=X.A.in1) (I.ok.hd hc) it a hai its.toArray) he ⟨hit,p.isList⟩ hlt hei (by simp;exact⟨hei,Ne.symm hae⟩) fun y h1 tk hy ho hs1 hT hsz hk=>?_
  have ey:y=u:=by
   have h2:its[i]?=some y:=by simpa using hy
   rw[hu] at h2
   exact(Option.some.inj h2).symm
  subst ey
  refine⟨_,rfl,?_⟩
  have pn:H s.heap.objs.size=none:=I.hok.fresh (Nat.le_refl _)
  have I1:Inv X pins σ H {s with heap:=h1,toks:=tk+1}:=I.turnedL (fp:=[e,it]) (fun b o hb e'=>hk b o (fun z=>hb (by simp [z])) (fun z=>hb (by simp [z])) e') hf
  refine wpAny_letOwnedTupleGo_enum (s:={s with heap:=h1,toks:=tk+1}) ho fun h2 he2 hs2=>?_
  have I2:Inv X pins σ H {s with heap:=h2,toks:=tk+1}:=Inv.turnedL (s:={s with heap:=h1,toks:=tk+1}) (h':=h2) (t':=tk+1) (fp:=[e,it]) I1 (fun b o hb e'=>(hs2.2 b fun z=>hb (by simp [z])).trans e') hf
  have lte:e<s.heap.objs.size:=Heap.lt_size he
  have lti:it<s.heap.objs.size:=let ⟨o,ho,_⟩:=hit;Heap.lt_size ho
  have ht2:h2.get? s.heap.objs.size=some {cls:=.type "tuple",data:=.seq #[.int i tk,y]}:=(hs2.2 _ (Nat.ne_of_gt lte)).trans hT
  have I3:Inv X pins σ (upd H s.heap.objs.size (.tup [.int i,x])) {s with heap:=h2,toks:=tk+1}:=by
   have f:=I.fpOk (H':=H) (Nat.le_refl _) pn
   refine I2.track pn (Nat.le_trans I.sz (Nat.le_refl _)) f.2.1 f.2.2.2.2.1 f.2.2.2.2.2 ⟨by show 2≤sizeLine;decide,[.int i tk,y],.cons ⟨tk,rfl⟩ (.cons ru .nil),?_⟩
   exact⟨_,ht2,rfl,_,rfl⟩
  refine⟨.ref s.heap.objs.size,_,I3,rfl,⟨_,x,rfl,pn,fun ys hy=>by rw[I.list_inj hy hq];exact hx,rfl⟩,⟨⟨y,by simpa using he2⟩,?_⟩,fun b hb=>?_⟩
  ·obtain⟨o,ho',r⟩:=hs1.1
   exact⟨o,(hs2.2 it (Ne.symm hei)).trans ho',r⟩
  ·have hb':b<s.heap.objs.size:=by
    rcases List.mem_cons.mp hb with z|z
    ·rw[z];exact lte
    ·have z':b=it:=by simpa using z
     rw[z'];exact lti
   rw[upd_ne (Nat.ne_of_lt hb')];exact(hf b hb).1
 done:=by
  intro X hP hw hK hc i pins s σ H E I hf st hg
  subst hP hw hK
  obtain⟨xs,hq,hx⟩:=hg
  obtain⟨its,rv,p,hz⟩:=I.list hq
  obtain⟨⟨old,he⟩,hit⟩:=st
  have hl:=rv.length
  exact wpAny_pyNext_enum_end (I.ok.hd hc) he hit p.isList (by simp;omega) fun h' eb=>⟨rfl,I.turnedL (t':=s.toks) (fp:=[e,it]) (fun b o hb e'=>eb b o (fun z=>hb (by simp [z])) e') hf⟩
 self:=fun _ _ _ _ _ st h=>by
  obtain⟨⟨old,he⟩,_⟩:=st
  exact wpAny_pyIter_enum he h
section
variable {X:Cx}{elts:List Expr}{kd:Nat}{ps:Pos}
noncomputable def iEnum (K:PySem.W.Frag)(ta:TA):TI:=fun σ H R=>ta σ H fun vs H1=>∃ a,vs=[.ref a]∧((∃ xs,SqL K H1 a xs)∧R (IteL K a) H1∨(∃ xs,SqT K H1 a xs)∧R (IteT K a) H1)
theorem pi_enum {b:Expr}{ta:TA}{p pos:Pos}(hg:Gl X "enumerate")(hm:X.mg "enumerate"=none)(ha:PA X [b] ta)(hs:starEach [b] X.env=[(false,eval b X.env)]:=by rfl):PI X (.Tuple elts kd ps) (.Call (.Name "enumerate" p) [b] [] pos) (iEnum X.K ta):=by
 intro pins s σ H R I h
 refine Call_ (ld_blt I hg hm boot_enumerate (PyProof.Rows.callWith_type1 (thn (ha pos pins s σ H _ I h) fun us s1 ⟨vs,H1,I1,r1,q1⟩=>?_) hs rfl))
 obtain⟨a,e,q1⟩:=q1
 subst e
 cases r1 with
 | cons r rr =>
   cases rr
   cases r
   rcases q1 with⟨⟨xs,hq⟩,q⟩|⟨⟨xs,hq⟩,q⟩
   ·obtain⟨its,rv,p,hz⟩:=I1.list hq
    have la:a<s1.heap.objs.size:=let ⟨o,ho,_⟩:=p.isList;Heap.lt_size ho
    refine call_enumerate_list p.isList fun h1 he hit hsz kp=>?_
    have I2:Inv X pins σ H1 {s1 with heap:=h1}:=I1.kept (t':=s1.toks) kp
    refine wpAny_pyIter_enum he ⟨s1.heap.objs.size+1,[s1.heap.objs.size+1,s1.heap.objs.size],_,_,H1,rfl,I2,turn_enumL a _ _ (Nat.ne_of_gt (Nat.lt_succ_self _)) (Nat.ne_of_lt la) (Nat.ne_of_lt (Nat.lt_succ_of_lt la)),⟨⟨_,by simpa using he⟩,hit⟩,fun b hb=>?_,q⟩
    have hb':s1.heap.objs.size≤b:=by
     rcases List.mem_cons.mp hb with z|z
     ·rw[z];exact Nat.le_succ _
     ·have z':b=s1.heap.objs.size:=by simpa using z
      rw[z'];exact Nat.le_refl _
    exact I1.fpOk hb' (I1.hok.fresh hb')
   ·obtain⟨its,rv,p,hz⟩:=I1.tuple hq
    have la:a<s1.heap.objs.size:=let ⟨o,ho,_⟩:=p;Heap.lt_size ho
    refine call_enumT (show s1.heap.IsTuple a its.toArray from p) fun h1 he hit hsz kp=>?_
    have I2:Inv X pins σ H1 {s1 with heap:=h1}:=I1.kept (t':=s1.toks) kp
    refine wpAny_pyIter_enum he ⟨s1.heap.objs.size+1,[s1.heap.objs.size+1,s1.heap.objs.size],_,_,H1,rfl,I2,turn_enumT a _ _ (Nat.ne_of_gt (Nat.lt_succ_self _)) (Nat.ne_of_lt la) (Nat.ne_of_lt (Nat.lt_succ_of_lt la)),⟨⟨_,by simpa using he⟩,hit⟩,fun b hb=>?_,q⟩
    have hb':s1.heap.objs.size≤b:=by
     rcases List.mem_cons.mp hb with z|z
     ·rw[z];exact Nat.le_succ _
     ·have z':b=s1.heap.objs.size:=by simpa using z
      rw[z'];exact Nat.le_refl _
    exact I1.fpOk hb' (I1.hok.fresh hb')
end
end L2
namespace TL
open PySem L2
noncomputable def enumT (ts:List T):List T:=(List.range ts.length).map fun(i:Nat)=>.tup [.int (i:Int),ts.getD i .non]
noncomputable def fEnum (f:FE):FA:=fun ρ=>match f ρ with|some (.tup ts)=>some (enumT ts)|some (.lst ts)=>some (enumT ts)|_=>none
theorem enumT_get {ts:List T}{i:Nat}{t:T}(h:(enumT ts)[i]?=some t):∃ u,ts[i]?=some u∧t=.tup [.int (i:Int),u]:=by
 have hi:i<ts.length:=by
  have:=(List.getElem?_eq_some_iff.mp h).1
  simpa [enumT] using this
 unfold enumT at h
 rw[List.getElem?_map,List.getElem?_range hi] at h
 refine⟨ts[i],List.getElem?_eq_getElem hi,?_⟩
 have h':=Option.some.inj h
 rw[← h']
 simp [List.getD_eq_getElem?_getD,List.getElem?_eq_getElem hi]
section
variable {X:Cx}{z:Z}{e:Expr}{f:FE}{p pos:Pos}{elts:List Expr}{kd:Nat}{ps:Pos}
theorem walk_eT {K:PySem.W.Frag}{a:Addr}{ts:List T}{vs:List V}{Hq:Hp}(hr:RepL K Hq ts vs)(P:Hp→Prop)(hP:∀ Hq' H',Same Hq Hq'→Same Hq' H'→P H'→SqT K H' a vs):Walk K (IteT K a) (enumT ts) Hq P:=by
 intro i Hq' H' s1 s2 p
 have q:=hP Hq' H' s1 s2 p
 refine⟨fun t e=>?_,fun h=>⟨vs,q,by rw[← hr.length];simpa [enumT] using h⟩⟩
 obtain⟨u,eu,rfl⟩:=enumT_get e
 obtain⟨v,e1,r1⟩:=hr.get eu
 refine⟨⟨vs,v,q,e1⟩,fun x H3 y=>?_⟩
 obtain⟨b,w,rfl,hb,hw,rfl⟩:=y
 have:=hw vs q
 rw[e1] at this
 cases this
 have hq:Hq' b=none:=s2.free hb
 exact⟨_,.new s2 hb,rep_tupNew hq (.cons rep_int (.one (r1.mono s1)))⟩
theorem walk_eL {K:PySem.W.Frag}{a:Addr}{ts:List T}{vs:List V}{Hq:Hp}(hr:RepL K Hq ts vs)(P:Hp→Prop)(hP:∀ Hq' H',Same Hq Hq'→Same Hq' H'→P H'→SqL K H' a vs):Walk K (IteL K a) (enumT ts) Hq P:=by
 intro i Hq' H' s1 s2 p
 have q:=hP Hq' H' s1 s2 p
 refine⟨fun t e=>?_,fun h=>⟨vs,q,by rw[← hr.length];simpa [enumT] using h⟩⟩
 obtain⟨u,eu,rfl⟩:=enumT_get e
 obtain⟨v,e1,r1⟩:=hr.get eu
 refine⟨⟨vs,v,q,e1⟩,fun x H3 y=>?_⟩
 obtain⟨b,w,rfl,hb,hw,rfl⟩:=y
 have:=hw vs q
 rw[e1] at this
 cases this
 have hq:Hq' b=none:=s2.free hb
 exact⟨_,.new s2 hb,rep_tupNew hq (.cons rep_int (.one (r1.mono s1)))⟩
theorem ir_enum (hK:z.K=X.K)(hg:Gl X "enumerate")(hm:X.mg "enumerate"=none)(h:ER X z e f)(hs:starEach [e] X.env=[(false,eval e X.env)]:=by rfl):PI X (.Tuple elts kd ps) (.Call (.Name "enumerate" p) [e] [] pos) (iR z (fEnum f)) :=
 PI.imp (pi_enum hg hm (ea_r1 h hs) hs) fun σ H R ⟨ρ,Hq,ts,r,e,k⟩=>by
  unfold fEnum at e
  split at e
  ·rename_i us e1
   cases e
   refine⟨ρ,Hq,_,r,e1,fun v Hq1 H1 x1 r1=>?_⟩
   obtain⟨a,vs,rfl,q1,q2⟩:=r1.tup x1.sub
   rw[hK] at q1 q2
   refine⟨a,rfl,.inr ⟨⟨vs,q1⟩,?_⟩⟩
   rw[← hK]
   refine k _ Hq1 H1 (fun H'=>SqT X.K H' a vs) x1 q1 (fun a b s h=>sqT_mono s h) ?_
   rw[hK]
   exact walk_eT q2 _ fun _ _ _ _ p=>p
  ·rename_i us e1
   cases e
   refine⟨ρ,Hq,_,r,e1,fun v Hq1 H1 x1 r1=>?_⟩
   obtain⟨a,vs,rfl,q1,q2⟩:=r1.lst x1.sub
   rw[hK] at q1 q2
   refine⟨a,rfl,.inl ⟨⟨vs,q1⟩,?_⟩⟩
   rw[← hK]
   refine k _ Hq1 H1 (fun H'=>SqL X.K H' a vs) x1 q1 (fun a b s h=>s.seq h) ?_
   rw[hK]
   exact walk_eL q2 _ fun _ _ _ _ p=>p
  ·cases e
end
end TL
namespace L2
open PySem PySem.Spec PyProof.Rows
noncomputable def subs6:List (List Nat):=(List.range 64).map fun c=>(List.range 6).filter fun i=>c.testBit i
noncomputable def tabOf (mask mv:Nat)(l:Bool)(ms:List Nat):SetTable:={mask:=mask,place:=ms.toArray,dummies:=#[],finger:=0,led:=l,moves:=mv,plain:=true}
noncomputable def insN (k:Nat)(ms:List Nat):List Nat:=if ms.contains k then ms else (List.range 6).filter fun i=>ms.contains i||i==k
theorem subs_ins:∀ ms∈subs6,∀ k∈List.range 6,insN k ms∈subs6:=by decide +kernel
theorem subs_sorted:∀ ms∈subs6,ms.Pairwise (·<·):=by decide +kernel
theorem subs_lt:∀ ms∈subs6,∀ k∈ms,k<6:=by decide +kernel
theorem subs_nil:[]∈subs6:=by decide +kernel
theorem sorted_ext:∀{a b:List Nat},a.Pairwise (·<·)→b.Pairwise (·<·)→(∀ x,x∈a↔x∈b)→a=b
 | [],[],_,_,_=>rfl
 | [],y::b,_,_,h=>absurd ((h y).mpr List.mem_cons_self) (by simp)
 | x::a,[],_,_,h=>absurd ((h x).mp List.mem_cons_self) (by simp)
 | x::a,y::b,ha,hb,h=>by
   rw[List.pairwise_cons] at ha hb
   have e:x=y:=by
    rcases List.mem_cons.mp ((h x).mp List.mem_cons_self) with z|z
    ·exact z
    ·rcases List.mem_cons.mp ((h y).mpr List.mem_cons_self) with w|w
     ·exact w.symm
     ·have:=ha.1 y w
      have:=hb.1 x z
      omega
   subst e
   congr 1
   refine sorted_ext ha.2 hb.2 fun z=>?_
   have hz:=h z
   rw[List.mem_cons,List.mem_cons] at hz
   constructor
   ·intro q
    rcases hz.mp (.inr q) with w|w
    ·have:=ha.1 z q;omega
    ·exact w
   ·intro q
    rcases hz.mpr (.inr q) with w|w
    ·have:=hb.1 z q;omega
    ·exact w
theorem insN_mem {k:Nat}(hk:k<6){ms:List Nat}(hm:ms∈subs6) (x:Nat):x∈insN k ms↔x=k∨x∈ms:=by
 unfold insN
 split
 ·rename_i h
  have:k∈ms:=by simpa using h
  constructor
  ·exact .inr
  ·rintro(rfl|h)
   ·exact this
   ·exact h
 ·rw[List.mem_filter,List.mem_range]
  simp only[Bool.or_eq_true,List.contains_iff_mem,beq_iff_eq]
  constructor
  ·rintro⟨_,h|h⟩
   ·exact .inr h
   ·exact .inl h
  ·rintro(rfl|h)
   ·exact⟨hk,.inr rfl⟩
   ·exact⟨subs_lt ms hm x h,.inl h⟩
inductive EsR:List (Int×Value)→List Nat→Prop
 | nil:EsR [] []
 | cons {i:Nat}{t:Tok}{r:List (Int×Value)}{ms:List Nat}(h:EsR r ms):EsR (((i:Int),.int (i:Int) t)::r) (i::ms)
end L2
namespace L2
open PySem PySem.Spec PyProof.Rows
noncomputable def okMask (m:Nat):Prop:=m=7∨m=15∨m=31
theorem insAt_list {α:Type}(xs:Array α) (p:Nat)(x:α):(SetTable.insertAt xs p x).toList=xs.toList.take p++x::xs.toList.drop p:=by
 unfold SetTable.insertAt
 simp [Array.toList_extract,List.extract_eq_take_drop]
 exact List.take_of_length_le (by simp)
noncomputable def SSet (h:Heap)(a:Addr)(l:Bool)(ms:List Nat):Prop :=
 ∃ o es ep m mv,h.get? a=some o∧o.ExactSet∧o.data=.set es ep (tabOf m mv l ms)∧EsR es.toList ms∧ms∈subs6∧okMask m
section
variable {prog:Program}{w:World}{A:Around}{E:Value→Shared→Prop}{s:Shared}
end
end L2
namespace L2
open PySem PySem.Spec PyProof.Rows
theorem slot_si_next:Slot "set_iterator" "__next__" "set_iterator.__next__" :=
 .of (owner:="set_iterator") (n:="__next__") (by rw[typeLookup_type,builtinLookup_eq_fast];kernel_rfl) (by decide +kernel) (by decide +kernel) (by decide +kernel)
  (by first|exact .inl (by decide +kernel)|exact .inr (by decide +kernel)) (by rw[isSubtype_type];kernel_rfl)
theorem entry_si_next:entryFor table "set_iterator.__next__"=some Builtin.«set_iterator.__next__»:=entryFor_of_tree (by kernel_rfl)
theorem slot_si_iter:Slot "set_iterator" "__iter__" "set_iterator.__iter__" :=
 .of (owner:="set_iterator") (n:="__iter__") (by rw[typeLookup_type,builtinLookup_eq_fast];kernel_rfl) (by decide +kernel) (by decide +kernel) (by decide +kernel)
  (by first|exact .inl (by decide +kernel)|exact .inr (by decide +kernel)) (by rw[isSubtype_type];kernel_rfl)
theorem entry_s_iter:entryFor table "set.__iter__"=some Builtin.«frozenset.__iter__» :=
 entryFor_alias (id':="frozenset.__iter__") (by kernel_rfl) (by first|rfl|decide +kernel|(unfold String.splitOn;simp +decide [String.splitOnAux])) (by decide +kernel) (by kernel_rfl)
theorem owner_si:Manifest.owners.lookup (String.ofList ['r','o','t','a','r','e','t','i','_','t','e','s'].reverse)=some Manifest.sig_set_iterator:=by kernel_rfl
theorem args_si_next (a:Value):argsOk "set_iterator.__next__" ⟨[a],[]⟩:=by
 unfold argsOk;rw[signature?_of (id:="set_iterator.__next__") (n:=['_','_','t','x','e','n','_','_']) (o:=['r','o','t','a','r','e','t','i','_','t','e','s']) (by kernel_rfl) owner_si];kernel_rfl
theorem args_si_iter (a:Value):argsOk "set_iterator.__iter__" ⟨[a],[]⟩:=by
 unfold argsOk;rw[signature?_of (id:="set_iterator.__iter__") (n:=['_','_','r','e','t','i','_','_']) (o:=['r','o','t','a','r','e','t','i','_','t','e','s']) (by kernel_rfl) owner_si];kernel_rfl
theorem entry_si_iter:entryFor table "set_iterator.__iter__"=some Builtin.«dict_keyiterator.__iter__» :=
 entryFor_alias (id':="dict_keyiterator.__iter__") (by kernel_rfl) (by first|rfl|decide +kernel|(unfold String.splitOn;simp +decide [String.splitOnAux])) (by decide +kernel) (by kernel_rfl)
theorem pickGo_perm {α:Type}(next:Nat→Nat):∀(fuel k:Nat)(left:List α)(out:Array α),fuel=left.length→(pickOrder.go next fuel k left out).toList.Perm (out.toList++left)
 | 0,k,left,out,h=>by
   have:left=[]:=List.eq_nil_of_length_eq_zero h.symm
   subst this
   unfold pickOrder.go
   simp
 | fuel+1,k,left,out,h=>by
   unfold pickOrder.go
   have hl:0<left.length:=by omega
   have hi:next k % left.length<left.length:=Nat.mod_lt _ hl
   rw[List.getElem?_eq_getElem hi]
   dsimp only
   refine(pickGo_perm next fuel (k+1) _ _ (by rw[List.length_eraseIdx_of_lt hi];omega)).trans ?_
   rw[Array.toList_push,List.append_assoc]
   refine List.Perm.append_left _ ?_
   have e:=List.eraseIdx_eq_take_drop_succ left (next k % left.length)
   have e2:left=left.take (next k % left.length)++left[next k % left.length]::left.drop (next k % left.length+1):=by
    rw[← List.drop_eq_getElem_cons hi,List.take_append_drop]
   rw[e]
   have p:(left[next k % left.length]::(left.take (next k % left.length)++left.drop (next k % left.length+1))).Perm (left.take (next k % left.length)++left[next k % left.length]::left.drop (next k % left.length+1)):=List.perm_middle.symm
   rw[← e2] at p
   simpa using p
theorem pick_perm {α:Type}(next:Nat→Nat)(xs:Array α):(pickOrder next xs).toList.Perm xs.toList:=by
 have:=pickGo_perm next xs.size 0 xs.toList #[] (by simp)
 unfold pickOrder
 simpa using this
noncomputable def byT (w:World):Bool:=w.params.followText "set-order"
noncomputable def ordS (w:World)(S:Addr) (ep:Nat)(es:Array (Int×Value)):Array (Int×Value):=if byT w=true then pickOrder (w.params.setOrder S ep) es else es
theorem ordS_perm (w:World)(S:Addr) (ep:Nat)(es:Array (Int×Value)):(ordS w S ep es).toList.Perm es.toList:=by
 unfold ordS
 split
 ·exact pick_perm _ _
 ·exact .refl _
noncomputable def slotS (w:World)(ms:List Nat) (i:Nat):Nat:=if byT w=true then 0 else if i=0 then 0 else ms.getD (i - 1) 0+1
noncomputable abbrev SIter (w:World)(h:Heap)(I S:Addr)(ms:List Nat) (ep i:Nat):Prop:=h.get? I=some {cls:=.type "set_iterator",dict:=none,data:=.fields #[rawInt (slotS w ms i),rawInt i,.ref S,rawInt ms.length,rawInt ep],slots:=#[]}
structure SRec (h:Heap)(S:Addr)(o:Obj)(es:Array (Int×Value)) (ep m mv:Nat)(l:Bool)(ms:List Nat):Prop where
 ho:h.get? S=some o
 ex:o.ExactSet
 hd:o.data=.set es ep (tabOf m mv l ms)
 er:EsR es.toList ms
 ms6:ms∈subs6
 hm:okMask m
section
variable {prog:Program}{w:World}{A:Around}{E:Value→Shared→Prop}{s:Shared}{S I:Addr}{o:Obj}{es:Array (Int×Value)}{ep m mv:Nat}{ms:List Nat}
theorem wp_byT {Q:Bool→Shared→Prop}(h:Q (byT w) s):wpAny (model prog w) A setsByText Q E s:=by
 unfold setsByText
 exact wpAny_bind (wpAny_askSetting (wpAny_pure h))
end
end L2
namespace L2
open PySem PySem.Spec PyProof.Rows
section
variable {prog:Program}{w:World}{A:Around}{E:Value→Shared→Prop}{s:Shared}{S I:Addr}{o:Obj}{es:Array (Int×Value)}{ep m mv:Nat}{ms:List Nat}
theorem len_slot:typeLookup (.type "set") "__len__"=pure (some (.builtin "set.__len__")):=by rw[typeLookup_type,builtinLookup_eq_fast];kernel_rfl
end
end L2
namespace L2
open PySem PySem.Spec PyProof.Rows
noncomputable def asInts (ms:List Nat):List Int:=ms.map fun(i:Nat)=>(i:Int)
section
variable {prog:Program}{w:World}{A:Around}{E:Value→Shared→Prop}{s:Shared}{S I:Addr}{o:Obj}{es:Array (Int×Value)}{ep m mv:Nat}{ms:List Nat}
theorem code_set_new (a:Value){Q₁:Value→Shared→Prop}
  (h:Q₁ (.ref s.heap.objs.size) {s with heap:=s.heap.push {cls:=.type "set",dict:=none,data:=.set #[] 0 (tabOf 7 0 (!byT w) [])}}) :
  codeAny (model prog w) A (.call (.builtin "set.__new__") ⟨[.type "set",a],[]⟩) (wants Q₁ E) s:=by
 refine codeAny_of_tree ?_
 show wpAny _ A.in1 (do checkBuiltinCall "set.__new__" ⟨[.type "set",a],[]⟩;again (.builtin "set.__new__" ⟨[.type "set",a],[]⟩)) _ _ s
 refine wpAny_bind (wpAny_of_eq (F.newCall_set_1 a) (wpAny_pure ⟨plainId_quiet F.plain_set_new _,codeAny_builtin F.entry_set_new ?_⟩))
 rw[Around.under_plainId F.plain_set_new _]
 unfold Builtin.«set.__new__» Builtin.Frozenset.newClass
 have hsub:=sub_set_self
 obtain⟨hp,g,d,tk,os⟩:=s
 dsimp only
 wp_walk
 refine wpAny_askSetting (wpAny_pure ?_)
 dsimp only
 simp only[newObj]
 refine wpAny_bind (wpAny_alloc (wpAny_pure ?_))
 exact wpAny_pure h
noncomputable def insAll (ms:List Nat)(ks:List Nat):List Nat:=ks.foldl (fun a k=>insN k a) ms
theorem insAll_mem:∀(ks:List Nat){ms:List Nat},ms∈subs6→(∀ k∈ks,k<6)→insAll ms ks∈subs6∧∀ x,x∈insAll ms ks↔x∈ms∨x∈ks
 | [],ms,h,_=>⟨h,fun x=>by simp [insAll]⟩
 | k::ks,ms,h,hk=>by
   have h1:=subs_ins ms h k (List.mem_range.mpr (hk k List.mem_cons_self))
   obtain⟨h2,h3⟩:=insAll_mem ks h1 fun j hj=>hk j (List.mem_cons_of_mem _ hj)
   refine⟨h2,fun x=>?_⟩
   have:=h3 x
   rw[insN_mem (hk k List.mem_cons_self) h] at this
   show x∈insAll (insN k ms) ks↔_
   rw[this,List.mem_cons]
   constructor
   ·rintro((a|a)|a)
    ·exact .inr (.inl a)
    ·exact .inl a
    ·exact .inr (.inr a)
   ·rintro(a|a|a)
    ·exact .inl (.inr a)
    ·exact .inl (.inl a)
    ·exact .inr a
end
section
variable {prog:Program}{w:World}{A:Around}{R:Result→Shared→Prop}{I:Addr}{fp wr:List Addr}{G:Array GenState→Array GenState→Prop}{n:Nat}{P:Nat→Value→Prop}{St:Nat→Shared→Prop}
end
end L2
namespace L2
open PySem PySem.Spec PyProof.Rows
theorem sub_tuple_set':isSubtype (.type "tuple") (.type "set")=pure false:=by rw[isSubtype_type];kernel_rfl
theorem sub_tuple_frozenset':isSubtype (.type "tuple") (.type "frozenset")=pure false:=by rw[isSubtype_type];kernel_rfl
end L2
namespace L2
open PySem PySem.Spec PyProof.Rows
section
variable {prog:Program}{w:World}{A:Around}{E:Value→Shared→Prop}{s:Shared}
end
end L2
namespace TL
open PySem L2
noncomputable abbrev FZ:=Rho→Option (List Nat)
noncomputable def PZ (X:Cx)(e:Expr)(t:L2.St→Hp→(List Nat→Hp→Prop)→Prop):Prop :=
 ∀(pins:List (Addr×Obj)) (s:Shared)(σ:L2.St)(H:Hp)(Q:List Nat→Hp→Prop),Inv X pins σ H s→t σ H Q →
  wpAny (model X.prog X.w) X.A (eval e X.env) (fun u s'=>∃ S ms H',u=.ref S∧SSet s'.heap S (!byT X.w) ms∧FpOk X pins H' S∧Inv X pins σ H' s'∧Q ms H') X.xe s
noncomputable def tZ (z:Z)(f:FZ):L2.St→Hp→(List Nat→Hp→Prop)→Prop:=fun σ H Q=>∃ ρ Hq ms,Rn z σ ρ Hq H∧f ρ=some ms∧∀ Hq' H',Ex Hq H Hq' H'→Q ms H'
noncomputable abbrev EZ (X:Cx)(z:Z)(e:Expr)(f:FZ):Prop:=PZ X e (tZ z f)
noncomputable def natsOf:List T→Option (List Nat)
 | []=>some []
 | .int i::r=>if 0≤i∧i<6 then (natsOf r).map (i.toNat::·) else none
 | _=>none
section
variable {X:Cx}{z:Z}{e a b:Expr}{f:FE}{fa fb fz:FZ}{p pos:Pos}
noncomputable def fSetOf (f:FE):FZ:=fun ρ=>match f ρ with|some (.tup ts)=>(natsOf ts).map (insAll [])|_=>none
theorem boot_set:bootBuiltins "set"=some (.type "set"):=by rfl
theorem boot_sorted:bootBuiltins "sorted"=some (.builtin "sorted"):=by rfl
noncomputable def fSetOr (f g:FZ):FZ:=fun ρ=>match f ρ with|some a=>(match g ρ with|some b=>some (insAll a b)|none=>none)|none=>none
noncomputable def fSorted (f:FZ):FA:=fun ρ=>(f ρ).map fun ms=>ms.map fun(i:Nat)=>T.int (i:Int)
noncomputable def fLRng (f:FE):FA:=fun ρ=>match f ρ with|some (.int j)=>if 0≤j∧j≤2 ^ 20 then some ((List.range j.toNat).map fun(i:Nat)=>T.int (i:Int)) else none|_=>none
end
end TL
namespace TL
open PySem L2 SeqAt
section
variable {X:Cx}{z:Z}{e a b:Expr}{f g:FE}{p1 p2 p3 pos:Pos}
noncomputable def rExtL (K:PySem.W.Frag):V→List V→Hp→VK→Prop:=fun x vs H Q=>∃ l b xs zs,x=.ref l∧vs=[.ref b]∧H l=some (.lst xs)∧SqL K H b zs∧xs.length+zs.length≤sizeLine∧Q .non (upd H l (.lst (xs++zs)))
theorem ext_any (l:Addr)(items:Array Value) (n:Nat)(b:Addr)(items2:Array Value) (n2:Nat)(sl2:Array (Option Value)) (q0:¬(!items.isEmpty&&Builtin.List.listTooLong (items.size+items2.size))=true) (q1:items.size≤sizeLine)(q2:items.size+items2.size≤sizeLine+1) :
  Meets (Builtin.«list.extend» ⟨[.ref l,.ref b],[]⟩) (fun _ R s=>(s.heap.get? l=some {cls:=.type "list",dict:=none,data:=.seq items n,slots:=#[]}∧s.heap.get? b=some {cls:=.type "list",dict:=none,data:=.seq items2 n2,slots:=sl2})∧R (.ok (.ret Value.none)) {s with heap:=s.heap.update l (Obj.mapSeq fun x=>x++items2),toks:=s.toks}) :=
 .of_wp fun prog w A R s h=>by
  obtain⟨hp,g,d,tk,os⟩:=s
  obtain⟨⟨hl,hb⟩,h⟩:=h
  have f1:=AutoSeq1.idx_int
  have f2:=AutoSeq1.sub_tuple_tuple
  have f3:=AutoSeq1.sub_list_list
  have f4:=AutoSeq1.sub_tuple_list
  have f5:=AutoSeq1.sub_list_tuple
  have big:(items++items2).size≤sizeLine+1:=by rw[Array.size_append];omega
  wp_walk using(wpAny_updateSeq hl rfl (hz:=q1) (_hz':=big)),AutoSeq1.wpAny_loadPart' hl,AutoSeq1.wpAny_loadPart' hb
  exact⟨_,rfl,h⟩
theorem mt_extL:MtR X "list.extend" (rExtL X.K):=by
 intro pins s σ H x vs v us Q I rx rv h
 obtain⟨l,b,xs,zs,rfl,rfl,hH,hB,hz,q⟩:=h
 cases rx
 obtain⟨u,rfl,ru⟩:=rv.one
 cases ru
 obtain⟨z,its,n,r,hl,e⟩:=I.lstM hH
 obtain⟨its2,r2,⟨⟨oc,od,oD,os⟩,n2,e2,c1,c2,c3⟩,z2⟩:=I.list hB
 simp only at c1 c2 c3
 subst c1 c2 c3
 have hl2:=r2.length
 have hsz:its.toArray.size+its2.toArray.size≤sizeLine:=by rw[List.size_toArray,List.size_toArray];omega
 have hlong:¬(!its.toArray.isEmpty&&Builtin.List.listTooLong (its.toArray.size+its2.toArray.size))=true:=by
  rw[notLongL hsz,Bool.and_false]
  exact Bool.false_ne_true
 refine call_meets F.slot_list_extend ⟨_,e,rfl⟩ F.entry_list_extend (F.args_list_extend_2 _ _)
  (ext_any l its.toArray n b its2.toArray n2 os hlong (by rw[List.size_toArray];omega) (by omega)) ⟨⟨e,e2⟩,?_⟩
 refine⟨.non,_,I.lset (its':=its++its2) hH e (by simp) (r.append r2) ?_,rfl,q⟩
 rw[List.length_append]
 omega
noncomputable def sExt (i:Nat)(f:FE):FS:=fun ρ=>match ρ[i]? with
 | some (some (.ow ts))=>(match f ρ with|some (.lst us)=>if ts.length+us.length≤sizeLine then some (.nx (ρ.set i (some (.ow (ts++us))))) else none|_=>none)
 | _=>none
theorem s_ext (hK:z.K=X.K) (i:Nat){x:Str}(hb:PE X (.Call (.Attribute (.Name x p1) "extend" p2) [e] [] p3) (tBM X.K "list" (rExtL X.K) (tVar i) (tCons (tR z f) tNil))):SV X z (.Expr (.Call (.Attribute (.Name x p1) "extend" p2) [e] [] p3) pos) (sExt i f) :=
 PS.imp (ps_expr hb) fun D σ H ⟨ρ,Hq,o,r,e,k⟩=>by
  unfold sExt at e
  split at e
  ·rename_i ts e0
   split at e
   ·rename_i us e1
    split at e
    ·rename_i hl
     cases e
     obtain⟨a,vs,h1,h2,h3,h4,h5⟩:=r.ow i ts e0
     refine⟨_,h1,.inl ⟨rfl,_,SqL.of h4⟩,ρ,Hq,_,r,e1,fun v Hq1 H1 x1 r1=>?_⟩
     have r':=r.ext x1
     obtain⟨a',vs',g1,g2,g3,g4,g5⟩:=r'.ow i ts e0
     rw[h1] at g1
     cases g1
     have:vs'=vs:=by
      have:=x1.all _ _ h4
      rw[g4] at this
      cases this;rfl
     subst this
     obtain⟨b,ws,rfl,q2,q3⟩:=r1.lst x1.sub
     rw[hK] at q2
     refine⟨a,b,vs',ws,rfl,rfl,g4,q2,by rw[← g5.length,← q3.length];exact hl,k σ Hq1 _ (r'.app i e0 h1 g2 g3 g4 (g5.append q3)) x1.q⟩
    ·cases e
   ·cases e
  ·cases e
theorem s_extend (hK:z.K=X.K) (i:Nat){x:Str}(h:ER X z e f)(hN:X.N[i]?=some x:=by rfl)(hv:Vis X.env.scope x:=by first|exact Or.inl rfl|exact Or.inr (Or.inl rfl)|exact Or.inr (Or.inr rfl)) (hd:(x==("__debug__":Str))=false:=by decide) (hcd:(x==("__classdict__":Str))=false:=by decide)
  (hbase:attributeBase (.Name x p1) "extend" X.env (eval (.Name x p1) X.env)=eval (.Name x p1) X.env:=by rfl) (hline:(p2.endLine==p3.line)=true:=by rfl) (hs:starEach [e] X.env=[(false,eval e X.env)]:=by rfl):SV X z (.Expr (.Call (.Attribute (.Name x p1) "extend" p2) [e] [] p3) pos) (sExt i f) :=
 s_ext hK i (pe_bm PySem.F.plainAttrs_list PySem.F.slot_list_extend PySem.F.type_list_extend mt_extL (pe_var hN hv hd hcd) (pa_cons h pa_nil hs) hbase (by rw[hs];rfl) hline hs rfl)
noncomputable def fTru (f:FE):FT:=fun ρ=>match f ρ with|some (.tup ts)=>some !ts.isEmpty|some (.lst ts)=>some !ts.isEmpty|some (.bl b)=>some b|_=>none
theorem et_tru (hK:z.K=X.K)(h:ER X z e f)(he:∀ whole,isTrue e X.env whole=(do let v ← whole;standAt e.pos;holding [v] (truthy v)):=by intro _;rfl):ET X z e (fTru f) :=
 PT.imp (pt_truth h he) fun σ H Q ⟨ρ,Hq,b,r,e,k⟩=>by
  unfold fTru at e
  split at e
  ·rename_i ts e1
   cases e
   refine⟨ρ,Hq,_,r,e1,fun v Hq1 H1 x1 r1=>⟨_,?_,k Hq1 H1 x1⟩⟩
   obtain⟨a,vs,rfl,q1,q2⟩:=r1.tup x1.sub
   rw[hK] at q1
   have hl:=q2.length
   exact .inr (.inl ⟨vs,q1,by cases ts<;>cases vs<;>simp at hl ⊢⟩)
  ·rename_i ts e1
   cases e
   refine⟨ρ,Hq,_,r,e1,fun v Hq1 H1 x1 r1=>⟨_,?_,k Hq1 H1 x1⟩⟩
   obtain⟨a,vs,rfl,q1,q2⟩:=r1.lst x1.sub
   rw[hK] at q1
   have hl:=q2.length
   exact .inl ⟨vs,q1,by cases ts<;>cases vs<;>simp at hl ⊢⟩
  ·rename_i c e1
   cases e
   refine⟨ρ,Hq,_,r,e1,fun v Hq1 H1 x1 r1=>⟨_,?_,k Hq1 H1 x1⟩⟩
   cases r1.bl
   rfl
  ·cases e
noncomputable def idxT (ts:List T)(u:T):Nat:=ts.findIdx fun t=>teq t u
noncomputable def tIndex (t u:T):Option T:=match t with
 | .lst ts=>if (ts.all fun y=>decide (dep y≤60))=true∧idxT ts u<ts.length then some (.int (idxT ts u:Int)) else none
 | _=>none
end
end TL
namespace SR
open PySem PyProof.Rows PySem.W
noncomputable abbrev gal (l:Bool)(key:Keyed)(arr:Array Keyed) (base n hint:Nat):StateT SortSt Sem (Option Nat):=(sortPriv% PySem.Builtin.gallop) l key arr base n hint
noncomputable abbrev mLo (x y:Array Keyed):StateT SortSt Sem (Array Keyed):=(sortPriv% PySem.Builtin.mergeLo) x y
noncomputable def stOf (κ:SortKind)(it:Nat→Keyed)(p:Array Nat)(pd:Array (Nat×Nat×Nat)):SortSt:=SortSt.mk' κ (p.map it) pd 7 none
noncomputable def Orc (prog:Program)(w:World)(A:Around)(s:Shared)(κ:SortKind)(it:Nat→Keyed)(b:Nat→Nat→Bool):Prop :=
 ∀(i j:Nat)(E:Value→Shared→Prop)(C:Bool→Shared→Prop),C (b i j) s→wpAny (model prog w) A (keyLt' κ (it i).1 (it j).1) C E s
section
variable {prog:Program}{w:World}{A:Around}{E:Value→Shared→Prop}{s:Shared}{κ:SortKind}{it:Nat→Keyed}{b:Nat→Nat→Bool}{p:Array Nat}{pd:Array (Nat×Nat×Nat)}
theorem lt_det (O:Orc prog w A s κ it b){i j:Nat}{Q:Option Bool→SortSt→Prop}(h:Q (some (b i j)) (stOf κ it p pd)):wpS (model prog w) A E s (lt' (it i) (it j)) Q (stOf κ it p pd):=by
 rw[lt'_eq]
 refine wpS_bind (wpS_get ?_)
 refine wpS_bind (wpS_lift (wpAny_attempt (O i j _ _ ⟨rfl,?_⟩)))
 exact wpS_pure h
theorem arr_at (h:i<p.size):(arrOf (stOf κ it p pd))[i]?=some (it (p.getD i 0)):=by
 show(p.map it)[i]?=_
 simp [h]
theorem ltAt_det (O:Orc prog w A s κ it b){i j:Nat}{Q:Option Bool→SortSt→Prop}(hi:i<p.size)(hj:j<p.size)(h:Q (some (b (p.getD i 0) (p.getD j 0))) (stOf κ it p pd)):wpS (model prog w) A E s (ltAt' i j) Q (stOf κ it p pd):=by
 rw[ltAt'_eq]
 refine wpS_bind (wpS_get ?_)
 show wpS _ _ _ _ (elem' (arrOf (stOf κ it p pd)) i >>= fun x=>elem' (arrOf (stOf κ it p pd)) j >>= fun y=>lt' x y) Q _
 rw[elem'_eq,elem'_eq,arr_at hi,arr_at hj]
 exact wpS_bind (wpS_pure (wpS_bind (wpS_pure (lt_det O h))))
noncomputable def asc (b:Nat→Nat→Bool)(p:Array Nat) (lo:Nat):Nat→Nat→Nat
 | 0,n=>n
 | f+1,n=>if b (p.getD (lo+n) 0) (p.getD (lo+n - 1) 0) then n else asc b p lo f (n+1)
theorem asc_le (b:Nat→Nat→Bool)(p:Array Nat) (lo:Nat):∀ f n,asc b p lo f n≤n+f
 | 0,n=>Nat.le_refl _
 | f+1,n=>by
   unfold asc
   split
   ·omega
   ·have:=asc_le b p lo f (n+1);omega
end
end SR
namespace SR
open PySem PyProof.Rows PySem.W
section
variable {prog:Program}{w:World}{A:Around}{E:Value→Shared→Prop}{s:Shared}{κ:SortKind}{it:Nat→Keyed}{b:Nat→Nat→Bool}{p:Array Nat}{pd:Array (Nat×Nat×Nat)}
noncomputable def plc (b:Nat→Nat→Bool)(p:Array Nat) (lo k:Nat):Nat→Nat→Nat→Nat
 | 0,l,_=>l
 | f+1,l,r=>if r≤l then l else if b (p.getD (lo+k) 0) (p.getD (lo+(l+r) / 2) 0) then plc b p lo k f l ((l+r) / 2) else plc b p lo k f ((l+r) / 2+1) r
theorem plc_le (b:Nat→Nat→Bool)(p:Array Nat) (lo k:Nat):∀ f l r,l≤k→r≤k→plc b p lo k f l r≤k
 | 0,l,r,h,_=>h
 | f+1,l,r,h,g=>by
   unfold plc
   split
   ·exact h
   ·split
    ·exact plc_le b p lo k f l _ h (by omega)
    ·exact plc_le b p lo k f _ r (by omega) g
noncomputable def bins (b:Nat→Nat→Bool) (lo:Nat):Nat→Nat→Array Nat→Array Nat
 | 0,_,p=>p
 | f+1,k,p=>bins b lo f (k+1) (bubble p (lo+k) (lo+k - (lo+plc b p lo k k 0 k)))
theorem move_det {k l:Nat}{Q:Unit→SortSt→Prop}(h:Q () (stOf κ it (bubble p k (k - l)) pd)):wpS (model prog w) A E s (moveDown' k l) Q (stOf κ it p pd):=by
 rw[moveDown'_eq]
 refine wpS_modify ?_
 have e:bubble (arrOf (stOf κ it p pd)) k (k - l)=(bubble p k (k - l)).map it:=by
  show bubble (p.map it) k (k - l)=_
  unfold bubble
  exact kas_swaps_map it _ _ _ _
 show Q () (setArr (stOf κ it p pd) (bubble (arrOf (stOf κ it p pd)) k (k - l)))
 rw[e]
 exact h
theorem bin_det (O:Orc prog w A s κ it b){lo n ok:Nat}{Q:Bool→SortSt→Prop}(hz:lo+n≤p.size)(hok:ok≤n)
  (h:Q true (stOf κ it (bins b lo (n - max ok 1) (max ok 1) p) pd)):wpS (model prog w) A E s (binarySort' lo n ok) Q (stOf κ it p pd):=by
 rw[binarySort'_eq]
 by_cases hn0:n=0
 ·subst hn0
  rw[show 0 - max ok 1=0 by omega] at h
  refine wpS_bind (wpS_mono (wpS_forRange (I:=fun x c st'=>st'=stOf κ it p pd∧c=(none,())) (Q:=fun c st'=>st'=stOf κ it p pd∧c=(none,())) ?_ (fun _ _ z=>z) ⟨rfl,rfl⟩) ?_)
  ·intro i c st' h1 h2 _;omega
  ·rintro c st' ⟨rfl,rfl⟩
   exact wpS_pure h
 generalize hR:bins b lo (n - max ok 1) (max ok 1) p=R at h
 refine wpS_bind (wpS_mono (wpS_forRange (I:=fun k c st'=>c=(none,())∧∃ q:Array Nat,q.size=p.size∧st'=stOf κ it q pd∧bins b lo (n - k) k q=R)
  (Q:=fun c st'=>c=(none,())∧st'=stOf κ it R pd) ?step ?fin ⟨rfl,p,rfl,rfl,hR⟩) ?post)
 case post =>
  rintro c st' ⟨rfl,rfl⟩
  exact wpS_pure h
 case fin =>
  rintro c st' ⟨rfl,q,hq,rfl,e⟩
  refine⟨rfl,?_⟩
  rw[show n - max (max ok 1) n=0 by omega] at e
  have e':q=R:=e
  rw[e']
 case step =>
  rintro k c st' hk1 hk2 ⟨rfl,q,hq,rfl,e⟩
  obtain⟨f,hf⟩:∃ f,n - k=f+1:=⟨n - k - 1,by omega⟩
  rw[hf] at e
  unfold bins at e
  have hpl:=plc_le b q lo k k 0 k (by omega) (by omega)
  generalize hP:plc b q lo k k 0 k=P at e hpl
  refine wpS_bind (wpS_mono (wpS_forRange (I:=fun x c st'=>st'=stOf κ it q pd∧∃ l r,c=(none,l,r)∧l≤k∧r≤k∧plc b q lo k (k - x) l r=P)
   (Q:=fun c st'=>st'=stOf κ it q pd∧∃ r,c=(none,P,r)) ?istep ?ifin ⟨rfl,0,k,rfl,by omega,by omega,hP⟩) ?ipost)
  case ifin =>
   rintro c st' ⟨rfl,l,r,rfl,hl,hr,e2⟩
   rw[show k - max 0 k=0 by omega] at e2
   have e3:l=P:=e2
   exact⟨rfl,r,by rw[e3]⟩
  case istep =>
   rintro x c st' _ hx ⟨rfl,l,r,rfl,hl,hr,e2⟩
   dsimp only
   obtain⟨g,hg⟩:∃ g,k - x=g+1:=⟨k - x - 1,by omega⟩
   rw[hg] at e2
   unfold plc at e2
   by_cases hge:r≤l
   ·rw[if_pos hge] at e2
    rw[if_pos hge]
    exact wpS_pure ⟨rfl,r,by rw[e2]⟩
   ·rw[if_neg hge] at e2
    rw[if_neg hge]
    refine wpS_bind (ltAt_det O (by omega) (by omega) ?_)
    dsimp only
    cases hb:b (q.getD (lo+k) 0) (q.getD (lo+(l+r) / 2) 0) with
    | true =>
      rw[hb] at e2
      simp only[if_true] at e2 ⊢
      exact wpS_pure ⟨rfl,l,_,rfl,hl,by omega,by rw[show k - (x+1)=g by omega];exact e2⟩
    | false =>
      rw[hb] at e2
      simp only[Bool.false_eq_true,if_false] at e2 ⊢
      exact wpS_pure ⟨rfl,_,r,rfl,by omega,hr,by rw[show k - (x+1)=g by omega];exact e2⟩
  case ipost =>
   rintro c st' ⟨rfl,r,rfl⟩
   dsimp only
   refine wpS_bind (move_det ?_)
   exact wpS_pure ⟨rfl,_,by rw[bubble_size];exact hq,rfl,by rw[show n - (k+1)=f by omega];exact e⟩
end
end SR
namespace SR
open PySem PyProof.Rows PySem.W
section
variable {prog:Program}{w:World}{A:Around}{E:Value→Shared→Prop}{s:Shared}{κ:SortKind}{it:Nat→Keyed}{b:Nat→Nat→Bool}{p:Array Nat}{pd:Array (Nat×Nat×Nat)}
noncomputable def bey (b:Nat→Nat→Bool)(left:Bool) (kk:Nat)(a:Array Nat) (base i:Nat):Bool:=if left then b (a.getD (base+i) 0) kk else !b kk (a.getD (base+i) 0)
theorem elem_det {a:Array Nat}{i:Nat}{Q:Keyed→SortSt→Prop}{st:SortSt}(hi:i<a.size)(h:Q (it (a.getD i 0)) st):wpS (model prog w) A E s (elem' (a.map it) i) Q st:=by
 rw[elem'_eq]
 have:(a.map it)[i]?=some (it (a.getD i 0)):=by simp [hi]
 rw[this]
 exact wpS_pure h
noncomputable def expo (q:Nat→Bool) (mx:Nat):Nat→Nat→Nat→Nat×Nat
 | 0,l,o=>(l,o)
 | f+1,l,o=>if mx≤o then (l,o) else if q o then expo q mx f o (2 * o+1) else (l,o)
noncomputable def bse (q:Nat→Bool):Nat→Nat→Nat→Nat
 | 0,_,hi=>hi
 | f+1,lo,hi=>if hi≤lo then hi else if q (lo+(hi - lo) / 2) then bse q f (lo+(hi - lo) / 2+1) hi else bse q f lo (lo+(hi - lo) / 2)
noncomputable def gp (b:Nat→Nat→Bool)(left:Bool) (kk:Nat)(a:Array Nat) (base n hint:Nat):Nat :=
 if bey b left kk a base hint then
  bse (bey b left kk a base) n (hint+(expo (fun o=>bey b left kk a base (hint+o)) (n - hint) n 0 1).1+1) (hint+min (expo (fun o=>bey b left kk a base (hint+o)) (n - hint) n 0 1).2 (n - hint))
 else
  bse (bey b left kk a base) n (hint+1 - min (expo (fun o=>!bey b left kk a base (hint - o)) (hint+1) n 0 1).2 (hint+1)) (hint - (expo (fun o=>!bey b left kk a base (hint - o)) (hint+1) n 0 1).1)
theorem expo_le (q:Nat→Bool) (mx:Nat):∀ f l o,l<mx→(expo q mx f l o).1<mx
 | 0,l,o,h=>h
 | f+1,l,o,h=>by
   unfold expo
   split
   ·exact h
   ·split
    ·exact expo_le q mx f _ _ (by omega)
    ·exact h
end
end SR
namespace SR
open PySem PyProof.Rows PySem.W
section
variable {prog:Program}{w:World}{A:Around}{E:Value→Shared→Prop}{s:Shared}{κ:SortKind}{it:Nat→Keyed}{b:Nat→Nat→Bool}{p:Array Nat}{pd:Array (Nat×Nat×Nat)}
noncomputable def mrg (b:Nat→Nat→Bool)(x y:Array Nat):Nat→Array Nat→Nat→Nat→Nat→Nat→Option (Array Nat)
 | 0,_,_,_,_,_=>none
 | f+1,out,ia,ib,ac,bc =>
   if b (y.getD ib 0) (x.getD ia 0) then
    if ib+1=y.size then some (out.push (y.getD ib 0)++x.extract ia++y.extract (ib+1))
    else if 7≤bc+1 then none else mrg b x y f (out.push (y.getD ib 0)) ia (ib+1) 0 (bc+1)
   else
    if ia+1+1=x.size then some (out.push (x.getD ia 0)++y.extract ib++x.extract (ia+1))
    else if 7≤ac+1 then none else mrg b x y f (out.push (x.getD ia 0)) (ia+1) ib (ac+1) 0
end
end SR
namespace SR
open PySem PyProof.Rows PySem.W
section
variable {prog:Program}{w:World}{A:Around}{E:Value→Shared→Prop}{s:Shared}{κ:SortKind}{it:Nat→Keyed}{b:Nat→Nat→Bool}{p:Array Nat}
theorem set_det {σ:Type}{st st':σ}{Q:PUnit→σ→Prop}{M:Model}(h:Q ⟨⟩ st'):wpS M A E s (set st':StateT σ Sem PUnit) Q st:=by
 unfold wpS
 rw[StateT.run_set]
 exact wpAny_pure ⟨rfl,h⟩
noncomputable def lay (o:Nat)(R p:Array Nat):Array Nat:=R.toList.zipIdx.foldl (fun a x=>a.setIfInBounds (o+x.2) x.1) p
theorem set_map (it:Nat→Keyed)(a:Array Nat) (i v:Nat):(a.map it).setIfInBounds i (it v)=(a.setIfInBounds i v).map it:=by
 apply Array.ext
 ·simp
 ·intro j h1 h2
  simp [Array.getElem_setIfInBounds]
  try (split<;>simp)
theorem lay_map (it:Nat→Keyed) (o:Nat):∀(l:List Nat) (j:Nat)(p:Array Nat),((l.map it).zipIdx j).foldl (fun a x=>a.setIfInBounds (o+x.2) x.1) (p.map it)=((l.zipIdx j).foldl (fun a x=>a.setIfInBounds (o+x.2) x.1) p).map it
 | [],j,p=>rfl
 | v::l,j,p=>by
   rw[List.map_cons,List.zipIdx_cons,List.zipIdx_cons,List.foldl_cons,List.foldl_cons]
   dsimp only
   rw[set_map]
   exact lay_map it o l (j+1) _
structure Mg (b:Nat→Nat→Bool)(p:Array Nat) (sa na sb nb k nb':Nat)(R:Array Nat):Prop where
 hk:gp b false (p.getD sb 0) p sa na 0=k
 h0:(na - k==0)=false
 hn:gp b true (p.getD (sa+k+(na - k) - 1) 0) p sb nb (nb - 1)=nb'
 h1:(nb'==0)=false
 hle:na - k≤nb'
 x2:2≤(p.extract (sa+k) sb).size
 y2:2≤(p.extract sb (sb+nb')).size
 hR:mrg b (p.extract (sa+k) sb) (p.extract sb (sb+nb')) ((p.extract (sa+k) sb).size+(p.extract sb (sb+nb')).size) #[(p.extract sb (sb+nb')).getD 0 0] 0 1 0 0=some R
 z1:sa+na≤p.size
 z2:sb+nb≤p.size
 n1:0<na
 n2:0<nb
 z3:sa+k+(na - k) - 1<p.size
end
end SR
namespace SR
open PySem PyProof.Rows PySem.W
section
variable {prog:Program}{w:World}{A:Around}{E:Value→Shared→Prop}{s:Shared}{κ:SortKind}{it:Nat→Keyed}{b:Nat→Nat→Bool}{p:Array Nat}
theorem tail1 {n:Nat}{Q:Unit→SortSt→Prop}{st:SortSt}(hp:(pendingOf st).size≤1) (hn:0<n)(h:Q () st) (F:Nat→Option Unit×Unit→StateT SortSt Sem (ForInStep (Option Unit×Unit))) (G:Option Unit×Unit→StateT SortSt Sem Unit)
  (hG:G (none,())=pure ()) (hF:∀ x,wpS (model prog w) A E s (F x (none,())) (fun r st'=>st'=st∧r=.done (none,())) st):wpS (model prog w) A E s (forIn [:n] (none,()) F >>= G) Q st:=by
 refine wpS_bind (wpS_mono (wpS_forRange (I:=fun x c st'=>c=(none,())∧st'=st) (Q:=fun c st'=>c=(none,())∧st'=st) ?_ (fun _ _ z=>z) ⟨rfl,rfl⟩) ?_)
 ·rintro i c st' _ _ ⟨rfl,rfl⟩
  refine wpS_mono (hF i) fun r st'' ⟨e1,e2⟩=>?_
  subst e1;subst e2
  exact⟨rfl,rfl⟩
 ·rintro c st' ⟨rfl,rfl⟩
  rw[hG]
  exact wpS_pure h
end
end SR
namespace SR
open PySem PyProof.Rows PySem.W L2 SeqAt
noncomputable def lexN:List Nat→List Nat→Bool
 | [],[]=>false
 | [],_::_=>true
 | _::_,[]=>false
 | a::as,c::cs=>if a=c then lexN as cs else decide (a<c)
section
variable {prog:Program}{w:World}{A:Around}{E:Value→Shared→Prop}{s:Shared}
theorem ints_len {vs:List Value}{ks:List Nat}(h:IntsAre vs (asInts ks)):vs.length=ks.length:=by
 have:=IntsAre.length h
 simpa [asInts] using this
theorem items_at {x:Addr}{o:Obj}{xs:Array Value}{n:Nat}{Q:Array Value→Shared→Prop}(ho:s.heap.get? x=some o)(hd:o.data=.seq xs n)(h:Q xs s):wpAny (model prog w) A (Builtin.Tuple.tupleItemsOf (.ref x)) Q E s:=by
 exact wpAny_tupleItemsOf ho hd h
theorem tup_lt {x y:Addr}{xs ys:List Value}{ks js:List Nat}{Q:Value→Shared→Prop}(hx:IsTup s.heap x xs.toArray)(hy:IsTup s.heap y ys.toArray)(ix:IntsAre xs (asInts ks)) (iy:IntsAre ys (asInts js)) (hu:A.units<cLine)
  (h:Q (.bool (lexN ks js)) s):wpAny (model prog w) A (richCompare .Lt (.ref x) (.ref y)) Q E s:=by
 obtain⟨ox,hox,hcx,nx,hdx⟩:=hx
 obtain⟨oy,hoy,hcy,ny,hdy⟩:=hy
 have tx:s.TypeIs (.ref x) "tuple":=⟨ox,hox,hcx⟩
 have ty:s.TypeIs (.ref y) "tuple":=⟨oy,hoy,hcy⟩
 refine wpAny_richCompare_same_room (op:=.Lt) (T:="tuple") tx ty PySem.F.slot_tuple_lt (wpAny_call_entry PySem.F.slot_tuple_lt tx PySem.F.entry_tuple_lt ?_ (PySem.F.args_tuple_lt_2 _ _)) hu
 show wpAny _ _ (slotArgs "__lt__" 1 ⟨[.ref x,.ref y],[]⟩ >>= _) _ _ _
 refine wpAny_bind (wpAny_pure ?_)
 dsimp only
 refine wpAny_bind (wpAny_isInstance ty AutoSeq1.sub_tuple_tuple ?_)
 simp only[Bool.not_true,Bool.false_eq_true,if_false]
 refine wpAny_bind (items_at hox hdx ?_)
 refine wpAny_bind (items_at hoy hdy ?_)
 dsimp only
 refine wpAny_bind (wpAny_mono (wpAny_forIn_list _ (fun rest c s'=>c=(none,())∧s'=s∧∃(xs' ys':List Value)(ks' js':List Nat) (d:Nat),rest=xs'.zip ys'∧IntsAre xs' (asInts ks')∧IntsAre ys' (asInts js')∧lexN ks js=lexN ks' js'∧xs.length=d+ks'.length∧ys.length=d+js'.length)
  (fun c s'=>s'=s∧((c=(none,())∧lexN ks js=decide (xs.length<ys.length))∨c=(some (PySem.Fin.done (.ret (.bool (lexN ks js)))),()))) ?turn ?fin _ _ ?init) ?post fun _ _ e=>e)
 case init=>exact⟨rfl,rfl,xs,ys,ks,js,0,by simp,ix,iy,rfl,by rw[ints_len ix];omega,by rw[ints_len iy];omega⟩
 case fin =>
  rintro c s' ⟨rfl,rfl,xs',ys',ks',js',d,e,i1,i2,el,l1,l2⟩
  refine⟨rfl,.inl ⟨rfl,?_⟩⟩
  rw[el]
  have z1:=ints_len i1
  have z2:=ints_len i2
  cases ks' with
  | nil =>
    cases js' with
    | nil=>simp [lexN];simp at l1 l2;omega
    | cons j js'=>simp [lexN];simp at l1 l2;omega
  | cons k ks' =>
    cases js' with
    | nil=>simp [lexN];simp at l1 l2;omega
    | cons j js' =>
      cases xs' with
      | nil=>simp at z1
      | cons u us =>
        cases ys' with
        | nil=>simp at z2
        | cons v vs=>simp at e
 case turn =>
  rintro⟨u,v⟩ rest c s' ⟨rfl,rfl,xs',ys',ks',js',d,e,i1,i2,el,l1,l2⟩
  cases xs' with
  | nil=>simp at e
  | cons u' us =>
    cases ys' with
    | nil=>simp at e
    | cons v' vs =>
      rw[List.zip_cons_cons] at e
      injection e with e1 e2
      injection e1 with e3 e4
      subst e3;subst e4;subst e2
      cases ks' with
      | nil=>cases i1
      | cons k ks' =>
        cases js' with
        | nil=>cases i2
        | cons j js' =>
          cases i1 with
          | cons n t i1 =>
            cases i2 with
            | cons n' t' i2 =>
              dsimp only
              refine wpAny_bind (EqAt.int_int _ t _ t' prog w _ _ ?_)
              by_cases hkj:k=j
              ·subst hkj
               simp only[beq_self_eq_true,Bool.not_true,Bool.false_eq_true,if_false]
               refine wpAny_pure ⟨rfl,rfl,us,vs,ks',js',d+1,rfl,i1,i2,?_,?_,?_⟩
               ·rw[el];simp [lexN]
               ·rw[l1];simp;omega
               ·rw[l2];simp;omega
              ·have hne:((k:Int)==(j:Int))=false:=by simpa using fun z=>hkj (by omega)
               rw[hne]
               simp only[Bool.not_false,if_true]
               refine wpAny_bind (wpAny_rule ?_)
               refine wpAny_bind ?_
               show wpAny _ _ (compareOp .Lt (.int (k:Int) t) (.int (j:Int) t')) _ _ _
               refine wpAny_lt_int ?_
               refine wpAny_bind (wpAny_pure (wpAny_pure ⟨rfl,.inr ?_⟩))
               have:lexN ks js=decide ((k:Int)<(j:Int)):=by rw[el];simp [lexN,hkj]
               rw[this]
 case post =>
  rintro c s' ⟨rfl,(⟨rfl,e⟩|rfl)⟩
  ·dsimp only
   refine wpAny_pure ⟨_,rfl,by simp [Builtin.Tuple.tupleCompareSizes],?_⟩
   have:Builtin.Tuple.tupleCompareSizes .Lt xs.toArray.size ys.toArray.size=.bool (lexN ks js):=by rw[e];rfl
   rw[this]
   exact h
  ·exact wpAny_pure ⟨_,rfl,by simp,h⟩
end
end SR
namespace SR
open PySem PyProof.Rows PySem.W L2 SeqAt
section
variable {prog:Program}{w:World}{A:Around}{E:Value→Shared→Prop}{s:Shared}
theorem lsort_known {a:Addr}{vs:List Value}{n:Nat}{κ:SortKind}{out:Array Value}{P:PySem.Fin→Shared→Prop}(ho:s.heap.get? a=some (seqObj "list" vs.toArray n)) (h2:2≤vs.length)(hv:vs.length≤100000)(hz:out.size≤100000)
  (hrun:∀ s':Shared,(∀ b o,b≠a→s.heap.get? b=some o→s'.heap.get? b=some o)→(∀ Q:SortKind→Shared→Prop,Q κ s'→wpAny (model prog w) A (keyKind' vs.toArray) Q E s') ∧
   wpS (model prog w) A E s' sortRuns' (fun _ st'=>(arrOf st').map (·.2)=out∧failedOf st'=none) (SortSt.mk' κ (pairsOf vs) #[] 7 none))
  (h:P (.done (.ret .none)) {s with heap:=sortedHeap s.heap a vs out}):wpAny (model prog w) A (Builtin.«list.sort» ⟨[.ref a],[]⟩) P E s:=by
 rw[list_sort_plain]
 have ha:=Heap.lt_size ho
 refine wpAny_bind (listItems_at ho rfl (wpAny_bind (listUpdate_at ho rfl ?_ (hsz:=by rw[List.size_toArray,sizeLine_eq];omega))))
 obtain⟨e1,ho1⟩:∃ e1,(s.heap.update a (Obj.mapSeq fun _=>#[])).get? a=some (seqObj "list" #[] e1):=⟨_,get?_update_seq ho (fun _=>#[])⟩
 refine wpAny_bind (seqEpoch_at ho1 rfl (wpAny_bind (wpAny_newTuple (wpAny_bind (wpAny_newList (wpAny_holding ?_))) (hsz:=by show vs.length≤_;rw[sizeLine_eq];omega))))
 have kp1:∀ b,b<s.heap.objs.size→(((s.heap.update a (Obj.mapSeq fun _=>#[])).push (seqObj "tuple" vs.toArray 0)).push (seqObj "list" #[] 0)).get? b=(s.heap.update a (Obj.mapSeq fun _=>#[])).get? b:=fun b hb=>by
  rw[Heap.get?_push_ne _ _ _ (by rw[size_push',Heap.size_update];exact Nat.ne_of_lt (Nat.lt_succ_of_lt hb)),Heap.get?_push_ne _ _ _ (by rw[Heap.size_update];exact Nat.ne_of_lt hb)]
 have ho6:(((s.heap.update a (Obj.mapSeq fun _=>#[])).push (seqObj "tuple" vs.toArray 0)).push (seqObj "list" #[] 0)).get? a=some (seqObj "list" #[] e1):=(kp1 a ha).trans ho1
 show wpAny (model prog w) A _ P E {s with heap:=((s.heap.update a (Obj.mapSeq fun _=>#[])).push (seqObj "tuple" vs.toArray 0)).push (seqObj "list" #[] 0)}
 dsimp only
 have hsz:vs.toArray.size=vs.length:=by simp
 rw[if_neg (by omega),if_neg (by omega)]
 obtain⟨r1,r2⟩:=hrun {s with heap:=((s.heap.update a (Obj.mapSeq fun _=>#[])).push (seqObj "tuple" vs.toArray 0)).push (seqObj "list" #[] 0)} fun b o hb e=>by
  rw[kp1 b (Heap.lt_size e),Heap.get?_update_ne _ _ _ _ hb];exact e
 refine wpAny_bind (r1 _ ?_)
 refine wpAny_bind (wpAny_mono r2 ?_ fun _ _ e=>e)
 rintro⟨⟨⟩,st'⟩ s' ⟨rfl,e2,e3⟩
 dsimp only at e2 e3 ⊢
 rw[e2,e3]
 refine wpAny_bind (seqEpoch_at ho6 rfl ?_)
 refine wpAny_bind (listUpdate_at ho6 rfl ?_ (hsz2:=by rw[sizeLine_eq];omega))
 simp only[bne_self_eq_false,Bool.false_eq_true,if_false]
 exact wpAny_pure h
end
end SR
namespace SR
open PySem PyProof.Rows PySem.W L2 SeqAt
theorem tup_keep {h h':Heap}{a:Addr}{its:Array Value}(k:∀ b o,h.get? b=some o→h'.get? b=some o)(x:IsTup h a its):IsTup h' a its:=by
 obtain⟨o,e,r⟩:=x
 exact⟨o,k _ _ e,r⟩
section
variable {prog:Program}{w:World}{A:Around}{E:Value→Shared→Prop}{s:Shared}
theorem ints_inj:∀{vs:List Value}{ns ms:List Int},IntsAre vs ns→IntsAre vs ms→ns=ms
 | _,_,_,.nil,.nil=>rfl
 | _,_,_,.cons n t h,.cons _ _ g=>by rw[ints_inj h g]
theorem asInts_inj:∀{a b:List Nat},asInts a=asInts b→a=b
 | [],[],_=>rfl
 | [],_::_,h=>by simp [asInts] at h
 | _::_,[],h=>by simp [asInts] at h
 | x::a,y::b,h=>by
   have h':((x:Nat):Int)::asInts a=((y:Nat):Int)::asInts b:=h
   injection h' with h1 h2
   rw[asInts_inj h2,show x=y by omega]
theorem eq_tup {x y:Addr}{xs ys:List Value}{ks js:List Nat}(hx:IsTup s.heap x xs.toArray)(hy:IsTup s.heap y ys.toArray)(ix:IntsAre xs (asInts ks)) (iy:IntsAre ys (asInts js)) (hu:A.units<cLine) :
  EqAt A s (.ref x) (.ref y) (decide (ks=js)):=by
 by_cases hxy:x=y
 ·subst hxy
  obtain⟨o1,e1,c1,n1,d1⟩:=hx
  obtain⟨o2,e2,c2,n2,d2⟩:=hy
  rw[e1] at e2;cases e2
  rw[d1] at d2
  have:xs=ys:=by injection d2 with z;simpa using z
  subst this
  have:ks=js:=asInts_inj (ints_inj ix iy)
  subst this
  have e:decide (ks=ks)=true:=by simp
  rw[e]
  exact EqAt.same _
 ·have l1:=ints_len ix
  have l2:=ints_len iy
  have:=RcAt.tuples (A:=A) (e:=fun j=>ks.getD j 0==js.getD j 0) hx hy hu fun j h1 h2=>by
   have h1':j<xs.length:=by simpa using h1
   have h2':j<ys.length:=by simpa using h2
   obtain⟨t,e1⟩:=IntsAre.int_at ix j xs[j] (List.getElem?_eq_getElem h1')
   obtain⟨u,e2⟩:=IntsAre.int_at iy j ys[j] (List.getElem?_eq_getElem h2')
   have g1:(asInts ks).getD j 0=((ks.getD j 0:Nat):Int):=by simp [asInts,show j<ks.length by omega]
   have g2:(asInts js).getD j 0=((js.getD j 0:Nat):Int):=by simp [asInts,show j<js.length by omega]
   rw[List.getElem_toArray,List.getElem_toArray,e1,e2,g1,g2]
   have:=EqAt.int_int (A:=A.in1) (s:=s) ((ks.getD j 0:Nat):Int) t ((js.getD j 0:Nat):Int) u
   have eb:(((ks.getD j 0:Nat):Int)==((js.getD j 0:Nat):Int))=(ks.getD j 0==js.getD j 0):=by rw[Bool.eq_iff_iff];simp;omega
   rw[← eb];exact this
  have ee:((List.range (min xs.toArray.size ys.toArray.size)).all (fun j=>ks.getD j 0==js.getD j 0)&&xs.toArray.size==ys.toArray.size)=decide (ks=js):=by
   rw[Bool.eq_iff_iff]
   simp only[List.size_toArray,l1,l2,Bool.and_eq_true,List.all_eq_true,List.mem_range,beq_iff_eq,decide_eq_true_eq]
   constructor
   ·rintro⟨h1,h2⟩
    apply List.ext_getElem h2
    intro i q1 q2
    have:=h1 i (by omega)
    simpa [q1,q2] using this
   ·rintro rfl
    exact⟨fun _ _=>rfl,rfl⟩
  rw[ee] at this
  exact EqAt.of_refs hxy this
end
end SR
namespace SR
open PySem PyProof.Rows PySem.W L2 SeqAt
noncomputable def q1 (b:Nat→Nat→Bool):Array Nat:=bins b 0 (32 - max (asc b (Array.range 64) 0 63 1) 1) (max (asc b (Array.range 64) 0 63 1) 1) (Array.range 64)
noncomputable def q2 (b:Nat→Nat→Bool):Array Nat:=bins b 32 (32 - max (asc b (q1 b) 32 31 1) 1) (max (asc b (q1 b) 32 31 1) 1) (q1 b)
section
variable {prog:Program}{w:World}{A:Around}{E:Value→Shared→Prop}{s:Shared}{κ:SortKind}{it:Nat→Keyed}
end
end SR
namespace TL
open PySem L2 SR
noncomputable def unR:List T→Option (List Nat)
 | []=>some []
 | .int i::r=>if 0≤i then (unR r).map (i.toNat::·) else none
 | _=>none
theorem unR_eq:∀{ts:List T}{ks:List Nat},unR ts=some ks→ts=ks.map fun(i:Nat)=>T.int (i:Int)
 | [],ks,h=>by simp [unR] at h;subst h;rfl
 | t::ts,ks,h=>by
   cases t with
   | int i =>
     simp only[unR] at h
     split at h
     ·rename_i hi
      obtain⟨js,h1,h2⟩:=Option.map_eq_some_iff.mp h
      subst h2
      rw[unR_eq h1,List.map_cons,Int.toNat_of_nonneg hi]
     ·cases h
   | _=>simp [unR] at h
theorem repL_maps {K:PySem.W.Frag}{H:Hp}{f:Nat→T}{g:Nat→V}:∀(l:List Nat),(∀ i∈l,Rep K H (f i) (g i))→RepL K H (l.map f) (l.map g)
 | [],_=>.nil
 | i::l,h=>.cons (h i List.mem_cons_self) (repL_maps l fun j hj=>h j (List.mem_cons_of_mem _ hj))
theorem vals_maps {f:Nat→V}{g:Nat→Value}:∀(l:List Nat),(∀ i∈l,RelV (f i) (g i))→Vals (l.map f) (l.map g)
 | [],_=>.nil
 | i::l,h=>.cons (h i List.mem_cons_self) (vals_maps l fun j hj=>h j (List.mem_cons_of_mem _ hj))
section
variable {X:Cx}{z:Z}{e:Expr}{f:FE}{p pos:Pos}
end
end TL
namespace TL
open PySem L2 SR
noncomputable def pickT {α:Type}(xs:List α)(lo hi st:Option Int):List α :=
 (sliceRange (sliceBounds lo hi st xs.length).1 (sliceBounds lo hi st xs.length).2.1 (sliceBounds lo hi st xs.length).2.2).filterMap (xs[·]?)
noncomputable def fPick (f:FE)(lo hi st:FO):FA:=fun ρ=>match f ρ with
 | some (.lst ts)=>(match lo ρ with
   | some l=>(match hi ρ with
     | some h=>(match st ρ with
       | some (some k)=>if k≠0∧(pickT ts l h (some k)).length≤sizeLine then some (pickT ts l h (some k)) else none
       | _=>none)
     | none=>none)
   | none=>none)
 | _=>none
section
variable {X:Cx}{z:Z}{e:Expr}{f:FE}{p pos:Pos}
noncomputable def srt (ks:List Nat):List Nat:=ks.mergeSort fun a b=>decide (a≤b)
noncomputable def fSortI (f:FE):FA:=fun ρ=>match f ρ with
 | some (.lst ts)=>(match unR ts with|some ks=>if ks.length<64 then some ((srt ks).map fun(i:Nat)=>T.int (i:Int)) else none|none=>none)
 | _=>none
end
end TL
namespace TL
open PySem L2 SR
section
variable {X:Cx}{z:Z}{F G:FS}{e:Expr}{f g:FE}{fa:FA}{pos:Pos}
noncomputable def unN:T→Option (List Nat)
 | .tup ts=>unR ts
 | _=>none
theorem asInts_inj {k l:List Nat}(h:asInts k=asInts l):k=l:=List.map_inj_right (f:=fun(n:Nat)=>(n:Int)) (fun x y z=>by omega) |>.mp h
theorem unN_rep {K:PySem.W.Frag}{H:Hp}{t:T}{k:List Nat}{v:V}(h:unN t=some k)(r:Rep K H t v):∃ a,v=.ref a∧SqT K H a (vInts k):=by
 cases t with
 | tup ts =>
   have e:=unR_eq (show unR ts=some k from h)
   unfold Rep at r
   obtain⟨a,vs,rfl,h2,h3⟩:=r
   have e2:(k.map fun(i:Nat)=>T.int (i:Int))=(asInts k).map T.int:=by simp [asInts]
   rw[e,e2] at h3
   have:vs=vInts k:=by rw[RepL.ints.mp h3];simp [asInts,vInts]
   subst this
   exact⟨a,rfl,h2⟩
 | _=>simp [unN] at h
theorem items_ints {knd:KeyKind X.prog X.w Int}(hk:knd.is=Value.isInt):∀{k:List Nat}{its:List Value},Vals (vInts k) its→ItemsAre knd (asInts k) its
 | [],its,h=>by cases h;exact .nil
 | n::k,its,h=>by
   have h:Vals (V.int (n:Int)::vInts k) its:=h
   cases h with
   | cons h1 h2 =>
     obtain⟨t,rfl⟩:=h1
     exact .cons (by rw[hk];simp [Value.isInt]) (items_ints hk h2)
theorem key_at {pins:List (Addr×Obj)}{σ:L2.St}{H:Hp}{s:Shared}(I:Inv X pins σ H s){a:Addr}{k:List Nat}(h:SqT X.K H a (vInts k)):(tupleKind (intKind X.prog X.w)).is s.heap (asInts k) a:=by
 obtain⟨its,r,⟨o,h1,h2,n,h3⟩,_⟩:=I.tuple h
 exact⟨o,its.toArray,n,h1,h2,h3,by simpa using items_ints rfl r⟩
end
end TL
namespace TL
open PySem L2 SR
noncomputable def bmVE:List Value:=[.type "ValueError",.type "Exception",.type "BaseException",.type "object"]
noncomputable def isStrV:Value→Bool
 | .str _ _=>true
 | _=>false
noncomputable def nsB (K:PySem.W.Frag)(N:Addr):Bool:=match K.lookup N with
 | some ⟨_,_,.dict es _,_⟩=>es.toList.all (fun e=>isStrV e.key)&&(nsFind es "__init__").isNone
 | _=>false
noncomputable def tailB (K:PySem.W.Frag):List Value→Bool
 | .ref A::tl=>(match K.lookup A with|some ⟨_,_,.cls cd,_⟩=>nsB K cd.ns|_=>false)&&tailB K tl
 | l=>l==bmVE
noncomputable def excB (K:PySem.W.Frag)(C:Addr):Bool:=match K.lookup C with
 | some ⟨.type "type",_,.cls cd,sl⟩=>(match cd.mro,sl.toList with
   | .ref C'::bm,[_,_,_,_,some (.builtin n),_]=>C'==C&&!cd.hasDel&&n=="ValueError.__new__"&&nsB K cd.ns&&tailB K bm
   | _,_=>false)
 | _=>false
section
variable {X:Cx}{pins:List (Addr×Obj)}{σ:L2.St}{H:Hp}{s:Shared}
structure Chg (S:List Addr)(N:Addr→Prop)(h h':Heap):Prop where
 keep:∀ b o,h.get? b=some o→¬ N b→b∉S→h'.get? b=some o
 slot:∀ b o,h.get? b=some o→b∈S→¬ N b→∃ sl,h'.get? b=some {o with slots:=sl}
noncomputable def Flt (N:Addr→Prop)(ea C:Addr)(fl:Value)(h:Heap):Prop:=N ea∧∃ oe vs T oT ts,h.get? ea=some oe∧(oe.cls=.ref C∧oe.dict=none)∧oe.data=.fields vs∧vs[1]?=some (.ref T)∧vs[2]?=some .none∧T≠ea∧N T∧h.get? T=some oT∧oT.data=.fields ts∧ts[3]?=some fl
inductive OutX where
 | ok (o:Out)|xc (ρ:Rho) (c:Str)
noncomputable abbrev FX:=Rho→Option OutX
noncomputable def FinX (z:Z)(kx:Addr→L2.St→Hp→Prop)(Hq:Hp)(D:Ends):OutX→Prop
 | .ok o=>Fin z Hq D o
 | .xc ρ' c=>∀ σ' Hq' H',Rn z σ' ρ' Hq' H'→Same Hq Hq'→kx (clsAt z.K c) σ' H'
noncomputable def tX (z:Z)(F:FX)(kx:Addr→L2.St→Hp→Prop):TS:=fun D σ H=>∃ ρ Hq o,Rn z σ ρ Hq H∧F ρ=some o∧FinX z kx Hq D o
noncomputable def XV (X:Cx)(pins:List (Addr×Obj)) (kx:Addr→L2.St→Hp→Prop)(z:Z)(st:Stmt)(F:FX):Prop:=∀ s σ H D,Inv X pins σ H s→tX z F kx D σ H→wpAny (model X.prog X.w) X.A (exec st X.env) (SP X pins D) X.xe s
noncomputable def XVs (X:Cx)(pins:List (Addr×Obj)) (kx:Addr→L2.St→Hp→Prop)(z:Z)(st:List Stmt)(F:FX):Prop:=∀ s σ H D,Inv X pins σ H s→tX z F kx D σ H→wpAny (model X.prog X.w) X.A (execs st X.env) (SP X pins D) X.xe s
end
end TL
namespace TL
open PySem L2 SR
section
variable {X:Cx}{pins:List (Addr×Obj)}{σ:L2.St}{H:Hp}{s:Shared}
end
noncomputable def subB (c d:Str):Bool:=c==d||d==("MarkError":Str)
structure Er (cs:List Str)(K:PySem.W.Frag)(mg:Str→Option Value):Prop where
 mg:∀ c∈cs,mg c=some (.ref (clsAt K c))
 ex:∀ c∈cs,excB K (clsAt K c)=true
 v:∀ c∈cs,PySem.W.kitOne K (.ref (clsAt K c)) (.type "ValueError")=some true
 m:∀ c∈cs,∀ d∈cs,PySem.W.exmOne K (.ref (clsAt K c)) (.ref (clsAt K d))=some (subB c d)
 k:∀ c∈cs,∀ d∈cs,PySem.W.kitOne K (.ref (clsAt K c)) (.ref (clsAt K d))=some (subB c d)
 i:∀ c∈cs,∀(x:Addr)(ox:Obj),PySem.W.KitX K (.ref x) (.ref (clsAt K c)) (fun h=>PySem.W.InstAt h x ox (clsAt K c) none)
section
variable {X:Cx}{pins:List (Addr×Obj)}{σ:L2.St}{H:Hp}{s:Shared}{z:Z}
noncomputable def Landed (X:Cx)(pins:List (Addr×Obj)) (σ:L2.St)(H':Hp)(s':Shared)(h:Heap)(ea C:Addr):Prop:=∃ s0 H0,Inv X pins σ H0 s0∧s'.os=s0.os∧PyProof.Rows.AllBare s'.gens∧Un (frs X.stack) [] H0 H' s0.heap s'.heap∧HOk X.prog X.w H' s'.heap ∧
 Chg (frs X.stack) (fun b=>s0.heap.get? b=none∧H' b=none) s'.heap h∧Flt (fun b=>s0.heap.get? b=none∧H' b=none) ea C .none h
noncomputable def HJ (X:Cx)(z:Z)(hs:List ExceptHandler)(F:Str→FS):Prop:=∀ pins σ H D (s':Shared)(h:Heap) ea c ρ Hq o,Landed X pins σ H s' h ea (clsAt z.K c)→Rn z σ ρ Hq H→F c ρ=some o→Fin z Hq D o →
 wpAny (model X.prog X.w) X.A (handleBy (.ref ea) X.env hs) (SP X pins D) X.xe {s' with heap:=h}
end
end TL
namespace TL
open PySem L2 SR
section
variable {X:Cx}{z:Z}{a b:Expr}{f g:FE}{p2 p3:Pos}
end
section
variable {X:Cx}{pins:List (Addr×Obj)}{z:Z}{kx:Addr→L2.St→Hp→Prop}
noncomputable def sNo:FS:=fun _=>none
theorem s_no {st:Stmt}:SV X z st sNo:=fun _ _ _ _ _ _ ⟨_,_,_,_,e,_⟩=>nomatch e
end
section
variable {P:Program}{w:World}{K:PySem.W.Frag}{mg:Str→Option Value}{base:Heap}
end
end TL
namespace TL
open PySem L2
section
variable {X:Cx}{pins:List (Addr×Obj)}{σ:L2.St}{H:Hp}{s:Shared}
end
section
variable {z:Z}{σ:L2.St}{ρ:Rho}{Hq H:Hp}
end
end TL
namespace TL
open PySem L2
section
variable {X:Cx}{z:Z}{f g:FE}{fa:FA}{pos:Pos}
end
section
variable {X:Cx}{z:Z}{pos:Pos}
end
section
variable {P:Program}{w:World}{K:PySem.W.Frag}{mg:Str→Option Value}{base:Heap}
end
section
variable {X:Cx}{z:Z}{pos:Pos}
open Classical in
end
section
variable {P:Program}{w:World}{K:PySem.W.Frag}{mg:Str→Option Value}{base:Heap}
end
end TL
namespace TL
open PySem L2
section
variable {X:Cx}{z:Z}{e:Expr}{f:FE}{pos:Pos}
end
noncomputable def XR (X:Cx)(pins:List (Addr×Obj)) (kx:Addr→L2.St→Hp→Prop)(z:Z)(e:Expr)(G:Rho→Option Str):Prop :=
 ∀(s:Shared)(σ:L2.St)(H:Hp)(ρ:Rho)(Hq:Hp) (c:Str)(Q:Value→Shared→Prop),Inv X pins σ H s→Rn z σ ρ Hq H→G ρ=some c→(∀ Hq' H',Rn z σ ρ Hq' H'→Same Hq Hq'→kx (clsAt z.K c) σ H')→wpAny (model X.prog X.w) X.A (eval e X.env) Q X.xe s
section
variable {X:Cx}{pins:List (Addr×Obj)}{z:Z}{kx:Addr→L2.St→Hp→Prop}{pos:Pos}
end
section
variable {P:Program}{w:World}{K:PySem.W.Frag}{mg:Str→Option Value}{base:Heap}
end
section
variable {X:Cx}{z:Z}
end
end TL
namespace TL
open PySem L2
section
variable {ρ ρ':Rho}{i n:Nat}{c f m:Str}{fl fl':List (Str×T)}{t:T}{ts:List T}{a:Addr}{F:FS}{r:Rho}
end
end TL
namespace TL
open PySem L2 SR
noncomputable def advM (m:Nat)(p:SetTable.Probe):SetTable.Probe :=
 if p.more>0 then {p with j:=p.j+1,more:=p.more - 1} else
 let q:=SetTable.leap m p.i p.perturb
 {p with j:=q.1,more:=SetTable.runEnd m q.1 - q.1,i:=q.1,perturb:=q.2}
noncomputable def jsM (m:Nat):Nat→SetTable.Probe→List Nat
 | 0,_=>[]
 | n+1,p=>p.j::jsM m n (advM m p)
noncomputable def startM (m:Nat) (h:Int):SetTable.Probe:={j:=SetTable.bits h % (m+1),more:=SetTable.runEnd m (SetTable.bits h % (m+1)) - SetTable.bits h % (m+1),i:=SetTable.bits h % (m+1),perturb:=SetTable.bits h,dummy:=none}
theorem start_eq (t:SetTable) (h:Int):t.probeStart h=startM t.mask h:=rfl
noncomputable def runsM (m:Nat):Nat→Nat→Nat→List Nat
 | 0,_,_=>[]
 | n+1,i,p=>(List.range (SetTable.runEnd m i+1 - i)).map (i+·)++runsM m n (SetTable.leap m i p).1 (SetTable.leap m i p).2
noncomputable def roadM (m:Nat)(r:List Nat):List Nat:=runsM m (SetTable.turns m) (SetTable.bits (tupH r) % (m+1)) (SetTable.bits (tupH r))
noncomputable def bitsOf:List Nat→Nat
 | []=>0
 | j::l=>(1 <<< j) ||| bitsOf l
theorem bits_mem:∀(l:List Nat) (j:Nat),(bitsOf l).testBit j=true→j∈l
 | [],j,h=>by simp [bitsOf] at h
 | k::l,j,h=>by
   rw[bitsOf,Nat.testBit_or,Bool.or_eq_true] at h
   rcases h with h|h
   ·rw[Nat.one_shiftLeft,Nat.testBit_two_pow,decide_eq_true_eq] at h
    subst h;exact List.mem_cons_self
   ·exact List.mem_cons_of_mem _ (bits_mem l j h)
noncomputable def orb (m:Nat):Nat→Nat→List Nat
 | 0,_=>[]
 | n+1,i=>i::orb m n ((i * 5+1) % (m+1))
noncomputable def masks:List Nat:=[7,31,127]
theorem orb_all:(masks.all fun m=>(List.range (m+1)).all fun i=>bitsOf (orb m (m+1) i)==2 ^ (m+1) - 1)=true:=by decide +kernel
theorem orb_mem {m:Nat}(hm:m∈masks){i j:Nat}(hi:i≤m)(hj:j≤m):j∈orb m (m+1) i:=by
 have:=List.all_eq_true.mp (List.all_eq_true.mp orb_all m hm) i (List.mem_range.mpr (by omega))
 refine bits_mem _ _ ?_
 rw[eq_of_beq this,Nat.testBit_two_pow_sub_one]
 exact decide_eq_true (by omega)
theorem runs_head {m n i p:Nat}:i∈runsM m (n+1) i p:=by
 rw[runsM]
 refine List.mem_append.mpr (.inl (List.mem_map.mpr ⟨0,List.mem_range.mpr ?_,rfl⟩))
 unfold SetTable.runEnd
 split<;>omega
theorem runs_orb (m:Nat):∀(n i:Nat),∀ j∈orb m n i,j∈runsM m n i 0
 | 0,i,j,h=>by simp [orb] at h
 | n+1,i,j,h=>by
   rw[orb,List.mem_cons] at h
   rcases h with rfl|h
   ·exact runs_head
   ·rw[runsM]
    refine List.mem_append.mpr (.inr ?_)
    have e:SetTable.leap m i 0=((i * 5+1) % (m+1),0):=by simp [SetTable.leap]
    rw[e]
    exact runs_orb m n _ j h
theorem runs_late (m n k:Nat):∀(c i p:Nat),p<32 ^ c→(∀ i',i'≤m→k∈runsM m n i' 0)→i≤m→k∈runsM m (n+c) i p
 | 0,i,p,hp,h,hi=>by
   have:p=0:=by simpa using hp
   subst this
   exact h i hi
 | c+1,i,p,hp,h,hi=>by
   rw[show n+(c+1)=(n+c)+1 from rfl,runsM]
   refine List.mem_append.mpr (.inr (runs_late m n k c _ _ ?_ h ?_))
   ·show p / 32<32 ^ c
    rw[Nat.pow_succ] at hp
    omega
   ·show(i * 5+1+p / 32) % (m+1)≤m
    have:=Nat.mod_lt (i * 5+1+p / 32) (show 0<m+1 by omega)
    omega
theorem bits_lt (h:Int):SetTable.bits h<2 ^ 64:=by
 unfold SetTable.bits
 omega
theorem road_all {m:Nat}(hm:m∈masks)(r:List Nat){j:Nat}(hj:j≤m):j∈roadM m r:=by
 unfold roadM
 rw[show SetTable.turns m=((m+1)+1)+13 from by unfold SetTable.turns;omega]
 refine runs_late m ((m+1)+1) j 13 _ _ (Nat.lt_of_lt_of_le (bits_lt _) (by decide)) (fun i' hi'=>?_) (by have:=Nat.mod_lt (SetTable.bits (tupH r)) (show 0<m+1 by omega);omega)
 have:=runs_orb m (m+1) i' j (orb_mem hm hi' hj)
 have mono:∀(n i p:Nat),j∈runsM m n i p→j∈runsM m (n+1) i p:=by
  intro n
  induction n with
  | zero=>intro i p h;simp [runsM] at h
  | succ n ih =>
    intro i p h
    rw[runsM] at h ⊢
    rcases List.mem_append.mp h with h|h
    ·exact List.mem_append.mpr (.inl h)
    ·exact List.mem_append.mpr (.inr (ih _ _ h))
 exact mono _ _ _ this
theorem runs_le (m:Nat):∀(n i p:Nat),i≤m→∀ j∈runsM m n i p,j≤m
 | 0,i,p,_,j,h=>by simp [runsM] at h
 | n+1,i,p,hi,j,h=>by
   rw[runsM] at h
   rcases List.mem_append.mp h with h|h
   ·obtain⟨k,hk,rfl⟩:=List.mem_map.mp h
    have:=List.mem_range.mp hk
    unfold SetTable.runEnd at this
    split at this<;>omega
   ·refine runs_le m n _ _ ?_ j h
    have:=Nat.mod_lt (i * 5+1+p / 32) (show 0<m+1 by omega)
    show(i * 5+1+p / 32) % (m+1)≤m
    omega
theorem road_le {m:Nat}{r:List Nat}{j:Nat}(h:j∈roadM m r):j≤m:=runs_le m _ _ _ (by have:=Nat.mod_lt (SetTable.bits (tupH r)) (show 0<m+1 by omega);omega) j h
theorem js_run (m N:Nat)(d:Option Nat):∀(k j i p:Nat),jsM m (k+1+N) {j:=j,more:=k,i:=i,perturb:=p,dummy:=d}=(List.range (k+1)).map (j+·)++jsM m N {j:=(SetTable.leap m i p).1,more:=SetTable.runEnd m (SetTable.leap m i p).1 - (SetTable.leap m i p).1,i:=(SetTable.leap m i p).1,perturb:=(SetTable.leap m i p).2,dummy:=d}
 | 0,j,i,p=>by
   rw[show 0+1+N=N+1 by omega,jsM]
   rfl
 | k+1,j,i,p=>by
   rw[show k+1+1+N=(k+1+N)+1 by omega,jsM]
   have e:advM m {j:=j,more:=k+1,i:=i,perturb:=p,dummy:=d}={j:=j+1,more:=k,i:=i,perturb:=p,dummy:=d}:=by unfold advM;simp
   rw[e,js_run m N d k (j+1) i p,List.range_succ_eq_map (n:=k+1),List.map_cons,List.map_map]
   simp only[Nat.add_zero,List.cons_append,List.cons.injEq,true_and]
   congr 1
   apply List.map_congr_left
   intro a _
   simp only[Function.comp]
   omega
theorem js_runs (m:Nat)(d:Option Nat):∀(n N i p:Nat),10 * n≤N→∃ rest,jsM m N {j:=i,more:=SetTable.runEnd m i - i,i:=i,perturb:=p,dummy:=d}=runsM m n i p++rest
 | 0,N,i,p,_=>⟨_,rfl⟩
 | n+1,N,i,p,h=>by
   have hk:SetTable.runEnd m i - i≤9∧i≤SetTable.runEnd m i:=by unfold SetTable.runEnd;split<;>omega
   obtain⟨rest,e⟩:=js_runs m d n (N - (SetTable.runEnd m i - i+1)) (SetTable.leap m i p).1 (SetTable.leap m i p).2 (by omega)
   refine⟨rest,?_⟩
   have:=js_run m (N - (SetTable.runEnd m i - i+1)) d (SetTable.runEnd m i - i) i i p
   rw[show SetTable.runEnd m i - i+1+(N - (SetTable.runEnd m i - i+1))=N by omega,e] at this
   rw[this,runsM,List.append_assoc,show SetTable.runEnd m i+1 - i=SetTable.runEnd m i - i+1 by omega]
theorem js_road (m:Nat)(r:List Nat):∃ rest,jsM m (10 * SetTable.turns m) (startM m (tupH r))=roadM m r++rest:=js_runs m none _ _ _ _ (Nat.le_refl _)
theorem hash_nd:(subs6.map tupH).Nodup:=by decide +kernel
theorem nd_inj {α β:Type}{f:α→β}:∀{l:List α},(l.map f).Nodup→∀{a b:α},a∈l→b∈l→f a=f b→a=b
 | [],_,_,_,h,_,_=>nomatch h
 | x::l,hn,a,b,ha,hb,e=>by
   rw[List.map_cons,List.nodup_cons] at hn
   rcases List.mem_cons.mp ha with h1|h1
   ·rcases List.mem_cons.mp hb with h2|h2
    ·rw[h1,h2]
    ·exact(hn.1 (List.mem_map.mpr ⟨b,h2,by rw[← e,h1]⟩)).elim
   ·rcases List.mem_cons.mp hb with h2|h2
    ·exact(hn.1 (List.mem_map.mpr ⟨a,h1,by rw[e,h2]⟩)).elim
    ·exact nd_inj hn.2 h1 h2 e
theorem hash_inj {r r':List Nat}(h:r∈subs6)(h':r'∈subs6)(e:tupH r=tupH r'):r=r':=nd_inj hash_nd h h' e
end TL
namespace TL
open PySem L2 SR
theorem sub_len {α:Type} [DecidableEq α]:∀{l l':List α},l.Nodup→(∀ x∈l,x∈l')→l.length≤l'.length
 | [],l',_,_=>Nat.zero_le _
 | x::l,l',hn,h=>by
   rw[List.nodup_cons] at hn
   have hx:=h x List.mem_cons_self
   have:=sub_len (l:=l) (l':=l'.erase x) hn.2 fun y hy=>(List.mem_erase_of_ne (fun e:y=x=>hn.1 (e▸hy))).mpr (h y (List.mem_cons_of_mem _ hy))
   rw[List.length_erase_of_mem hx] at this
   have:=List.length_pos_of_mem hx
   rw[List.length_cons]
   omega
theorem first_not {α:Type} [DecidableEq α] (S:List α):∀(l:List α),(∃ x∈l,x∉S)→∃ pre j post,l=pre++j::post∧j∉S∧∀ y∈pre,y∈S
 | [],h=>by obtain⟨x,h,_⟩:=h;cases h
 | y::l,h=>by
   by_cases hy:y∈S
   ·obtain⟨pre,j,post,e,h1,h2⟩:=first_not S l (by
     obtain⟨x,hx,hs⟩:=h
     rcases List.mem_cons.mp hx with rfl|hx
     ·exact absurd hy hs
     ·exact⟨x,hx,hs⟩)
    refine⟨y::pre,j,post,by rw[e];rfl,h1,fun z hz=>?_⟩
    rcases List.mem_cons.mp hz with rfl|hz
    ·exact hy
    ·exact h2 z hz
   ·exact⟨[],y,l,rfl,hy,fun z hz=>nomatch hz⟩
noncomputable def Rise (l:List Nat):Prop:=l.Pairwise (·<·)
theorem rise_get {l:List Nat}(h:Rise l){a b:Nat}{x y:Nat}(hab:a<b)(ha:l[a]?=some x)(hb:l[b]?=some y):x<y:=by
 obtain⟨h1,rfl⟩:=List.getElem?_eq_some_iff.mp ha
 obtain⟨h2,rfl⟩:=List.getElem?_eq_some_iff.mp hb
 exact List.pairwise_iff_getElem.mp h a b h1 h2 hab
theorem below_go {l:List Nat}(h:Rise l) (j:Nat):∀(fuel lo hi:Nat),lo≤hi→hi≤l.length→hi - lo≤fuel→(∀(i x:Nat),i<lo→l[i]?=some x→x<j)→(∀(i x:Nat),hi≤i→l[i]?=some x→j≤x) →
  SetTable.below.go l.toArray j fuel lo hi≤l.length∧(∀(i x:Nat),i<SetTable.below.go l.toArray j fuel lo hi→l[i]?=some x→x<j)∧∀(i x:Nat),SetTable.below.go l.toArray j fuel lo hi≤i→l[i]?=some x→j≤x
 | 0,lo,hi,h1,h2,h3,h4,h5=>by
   unfold SetTable.below.go
   exact⟨by omega,h4,fun i x hi'=>h5 i x (by omega)⟩
 | fuel+1,lo,hi,h1,h2,h3,h4,h5=>by
   unfold SetTable.below.go
   split
   ·rename_i hlt
    dsimp only
    have hm:(lo+hi) / 2<l.length:=by omega
    have hg:l.toArray.getD ((lo+hi) / 2) j=l[(lo+hi) / 2]:=by simp [Array.getD,hm]
    have hs:l[(lo+hi) / 2]?=some l[(lo+hi) / 2]:=List.getElem?_eq_getElem hm
    rw[hg]
    split
    ·rename_i hc
     refine below_go h j fuel _ hi (by omega) h2 (by omega) (fun i x hi' e=>?_) h5
     by_cases e1:i=(lo+hi) / 2
     ·subst e1;rw[hs] at e;cases e;exact hc
     ·exact Nat.lt_trans (rise_get h (show i<(lo+hi) / 2 by omega) e hs) hc
    ·rename_i hc
     refine below_go h j fuel lo _ (by omega) (by omega) (by omega) h4 (fun i x hi' e=>?_)
     by_cases e1:i=(lo+hi) / 2
     ·subst e1;rw[hs] at e;cases e;omega
     ·have:=rise_get h (show(lo+hi) / 2<i by omega) hs e;omega
   ·exact⟨by omega,h4,fun i x hi'=>h5 i x (by omega)⟩
theorem below_spec {l:List Nat}(h:Rise l) (j:Nat):SetTable.below l.toArray j≤l.length∧(∀(i x:Nat),i<SetTable.below l.toArray j→l[i]?=some x→x<j)∧∀(i x:Nat),SetTable.below l.toArray j≤i→l[i]?=some x→j≤x:=by
 unfold SetTable.below
 exact below_go h j _ 0 _ (Nat.zero_le _) (by simp) (by omega) (fun i x hi _=>by omega) (fun i x hi e=>by
  rw[List.getElem?_eq_none (by simpa using hi)] at e;cases e)
theorem below_at {l:List Nat}(h:Rise l){i j:Nat}(e:l[i]?=some j):SetTable.below l.toArray j=i:=by
 obtain⟨h1,h2,h3⟩:=below_spec h j
 rcases Nat.lt_trichotomy (SetTable.below l.toArray j) i with hc|hc|hc
 ·obtain⟨hl,rfl⟩:=List.getElem?_eq_some_iff.mp e
  have e1:l[SetTable.below l.toArray l[i]]?=some (l[SetTable.below l.toArray l[i]]'(by omega)):=List.getElem?_eq_getElem _
  have:=h3 _ _ (Nat.le_refl _) e1
  have:=rise_get h hc e1 e
  omega
 ·exact hc
 ·have:=h2 i j hc e;omega
noncomputable def tbl (m fi mv:Nat)(ld:Bool)(l:List Nat):SetTable:={mask:=m,place:=l.toArray,dummies:=#[],finger:=fi,led:=ld,moves:=mv,plain:=true}
theorem slot_live {m fi mv:Nat}{ld:Bool}{l:List Nat}(h:Rise l){i j:Nat}(e:l[i]?=some j):(tbl m fi mv ld l).slot j=.live i:=by
 unfold SetTable.slot tbl
 dsimp only
 rw[below_at h e,if_pos (by simp [e])]
theorem slot_empty {m fi mv:Nat}{ld:Bool}{l:List Nat}{j:Nat}(hj:j∉l):(tbl m fi mv ld l).slot j=.empty:=by
 unfold SetTable.slot tbl
 dsimp only
 rw[if_neg,if_neg]
 ·simp [SetTable.has,SetTable.below,SetTable.below.go]
 ·intro q
  have q:=eq_of_beq q
  rw[List.getElem?_toArray] at q
  exact hj (List.mem_of_getElem? q)
theorem go_empty {t:SetTable}{ha:Nat→Int}{h:Int}:∀(pre:List Nat) (fuel:Nat)(p:SetTable.Probe) (j:Nat)(post:List Nat),jsM t.mask fuel p=pre++j::post→p.dummy=none→(∀ x∈pre,∃ i,t.slot x=.live i∧(ha i==h)=false)→t.slot j=.empty →
  SetTable.probe.go t ha h fuel p=some (.empty j none)
 | [],0,p,j,post,e,_,_,_=>by simp [jsM] at e
 | [],fuel+1,p,j,post,e,hd,_,hs=>by
   rw[jsM,List.nil_append,List.cons.injEq] at e
   unfold SetTable.probe.go
   rw[e.1,hs,hd]
 | x::pre,0,p,j,post,e,_,_,_=>by simp [jsM] at e
 | x::pre,fuel+1,p,j,post,e,hd,hp,hs=>by
   rw[jsM,List.cons_append,List.cons.injEq] at e
   obtain⟨i,h1,h2⟩:=hp x List.mem_cons_self
   unfold SetTable.probe.go
   rw[e.1,h1]
   simp only[h2,Bool.false_eq_true,if_false]
   refine go_empty pre fuel _ j post e.2 ?_ (fun y hy=>hp y (List.mem_cons_of_mem _ hy)) hs
   unfold SetTable.advance
   split<;>exact hd
theorem go_cand {t:SetTable}{ha:Nat→Int}{h:Int}:∀(pre:List Nat) (fuel:Nat)(p:SetTable.Probe) (j i:Nat)(post:List Nat),jsM t.mask fuel p=pre++j::post→(∀ x∈pre,∃ i,t.slot x=.live i∧(ha i==h)=false)→t.slot j=.live i→(ha i==h)=true →
  ∃ next,SetTable.probe.go t ha h fuel p=some (.candidate j i next)
 | [],0,p,j,i,post,e,_,_,_=>by simp [jsM] at e
 | [],fuel+1,p,j,i,post,e,_,hs,hh=>by
   rw[jsM,List.nil_append,List.cons.injEq] at e
   unfold SetTable.probe.go
   rw[e.1,hs]
   simp only[hh,if_true]
   exact⟨_,rfl⟩
 | x::pre,0,p,j,i,post,e,_,_,_=>by simp [jsM] at e
 | x::pre,fuel+1,p,j,i,post,e,hp,hs,hh=>by
   rw[jsM,List.cons_append,List.cons.injEq] at e
   obtain⟨i',h1,h2⟩:=hp x List.mem_cons_self
   unfold SetTable.probe.go
   rw[e.1,h1]
   simp only[h2,Bool.false_eq_true,if_false]
   exact go_cand pre fuel _ j i post e.2 (fun y hy=>hp y (List.mem_cons_of_mem _ hy)) hs hh
structure Lay (m:Nat)(L:List (Nat×List Nat)):Prop where
 srt:Rise (L.map (·.1))
 le:∀ x∈L,x.1≤m
 nd:(L.map (·.2)).Nodup
 s6:∀ x∈L,x.2∈subs6
 rch:∀ x∈L,∃ pre post,roadM m x.2=pre++x.1::post∧∀ y∈pre,y∈L.map (·.1)
section
variable {m fi mv:Nat}{ld:Bool}{L:List (Nat×List Nat)}{ha:Nat→Int}
theorem Lay.live (Y:Lay m L)(hh:∀(i:Nat)(x:Nat×List Nat),L[i]?=some x→ha i=tupH x.2) {r:List Nat}(hr:r∈subs6){y:Nat}(hy:y∈L.map (·.1)) (hn:∀ x∈L,x.1=y→x.2≠r):∃ i,(tbl m fi mv ld (L.map (·.1))).slot y=.live i∧(ha i==tupH r)=false:=by
 obtain⟨x,hx,rfl⟩:=List.mem_map.mp hy
 obtain⟨i,hi⟩:=List.getElem?_of_mem hx
 refine⟨i,slot_live Y.srt (by rw[List.getElem?_map,hi];rfl),?_⟩
 rw[hh i x hi]
 exact beq_eq_false_iff_ne.mpr fun e=>hn x hx rfl (hash_inj (Y.s6 x hx) hr e)
theorem Lay.there (Y:Lay m L)(hh:∀(i:Nat)(x:Nat×List Nat),L[i]?=some x→ha i=tupH x.2) {x:Nat×List Nat}(hx:x∈L) :
  ∃ i next,(tbl m fi mv ld (L.map (·.1))).probe ha (tupH x.2) ((tbl m fi mv ld (L.map (·.1))).probeStart (tupH x.2))=some (.candidate x.1 i next)∧L[i]?=some x:=by
 obtain⟨i,hi⟩:=List.getElem?_of_mem hx
 obtain⟨pre,post,e,hp⟩:=Y.rch x hx
 obtain⟨a,b,e1,hna⟩:=List.eq_append_cons_of_mem (show x.1∈roadM m x.2 by rw[e];simp)
 have ha':∀ y∈a,y∈L.map (·.1):=by
  intro y hy
  have:a <+: pre:=by
   have h1:a++x.1::b=pre++x.1::post:=e1.symm.trans e
   rcases Nat.lt_or_ge pre.length a.length with hl|hl
   ·have:(a++x.1::b)[pre.length]?=some x.1:=by rw[h1];simp
    rw[List.getElem?_append_left hl] at this
    exact absurd (List.mem_of_getElem? this) hna
   ·exact List.prefix_of_prefix_length_le (l₃:=a++x.1::b) ⟨_,rfl⟩ ⟨_,h1.symm⟩ hl
  obtain⟨c,rfl⟩:=this
  exact hp y (List.mem_append_left _ hy)
 obtain⟨rest,ej⟩:=js_road m x.2
 have hj:jsM m (10 * SetTable.turns m) (startM m (tupH x.2))=a++x.1::(b++rest):=by rw[ej,e1];simp
 have hl:∀ y∈a,∃ i,(tbl m fi mv ld (L.map (·.1))).slot y=.live i∧(ha i==tupH x.2)=false:=fun y hy=>Y.live hh (Y.s6 x hx) (ha' y hy) fun z hz ez er=>by
  have:z=x:=nd_inj Y.nd hz hx er
  subst this
  exact hna (ez▸hy)
 obtain⟨next,q⟩:=go_cand (t:=tbl m fi mv ld (L.map (·.1))) (ha:=ha) (h:=tupH x.2) a _ _ x.1 i _ hj hl (slot_live Y.srt (by rw[List.getElem?_map,hi];rfl)) (by rw[hh i x hi];exact beq_self_eq_true _)
 exact⟨i,next,q,hi⟩
theorem Lay.free (Y:Lay m L)(hm:m∈masks)(hh:∀(i:Nat)(x:Nat×List Nat),L[i]?=some x→ha i=tupH x.2) {r:List Nat}(hr:r∈subs6)(hn:r∉L.map (·.2)) (hl:L.length≤m) :
  ∃ j pre post,(tbl m fi mv ld (L.map (·.1))).probe ha (tupH r) ((tbl m fi mv ld (L.map (·.1))).probeStart (tupH r))=some (.empty j none)∧j∉L.map (·.1)∧roadM m r=pre++j::post∧∀ y∈pre,y∈L.map (·.1):=by
 have ex:∃ j∈roadM m r,j∉L.map (·.1):=by
  apply Classical.byContradiction
  intro hc
  have:∀ j∈List.range (m+1),j∈L.map (·.1):=fun j hj=>by
   apply Classical.byContradiction
   intro hq
   exact hc ⟨j,road_all hm r (by have:=List.mem_range.mp hj;omega),hq⟩
  have:=sub_len List.nodup_range this
  rw[List.length_range,List.length_map] at this
  omega
 obtain⟨pre,j,post,e,h1,h2⟩:=first_not _ _ ex
 obtain⟨rest,ej⟩:=js_road m r
 refine⟨j,pre,post,?_,h1,e,h2⟩
 exact go_empty (t:=tbl m fi mv ld (L.map (·.1))) pre _ _ j (post++rest) (by rw[show(tbl m fi mv ld (L.map (·.1))).mask=m from rfl,start_eq,show(tbl m fi mv ld (L.map (·.1))).mask=m from rfl,ej,e];simp) rfl
  (fun y hy=>Y.live hh hr (h2 y hy) fun z hz _ er=>hn (er▸List.mem_map.mpr ⟨z,hz,rfl⟩)) (slot_empty h1)
theorem Lay.put (Y:Lay m L){r:List Nat}{j:Nat}(hr:r∈subs6)(hn:r∉L.map (·.2)) (hj:j∉L.map (·.1)) {pre post:List Nat}(e:roadM m r=pre++j::post)(hp:∀ y∈pre,y∈L.map (·.1)) {p:Nat}(ep:p=SetTable.below (L.map (·.1)).toArray j) :
  Lay m (L.take p++(j,r)::L.drop p)∧p≤L.length:=by
 obtain⟨b1,b2,b3⟩:=below_spec Y.srt j
 rw[← ep] at b1 b2 b3
 rw[List.length_map] at b1
 have mem:∀ x,x∈L.take p++(j,r)::L.drop p↔x∈L∨x=(j,r):=fun x=>by
  rw[List.mem_append,List.mem_cons]
  constructor
  ·rintro(h|h|h)
   ·exact .inl (List.mem_of_mem_take h)
   ·exact .inr h
   ·exact .inl (List.mem_of_mem_drop h)
  ·rintro(h|h)
   ·rw[← List.take_append_drop p L,List.mem_append] at h
    exact h.elim .inl fun h=>.inr (.inr h)
   ·exact .inr (.inl h)
 have mem1:∀ y,y∈L.map (·.1)→y∈(L.take p++(j,r)::L.drop p).map (·.1):=fun y hy=>by
  obtain⟨x,hx,rfl⟩:=List.mem_map.mp hy
  exact List.mem_map.mpr ⟨x,(mem x).mpr (.inl hx),rfl⟩
 refine⟨⟨?_,?_,?_,?_,?_⟩,b1⟩
 ·show Rise _
  unfold Rise
  rw[List.map_append,List.map_cons,List.pairwise_append]
  refine⟨?_,?_,?_⟩
  ·rw[List.map_take];exact List.Pairwise.sublist (List.take_sublist _ _) Y.srt
  ·rw[List.pairwise_cons]
   refine⟨fun y hy=>?_,by rw[List.map_drop];exact List.Pairwise.sublist (List.drop_sublist _ _) Y.srt⟩
   obtain⟨k,hk⟩:=List.getElem?_of_mem hy
   rw[List.getElem?_map,List.getElem?_drop] at hk
   have h1:(L.map (·.1))[p+k]?=some y:=by rw[List.getElem?_map];exact hk
   have h2:=b3 (p+k) y (by omega) h1
   have h3:j≠y:=fun z=>hj (z▸List.mem_of_getElem? h1)
   show j<y
   omega
  ·intro y hy y' hy'
   have hlt:y<j:=by
    obtain⟨k,hk⟩:=List.getElem?_of_mem hy
    rw[List.map_take,List.getElem?_take] at hk
    split at hk
    ·exact b2 k y (by omega) hk
    ·cases hk
   rcases List.mem_cons.mp hy' with rfl|hy'
   ·exact hlt
   ·obtain⟨k,hk⟩:=List.getElem?_of_mem hy'
    rw[List.getElem?_map,List.getElem?_drop] at hk
    have:=b3 (p+k) y' (by omega) (by rw[List.getElem?_map];exact hk)
    omega
 ·intro x hx
  rcases(mem x).mp hx with h|rfl
  ·exact Y.le x h
  ·exact road_le (r:=r) (by rw[e];simp)
 ·rw[List.map_append,List.map_cons]
  have:(L.map (·.2))=(L.take p).map (·.2)++(L.drop p).map (·.2):=by rw[← List.map_append,List.take_append_drop]
  have nd:=Y.nd
  rw[this] at nd hn
  have perm:((L.take p).map (·.2)++r::(L.drop p).map (·.2)).Perm (r::((L.take p).map (·.2)++(L.drop p).map (·.2))):=List.perm_middle
  exact perm.nodup_iff.mpr (List.nodup_cons.mpr ⟨hn,nd⟩)
 ·intro x hx
  rcases(mem x).mp hx with h|rfl
  ·exact Y.s6 x h
  ·exact hr
 ·intro x hx
  rcases(mem x).mp hx with h|rfl
  ·obtain⟨pre',post',e',hp'⟩:=Y.rch x h
   exact⟨pre',post',e',fun y hy=>mem1 y (hp' y hy)⟩
  ·exact⟨pre,post,e,fun y hy=>mem1 y (hp y hy)⟩
end
end TL
namespace TL
open PySem L2 SR
theorem free_spec {m:Nat}{ow:Array (Option Nat)}:∀(n i p:Nat),(∃ j∈runsM m n i p,ow.getD j (some 0)=none)→∃ pre j post,SetTable.layClean.free m ow n i p=some j∧runsM m n i p=pre++j::post∧ow.getD j (some 0)=none∧∀ y∈pre,ow.getD y (some 0)≠none
 | 0,i,p,h=>by obtain⟨j,h,_⟩:=h;simp [runsM] at h
 | n+1,i,p,h=>by
   unfold SetTable.layClean.free
   cases hf:(List.range (SetTable.runEnd m i+1 - i)).find? fun k=>(ow.getD (i+k) (some 0)).isNone with
   | some k =>
     obtain⟨h1,as,bs,h2,h3⟩:=List.find?_eq_some_iff_append.mp hf
     refine⟨as.map (i+·),i+k,bs.map (i+·)++runsM m n (SetTable.leap m i p).1 (SetTable.leap m i p).2,rfl,?_,by simpa using h1,fun y hy=>?_⟩
     ·rw[runsM,h2];simp
     ·obtain⟨a,ha,rfl⟩:=List.mem_map.mp hy
      have:=h3 a ha
      intro q
      rw[q] at this
      cases this
   | none =>
     have hn:∀ y∈(List.range (SetTable.runEnd m i+1 - i)).map (i+·),ow.getD y (some 0)≠none:=fun y hy=>by
      obtain⟨a,ha,rfl⟩:=List.mem_map.mp hy
      have:=List.find?_eq_none.mp hf a ha
      intro q
      rw[q] at this
      exact this rfl
     obtain⟨pre,j,post,h1,h2,h3,h4⟩:=free_spec (ow:=ow) n (SetTable.leap m i p).1 (SetTable.leap m i p).2 (by
      obtain⟨j,hj,hq⟩:=h
      rw[runsM] at hj
      rcases List.mem_append.mp hj with hj|hj
      ·exact absurd hq (hn j hj)
      ·exact⟨j,hj,hq⟩)
     refine⟨(List.range (SetTable.runEnd m i+1 - i)).map (i+·)++pre,j,post,h1,?_,h3,fun y hy=>?_⟩
     ·rw[runsM,h2];simp
     ·rcases List.mem_append.mp hy with hy|hy
      ·exact hn y hy
      ·exact h4 y hy
structure Ow (m:Nat)(ow:Array (Option Nat)) (rs:List (List Nat)):Prop where
 sz:ow.size=m+1
 lt:∀ j i,ow.getD j none=some i→i<rs.length
 on:∀ i,i<rs.length→∃ j,ow.getD j none=some i
 inj:∀ j j' i,ow.getD j none=some i→ow.getD j' none=some i→j=j'
 rch:∀ j i r,ow.getD j none=some i→rs[i]?=some r→∃ pre post,roadM m r=pre++j::post∧∀ y∈pre,∃ k,ow.getD y none=some k
theorem getD_in {ow:Array (Option Nat)}{j:Nat}(h:j<ow.size):ow.getD j none=ow[j]∧ow.getD j (some 0)=ow[j]:=by
 simp [Array.getD,h]
theorem getD_at {rs:List (List Nat)}{i:Nat}(h:i<rs.length):rs.getD i []=rs[i]:=by simp [List.getD,h]
theorem nd_at {α:Type}{l:List α}(h:l.Nodup){i j:Nat}(hi:i<l.length)(hj:j<l.length)(e:l[i]=l[j]):i=j:=by
 rcases Nat.lt_trichotomy i j with q|q|q
 ·exact absurd e (List.pairwise_iff_getElem.mp h i j hi hj q)
 ·exact q
 ·exact absurd e.symm (List.pairwise_iff_getElem.mp h j i hj hi q)
theorem map_nd {α β:Type}{f:α→β}:∀{l:List α},l.Nodup→(∀ a∈l,∀ b∈l,f a=f b→a=b)→(l.map f).Nodup
 | [],_,_=>by simp
 | x::l,h,k=>by
   rw[List.nodup_cons] at h
   rw[List.map_cons,List.nodup_cons]
   refine⟨fun hm=>?_,map_nd h.2 fun a ha b hb=>k a (List.mem_cons_of_mem _ ha) b (List.mem_cons_of_mem _ hb)⟩
   obtain⟨y,hy,e⟩:=List.mem_map.mp hm
   have:=k y (List.mem_cons_of_mem _ hy) x List.mem_cons_self e
   exact h.1 (this▸hy)
theorem Ow.step {m:Nat}{ow:Array (Option Nat)}{rs:List (List Nat)}(O:Ow m ow rs)(hm:m∈masks)(hl:rs.length≤m)(r:List Nat) :
  ∃ j,SetTable.layClean.free m ow (SetTable.turns m) (SetTable.bits (tupH r) % (m+1)) (SetTable.bits (tupH r))=some j∧Ow m (ow.setIfInBounds j (some rs.length)) (rs++[r]):=by
 have sz:=O.sz
 have ex:∃ j∈roadM m r,ow.getD j (some 0)=none:=by
  apply Classical.byContradiction
  intro hc
  have al:∀ j,j≤m→∃ i,ow.getD j none=some i:=fun j hj=>by
   obtain⟨g1,g2⟩:=getD_in (ow:=ow) (j:=j) (by omega)
   cases q:ow.getD j none with
   | some i=>exact⟨i,rfl⟩
   | none=>exact absurd ⟨j,road_all hm r hj,by rw[g2,← g1,q]⟩ hc
  have nd:((List.range (m+1)).map fun j=>(ow.getD j none).getD 0).Nodup:=map_nd List.nodup_range fun a ha b hb e=>by
   obtain⟨i,hi⟩:=al a (by have:=List.mem_range.mp ha;omega)
   obtain⟨i',hi'⟩:=al b (by have:=List.mem_range.mp hb;omega)
   rw[hi,hi'] at e
   exact O.inj a b i hi (by rw[hi'];simpa using e.symm)
  have:=sub_len nd (l':=List.range rs.length) fun x hx=>by
   obtain⟨j,hj,rfl⟩:=List.mem_map.mp hx
   obtain⟨i,hi⟩:=al j (by have:=List.mem_range.mp hj;omega)
   rw[hi]
   exact List.mem_range.mpr (O.lt j i hi)
  rw[List.length_map,List.length_range,List.length_range] at this
  omega
 obtain⟨pre,j,post,h1,h2,h3,h4⟩:=free_spec _ _ _ ex
 have hj:j≤m:=road_le (r:=r) (by unfold roadM;rw[h2];simp)
 have ple:∀ y∈pre,y≤m:=fun y hy=>road_le (r:=r) (by unfold roadM;rw[h2];simp [hy])
 have hjn:ow.getD j none=none:=by
  obtain⟨g1,g2⟩:=getD_in (ow:=ow) (j:=j) (by omega)
  rw[g1,← g2,h3]
 refine⟨j,h1,?_⟩
 have get:∀ y,(ow.setIfInBounds j (some rs.length)).getD y none=if y=j then some rs.length else ow.getD y none:=fun y=>by
  by_cases e:y=j
  ·subst e;simp [Array.getD,sz];omega
  ·rw[if_neg e]
   unfold Array.getD
   simp only[Array.size_setIfInBounds]
   split
   ·rename_i hy
    exact Array.getElem_setIfInBounds_ne hy (Ne.symm e)
   ·rfl
 refine⟨by simp [sz],fun y i q=>?_,fun i hi=>?_,fun y y' i q q'=>?_,fun y i r' q hr=>?_⟩
 ·rw[get] at q
  rw[List.length_append,List.length_singleton]
  split at q
  ·cases q;omega
  ·have:=O.lt y i q;omega
 ·rw[List.length_append,List.length_singleton] at hi
  by_cases e:i=rs.length
  ·exact⟨j,by rw[get,if_pos rfl,e]⟩
  ·obtain⟨y,hy⟩:=O.on i (by omega)
   refine⟨y,?_⟩
   rw[get,if_neg]
   ·exact hy
   ·rintro rfl;rw[hjn] at hy;cases hy
 ·rw[get] at q q'
  split at q
  ·rename_i e
   cases q
   split at q'
   ·rename_i e';rw[e,e']
   ·have:=O.lt y' _ q';omega
  ·split at q'
   ·cases q'
    have:=O.lt y _ q;omega
   ·exact O.inj y y' i q q'
 ·rw[get] at q
  have up:∀ z,(∃ k,ow.getD z none=some k)→∃ k,(ow.setIfInBounds j (some rs.length)).getD z none=some k:=fun z ⟨k,hk⟩=>by
   rw[get]
   split
   ·exact⟨_,rfl⟩
   ·exact⟨k,hk⟩
  split at q
  ·rename_i e
   cases q
   rw[List.getElem?_append_right (Nat.le_refl _),Nat.sub_self] at hr
   cases hr
   subst e
   refine⟨pre,post,h2,fun z hz=>up z ?_⟩
   have:=h4 z hz
   obtain⟨g1,g2⟩:=getD_in (ow:=ow) (j:=z) (by have:=ple z hz;omega)
   rw[g2,← g1] at this
   cases w:ow.getD z none with
   | none=>exact absurd w this
   | some k=>exact⟨k,rfl⟩
  ·have hi:=O.lt y i q
   rw[List.getElem?_append_left hi] at hr
   obtain⟨pre',post',e',hp⟩:=O.rch y i r' q hr
   exact⟨pre',post',e',fun z hz=>up z (hp z hz)⟩
theorem lay_fold {m:Nat}(hm:m∈masks):∀(rs rs0:List (List Nat)) (ow:Array (Option Nat)),Ow m ow rs0→rs0.length+rs.length≤m+1 →
  ∃ ow',(rs.map tupH).foldl (init:=some (ow,rs0.length)) (fun acc h=>do
    let (owner,k) ← acc
    let j ← SetTable.layClean.free m owner (SetTable.turns m) (SetTable.bits h % (m+1)) (SetTable.bits h)
    pure (owner.setIfInBounds j (some k),k+1))=some (ow',(rs0++rs).length)∧Ow m ow' (rs0++rs)
 | [],rs0,ow,O,_=>⟨ow,by simp,by simpa using O⟩
 | r::rs,rs0,ow,O,hl=>by
   rw[List.length_cons] at hl
   obtain⟨j,h1,O'⟩:=O.step hm (by omega) r
   obtain⟨ow',h2,O''⟩:=lay_fold hm rs (rs0++[r]) _ O' (by rw[List.length_append,List.length_singleton];omega)
   refine⟨ow',?_,by simpa using O''⟩
   rw[List.map_cons,List.foldl_cons]
   rw[List.append_assoc,List.singleton_append] at h2
   rw[← h2]
   congr 1
   show(do let j ← SetTable.layClean.free m ow (SetTable.turns m) (SetTable.bits (tupH r) % (m+1)) (SetTable.bits (tupH r));pure (ow.setIfInBounds j (some rs0.length),rs0.length+1))=_
   rw[h1,List.length_append,List.length_singleton]
   rfl
theorem fm_le {m:Nat}{ow:Array (Option Nat)}:∀(l:List Nat),l.Pairwise (·<·)→((l.filterMap fun j=>(ow.getD j none).map (j,·)).map (·.1)).Pairwise (·<·)∧∀ y∈(l.filterMap fun j=>(ow.getD j none).map (j,·)).map (·.1),y∈l
 | [],_=>by simp
 | j::l,h=>by
   rw[List.pairwise_cons] at h
   obtain⟨h1,h2⟩:=fm_le (m:=m) (ow:=ow) l h.2
   rw[List.filterMap_cons]
   cases q:ow.getD j none with
   | none=>exact⟨h1,fun y hy=>List.mem_cons_of_mem _ (h2 y hy)⟩
   | some i =>
     refine⟨?_,fun y hy=>?_⟩
     ·show((j,i)::_ |>.map (·.1)).Pairwise _
      rw[List.map_cons,List.pairwise_cons]
      exact⟨fun y hy=>h.1 y (h2 y hy),h1⟩
     ·change y∈(((j,i)::(l.filterMap fun j=>(ow.getD j none).map (j,·))).map (·.1)) at hy
      rw[List.map_cons] at hy
      rcases List.mem_cons.mp hy with rfl|hy
      ·exact List.mem_cons_self
      ·exact List.mem_cons_of_mem _ (h2 y hy)
theorem laid_ok {m fi mv:Nat}{ld pl:Bool}(hm:m∈masks){rs:List (List Nat)}(hnd:rs.Nodup)(h6:∀ r∈rs,r∈subs6)(hl:rs.length≤m) :
  ∃ live:List (Nat×Nat),SetTable.laid m fi mv ld pl (rs.map tupH).toArray=some ({mask:=m,place:=(live.map (·.1)).toArray,dummies:=#[],finger:=fi,led:=ld,moves:=mv,plain:=pl},(live.map (·.2)).toArray) ∧
    Lay m (live.map fun x=>(x.1,rs.getD x.2 []))∧(∀ i,i<rs.length→i∈live.map (·.2))∧(∀ x∈live,x.2<rs.length)∧(live.map (·.2)).Nodup:=by
 have emp:∀ j i,(Array.replicate (m+1) (none:Option Nat)).getD j none≠some i:=fun j i q=>by
  unfold Array.getD at q
  split at q
  ·simp at q
  ·cases q
 obtain⟨ow,h1,O⟩:=lay_fold hm rs [] (Array.replicate (m+1) none) ⟨by simp,fun j i q=>absurd q (emp j i),fun i hi=>absurd hi (Nat.not_lt_zero _),fun j j' i q=>absurd q (emp j i),fun j i r q=>absurd q (emp j i)⟩ (by simp;omega)
 rw[List.nil_append] at h1 O
 have hc:SetTable.layClean m (rs.map tupH).toArray=some ow:=by
  unfold SetTable.layClean
  rw[← Array.foldl_toList]
  rw[show((rs.map tupH).toArray.toList)=rs.map tupH from rfl]
  exact congrArg (Option.map (·.1)) h1
 have live_mem:∀ x,x∈((List.range (m+1)).filterMap fun j=>(ow.getD j none).map (j,·))↔ow.getD x.1 none=some x.2:=fun x=>by
  rw[List.mem_filterMap]
  constructor
  ·rintro⟨j,_,q⟩
   obtain⟨i,hi,rfl⟩:=Option.map_eq_some_iff.mp q
   exact hi
  ·intro q
   refine⟨x.1,List.mem_range.mpr ?_,by rw[q];rfl⟩
   rw[← O.sz]
   apply Classical.byContradiction
   intro hq
   unfold Array.getD at q
   rw[dif_neg hq] at q
   cases q
 obtain⟨p1,p2⟩:=fm_le (m:=m) (ow:=ow) (List.range (m+1)) List.pairwise_lt_range
 refine⟨_,by unfold SetTable.laid;rw[hc];rfl,⟨?_,?_,?_,?_,?_⟩,?_,?_,?_⟩
 ·rw[List.map_map];exact p1
 ·intro x hx
  obtain⟨y,hy,rfl⟩:=List.mem_map.mp hx
  have:=List.mem_range.mp (p2 y.1 (List.mem_map.mpr ⟨y,hy,rfl⟩))
  show y.1≤m
  omega
 ·rw[List.map_map]
  refine map_nd ?_ fun a ha b hb e=>?_
  ·exact List.Pairwise.imp (fun{a b} h e=>absurd h (by rw[e];exact Nat.lt_irrefl _)) (List.pairwise_map.mp p1)
  ·have qa:=(live_mem a).mp ha
   have qb:=(live_mem b).mp hb
   have la:=O.lt _ _ qa
   have lb:=O.lt _ _ qb
   have e':rs.getD a.2 []=rs.getD b.2 []:=e
   rw[getD_at la,getD_at lb] at e'
   have e2:a.2=b.2:=nd_at hnd la lb e'
   have e1:a.1=b.1:=O.inj _ _ _ qa (by rw[qb,e2])
   exact Prod.ext e1 e2
 ·intro x hx
  obtain⟨y,hy,rfl⟩:=List.mem_map.mp hx
  have la:=O.lt _ _ ((live_mem y).mp hy)
  show rs.getD y.2 []∈subs6
  rw[getD_at la]
  exact h6 _ (List.getElem_mem la)
 ·intro x hx
  obtain⟨y,hy,rfl⟩:=List.mem_map.mp hx
  have q:=(live_mem y).mp hy
  have la:=O.lt _ _ q
  obtain⟨pre,post,e,hp⟩:=O.rch _ _ (rs.getD y.2 []) q (by rw[getD_at la];exact List.getElem?_eq_getElem la)
  refine⟨pre,post,e,fun z hz=>?_⟩
  obtain⟨k,hk⟩:=hp z hz
  rw[List.map_map]
  exact List.mem_map.mpr ⟨(z,k),(live_mem (z,k)).mpr hk,rfl⟩
 ·intro i hi
  obtain⟨j,hj⟩:=O.on i hi
  exact List.mem_map.mpr ⟨(j,i),(live_mem (j,i)).mpr hj,rfl⟩
 ·intro x hx
  exact O.lt _ _ ((live_mem x).mp hx)
 ·refine map_nd ?_ fun a ha b hb e=>?_
  ·exact List.Pairwise.imp (fun{a b} h e=>absurd h (by rw[e];exact Nat.lt_irrefl _)) (List.pairwise_map.mp p1)
  ·have qa:=(live_mem a).mp ha
   have qb:=(live_mem b).mp hb
   exact Prod.ext (O.inj _ _ _ qa (by rw[qb,e])) e
end TL
namespace L2
open PySem PySem.Spec PyProof.Rows
structure SRecG (h:Heap)(S:Addr)(o:Obj)(es:Array (Int×Value)) (ep m mv:Nat)(l:Bool)(ms:List Nat):Prop where
 ho:h.get? S=some o
 ex:o.ExactSet
 hd:o.data=.set es ep (tabOf m mv l ms)
 sz:es.size=ms.length
 ri:ms.Pairwise (·<·)
 fi:ms.length≤m∧m≤127
theorem SRecG.fits {h:Heap}{S:Addr}{o:Obj}{es:Array (Int×Value)}{ep m mv:Nat}{l:Bool}{ms:List Nat}(x:SRecG h S o es ep m mv l ms):(tabOf m mv l ms).fits es.size=true:=by
 have h1:=x.sz
 have h2:=x.fi.1
 unfold SetTable.fits tabOf SetTable.fill
 simp
 omega
theorem slot_at {ms:List Nat}(h:ms.Pairwise (·<·)) {i:Nat}(hi:i≤ms.length):SetTable.below ms.toArray (if i=0 then 0 else ms.getD (i - 1) 0+1)=i:=by
 obtain⟨b1,b2,b3⟩:=TL.below_spec (l:=ms) h (if i=0 then 0 else ms.getD (i - 1) 0+1)
 rcases Nat.lt_trichotomy (SetTable.below ms.toArray (if i=0 then 0 else ms.getD (i - 1) 0+1)) i with hc|hc|hc
 ·have hi0:i≠0:=by omega
  have e0:ms[i - 1]?=some (ms[i - 1]'(by omega)):=List.getElem?_eq_getElem _
  have e1:ms.getD (i - 1) 0=ms[i - 1]'(by omega):=by simp [List.getD,e0]
  have:=b3 (i - 1) _ (by omega) e0
  rw[if_neg hi0,e1] at this
  omega
 ·exact hc
 ·have hlt:i<ms.length:=by omega
  have e0:ms[i]?=some ms[i]:=List.getElem?_eq_getElem hlt
  have:=b2 i _ hc e0
  split at this
  ·omega
  ·rename_i hi0
   have e2:ms[i - 1]?=some (ms[i - 1]'(by omega)):=List.getElem?_eq_getElem _
   have e1:ms.getD (i - 1) 0=ms[i - 1]'(by omega):=by simp [List.getD,e2]
   rw[e1] at this
   have:=TL.rise_get h (show i - 1<i by omega) e2 e0
   omega
section
variable {prog:Program}{w:World}{A:Around}{E:Value→Shared→Prop}{s:Shared}{S I:Addr}{o:Obj}{es:Array (Int×Value)}{ep m mv:Nat}{ms:List Nat}
theorem wp_setNextG {i:Nat}{Q:Option (Value×Nat)→Shared→Prop}(R:SRecG s.heap S o es ep m mv (!byT w) ms) (hi:i≤ms.length)
  (h:Q (((ordS w S ep es)[i]?).map fun e=>(e.2,slotS w ms (i+1))) s):wpAny (model prog w) A (setNext S (slotS w ms i) i ep) Q E s:=by
 have hl:=R.sz
 unfold setNext
 refine wpAny_bind (wpAny_setState_of R.ho R.hd R.fits ?_)
 dsimp only
 refine wpAny_bind (wp_byT ?_)
 cases hb:byT w with
 | true =>
   simp only[↓reduceIte,bne_self_eq_false,Bool.false_eq_true]
   unfold setWalk
   refine wpAny_bind (wpAny_bind (wpAny_setState_of R.ho R.hd R.fits ?_))
   dsimp only
   refine wpAny_bind (wp_byT ?_)
   rw[hb]
   simp only[↓reduceIte]
   refine wpAny_bind (wpAny_askSetting (wpAny_pure (wpAny_pure ?_)))
   have e1:ordS w S ep es=pickOrder (w.params.setOrder S ep) es:=by unfold ordS;rw[hb];rfl
   have e2:∀ j,slotS w ms j=0:=fun j=>by unfold slotS;rw[hb];rfl
   rw[e1,e2] at h
   rw[e2]
   exact h
 | false =>
   simp only[Bool.false_eq_true,↓reduceIte]
   rw[hb] at R
   have e1:ordS w S ep es=es:=by unfold ordS;rw[hb];rfl
   have e2:∀ j,slotS w ms j=if j=0 then 0 else ms.getD (j - 1) 0+1:=fun j=>by unfold slotS;rw[hb];rfl
   rw[e1,e2] at h
   rw[e2]
   have e3:SetTable.below ms.toArray (if i=0 then 0 else ms.getD (i - 1) 0+1)=i:=slot_at R.ri hi
   show wpAny _ _ (if (!(tabOf m mv true ms).plain&&decide (es.size>1))=true then _ else _) _ _ s
   rw[if_neg (by simp [tabOf])]
   refine wpAny_bind ?_
   show wpAny _ _ (if (!(tabOf m mv true ms).led&&!es.isEmpty)=true then _ else _) _ _ s
   rw[if_neg (by simp [tabOf])]
   refine wpAny_pure (wpAny_pure ?_)
   show Q (match es[SetTable.below ms.toArray (if i=0 then 0 else ms.getD (i - 1) 0+1)]?,ms.toArray[SetTable.below ms.toArray (if i=0 then 0 else ms.getD (i - 1) 0+1)]? with|some (_,x),some j=>some (x,j+1)|_,_=>none) s
   rw[e3]
   by_cases hlt:i<ms.length
   ·have h1:es[i]?=some es[i]:=Array.getElem?_eq_getElem (by omega)
    have h2:ms.toArray[i]?=some ms[i]:=by simp [hlt]
    rw[h1] at h ⊢
    rw[h2]
    have h3:(if i+1=0 then 0 else ms.getD (i+1 - 1) 0+1)=ms[i]+1:=by simp [hlt]
    rw[h3] at h
    exact h
   ·have h1:es[i]?=none:=Array.getElem?_eq_none (by omega)
    rw[h1] at h ⊢
    exact h
theorem si_itemG {i:Nat}{Q:Option Value→Shared→Prop}(hit:SIter w s.heap I S ms ep i)(R:SRecG s.heap S o es ep m mv (!byT w) ms) (hi:i<ms.length)(hne:S≠I)
  (hQ:∀ e h',(ordS w S ep es)[i]?=some e→SIter w h' I S ms ep (i+1)→Heap.SameBut I s.heap h'→Q (some e.2) {s with heap:=h'}):wpAny (model prog w) A (pyNext (.ref I)) Q E s:=by
 have hl:=R.sz
 have hT:s.TypeIs (.ref I) "set_iterator":=⟨_,hit,rfl⟩
 have hol:(ordS w S ep es).size=ms.length:=by rw[← Array.length_toList,(ordS_perm w S ep es).length_eq,Array.length_toList,hl]
 have he:(ordS w S ep es)[i]?=some ((ordS w S ep es)[i]'(by omega)):=Array.getElem?_eq_getElem _
 unfold pyNext
 refine wpAny_bind (wpAny_attempt (wpAny_callSpecial?_slot (name:=Str.ofString "__next__") hT slot_si_next
  (wpAny_call_entry slot_si_next hT entry_si_next ?_ (args_si_next _))))
 show wpAny _ _ (fieldsOf (.ref I) >>= _) _ _ s
 refine wpAny_bind (wpAny_fieldsOf hit rfl ?_)
 show wpAny _ _ (setEntries S >>= _) _ _ s
 refine wpAny_bind (wpAny_setEntries_of R.ho R.hd R.fits ?_)
 dsimp only
 rw[if_neg (by rw[hl];simp)]
 show wpAny _ _ (setNext S ((slotS w ms i:Nat):Int).toNat ((i:Nat):Int).toNat ((ep:Nat):Int).toNat >>= _) _ _ s
 rw[Int.toNat_natCast,Int.toNat_natCast,Int.toNat_natCast]
 refine wpAny_bind (wp_setNextG R (Nat.le_of_lt hi) ?_)
 rw[he]
 show wpAny _ _ (setField (.ref I) 0 (rawInt (slotS w ms (i+1))) >>= _) _ _ s
 refine wpAny_bind (wpAny_setField_rec hit (by simp) fun h1 h1e h1s=>?_)
 refine wpAny_bind (wpAny_setField_rec (s:={s with heap:=h1}) h1e (by simp) fun h2 h2e h2s=>?_)
 refine wpAny_pure ⟨_,rfl,wpAny_pure (hQ _ h2 he ?_ (Heap.SameBut.trans h1s h2s))⟩
 have ec:((i+1:Nat):Int)=(i:Int)+1:=by omega
 show h2.get? I=some {cls:=.type "set_iterator",dict:=none,data:=.fields #[rawInt (slotS w ms (i+1)),rawInt ((i+1:Nat):Int),.ref S,rawInt ms.length,rawInt ep],slots:=#[]}
 rw[ec]
 simpa using h2e
theorem si_doneG {Q:Option Value→Shared→Prop}(hh:A.handled=none)(hit:SIter w s.heap I S ms ep ms.length)(R:SRecG s.heap S o es ep m mv (!byT w) ms)
  (hQ:∀ h',Heap.ExtBut I s.heap h'→Q none {s with heap:=h'}):wpAny (model prog w) A (pyNext (.ref I)) Q E s:=by
 have hl:=R.sz
 have hT:s.TypeIs (.ref I) "set_iterator":=⟨_,hit,rfl⟩
 have hol:(ordS w S ep es).size=ms.length:=by rw[← Array.length_toList,(ordS_perm w S ep es).length_eq,Array.length_toList,hl]
 have he:(ordS w S ep es)[ms.length]?=none:=Array.getElem?_eq_none (by omega)
 unfold pyNext
 refine wpAny_bind (wpAny_attempt (wpAny_callSpecial?_slot (name:=Str.ofString "__next__") hT slot_si_next
  (wpAny_call_entry slot_si_next hT entry_si_next ?_ (args_si_next _))))
 show wpAny _ _ (fieldsOf (.ref I) >>= _) _ _ s
 refine wpAny_bind (wpAny_fieldsOf hit rfl ?_)
 show wpAny _ _ (setEntries S >>= _) _ _ s
 refine wpAny_bind (wpAny_setEntries_of R.ho R.hd R.fits ?_)
 dsimp only
 rw[if_neg (by rw[hl];simp)]
 show wpAny _ _ (setNext S ((slotS w ms ms.length:Nat):Int).toNat ((ms.length:Nat):Int).toNat ((ep:Nat):Int).toNat >>= _) _ _ s
 rw[Int.toNat_natCast,Int.toNat_natCast,Int.toNat_natCast]
 refine wpAny_bind (wp_setNextG R (Nat.le_refl _) ?_)
 rw[he]
 show wpAny _ _ (setField (.ref I) 2 .none >>= _) _ _ s
 refine wpAny_bind (wpAny_setField hit rfl (by simp) ?_)
 show wpAny _ _ (newExc (.type "StopIteration") [] >>= _) _ _ _
 refine wpAny_bind ?_
 simp only[newExc,newTuple]
 refine wpAny_bind (wpAny_newObj_type ?_ (by size_fits))
 refine wpAny_bind (m:=firstArgMember _ _) (wpAny_of_eq (a:=Value.none) (by first|rfl|(simp only[firstArgMember];rfl)) ?_)
 refine wpAny_newObj_type ?_ (by size_fits)
 simp only[raiseNew]
 refine wpAny_bind (wpAny_handled ?_)
 first|rw[show A.in1.handled=none from hh]|rw[hh]
 refine wpAny_bind (wpAny_pure (wpAny_throw ?_))
 refine wpAny_bind (wpAny_isInstance (T:="StopIteration") (b:=true) ⟨_,Heap.get?_push_size _ rfl,rfl⟩ isSubtype_stop ?_)
 exact wpAny_pure (hQ _ (((Heap.SameBut.update ..).extBut.push _).push _))
theorem walks_setG (hh:A.handled=none)(I S:Addr)(hne:S≠I)(o:Obj)(es:Array (Int×Value)) (ep m mv:Nat)(ms:List Nat) :
  Walks prog w A I [I,S] [I] ms.length (fun i v=>∃ e,(ordS w S ep es)[i]?=some e∧v=e.2) (fun i h=>SIter w h I S ms ep i∧SRecG h S o es ep m mv (!byT w) ms) where
 sub:=fun b hb=>by simp at hb;simp [hb]
 frame:=fun _ _ _ st hk=>⟨hk I (by simp) _ st.1,⟨hk S (by simp) _ st.2.ho,st.2.ex,st.2.hd,st.2.sz,st.2.ri,st.2.fi⟩⟩
 item:=fun i s Q E hi st hQ=>si_itemG st.1 st.2 hi hne fun e h' he hit' hs' =>
  hQ _ h' s.toks ⟨e,he,rfl⟩ ⟨hit',⟨(hs'.2 S hne).trans st.2.ho,st.2.ex,st.2.hd,st.2.sz,st.2.ri,st.2.fi⟩⟩ fun b o hb e=>hs'.extBut b o (fun h=>hb (by simp [h])) e
 done:=fun s Q E st hQ=>si_doneG hh st.1 st.2 fun h' he'=>hQ h' s.toks fun b o hb e=>he' b o (fun h=>hb (by simp [h])) e
 self:=fun i s Q E st hQ=>by
  have hT:s.TypeIs (.ref I) "set_iterator":=⟨_,st.1,rfl⟩
  refine wpAny_pyIter_slot hT slot_si_iter (wpAny_call_entry slot_si_iter hT entry_si_iter ?_ (args_si_iter _))
  show wpAny _ _ (ret (.ref I)) _ _ s
  exact wpAny_pure ⟨_,rfl,"set_iterator",_,hT,slot_si_next.lookup,hQ⟩
end
section
variable {prog:Program}{w:World}{A:Around}{E:Value→Shared→Prop}{s:Shared}{S I:Addr}{o:Obj}{es:Array (Int×Value)}{ep m mv:Nat}{ms:List Nat}
theorem SRecG.type {l:Bool}(R:SRecG s.heap S o es ep m mv l ms):s.TypeIs (.ref S) "set":=⟨o,R.ho,R.ex.1⟩
theorem SRecG.kept {h h':Heap}{l:Bool}(R:SRecG h S o es ep m mv l ms)(k:∀ o,h.get? S=some o→h'.get? S=some o):SRecG h' S o es ep m mv l ms:=⟨k o R.ho,R.ex,R.hd,R.sz,R.ri,R.fi⟩
theorem pyIter_ssetG {Q:Value→Shared→Prop}(R:SRecG s.heap S o es ep m mv (!byT w) ms)
  (hQ:Q (.ref s.heap.objs.size) {s with heap:=s.heap.push {cls:=.type "set_iterator",data:=.fields #[rawInt (slotS w ms 0),rawInt 0,.ref S,rawInt ms.length,rawInt ep]}}):wpAny (model prog w) A (pyIter (.ref S)) Q E s:=by
 have hl:=R.sz
 have h0:slotS w ms 0=0:=by unfold slotS;split<;>rfl
 rw[h0] at hQ
 refine wpAny_pyIter_slot R.type F.slot_set_iter (wpAny_call_entry F.slot_set_iter R.type entry_s_iter ?_ (F.args_set_iter_1 _))
 show wpAny _ _ (Builtin.Frozenset.sizeOf S >>= _) _ _ s
 unfold Builtin.Frozenset.sizeOf
 refine wpAny_bind (wpAny_bind (wpAny_setEntries_of R.ho R.hd R.fits (wpAny_pure ?_)))
 unfold setDrawn
 refine wpAny_bind (wpAny_bind (wpAny_setState_of R.ho R.hd R.fits ?_))
 dsimp only
 refine wpAny_bind (wp_byT (wpAny_pure ?_))
 show wpAny _ _ (if (!byT w&&(!(tabOf m mv (!byT w) ms).plain&&decide (es.size>1)))=true then _ else _) _ _ s
 rw[if_neg (by simp [tabOf])]
 refine wpAny_bind (wpAny_pure ?_)
 refine wpAny_bind (wpAny_setEpoch_of R.ho R.hd R.fits ?_)
 rw[hl]
 exact wpAny_bind (wpAny_newObj_type (wpAny_pure ⟨_,rfl,"set_iterator",_,⟨_,Heap.get?_push_size _ rfl,rfl⟩,slot_si_next.lookup,hQ⟩))
theorem collect_ssetG {Q:List Value→Shared→Prop}(hh:A.handled=none)(R:SRecG s.heap S o es ep m mv (!byT w) ms)
  (hQ:∀ h' tk,s.heap.objs.size≤h'.objs.size→(∀ b o,s.heap.get? b=some o→h'.get? b=some o)→Q ((ordS w S ep es).toList.map (·.2)) {s with heap:=h',toks:=tk}):wpAny (model prog w) A (collect (.ref S)) Q E s:=by
 have hl:=R.sz
 have hls:=R.fi
 have hS:S<s.heap.objs.size:=Heap.lt_size R.ho
 unfold collect
 refine wpAny_bind (wpAny_runValue (codeAny_builtin F.entry_proto_collect ?_))
 rw[Around.under_plainId F.plain_proto_collect _]
 show wpAny _ A.in1 (newList [] >>= fun l=>again (.builtin "list.__iadd__" ⟨[l,.ref S],[]⟩)) _ _ s
 refine wpAny_bind (wpAny_newObj_type ?_)
 refine wpAny_pure ⟨plainId_quiet F.plain_list_iadd _,codeAny_builtin F.entry_list_iadd ?_⟩
 rw[Around.under_plainId F.plain_list_iadd _]
 have hS₁:(s.heap.push {cls:=.type "list",data:=.seq ([]:List Value).toArray}).get? s.heap.objs.size=some {cls:=.type "list",data:=.seq ([]:List Value).toArray}:=Heap.get?_push_size _ rfl
 have hz:(s.heap.push {cls:=.type "list",data:=.seq ([]:List Value).toArray}).objs.size=s.heap.objs.size+1:=Heap.size_push ..
 have R1:SRecG (s.heap.push {cls:=.type "list",data:=.seq ([]:List Value).toArray}) S o es ep m mv (!byT w) ms:=R.kept fun o e=>Heap.get?_push_of_some _ e
 have h1:Builtin.List.listSameRef (.ref s.heap.objs.size) (.ref S)=false:=by simp [Builtin.List.listSameRef];exact Nat.ne_of_gt hS
 show wpAny _ A.in1 (Builtin.List.listExtendWith (.ref s.heap.objs.size) (.ref S) (.ref s.heap.objs.size)) _ _ {s with heap:=s.heap.push {cls:=.type "list",data:=.seq ([]:List Value).toArray}}
 unfold Builtin.List.listExtendWith
 refine wpAny_bind (wpAny_typeOf (SRecG.type (s:={s with heap:=_}) R1) ?_)
 rw[if_neg (by rw[h1];decide)]
 refine wpAny_bind (pyIter_ssetG (s:={s with heap:=_}) R1 ?_)
 rw[hz]
 generalize hK:(s.heap.push {cls:=.type "list",data:=.seq ([]:List Value).toArray}).push {cls:=.type "set_iterator",data:=.fields #[rawInt (slotS w ms 0),rawInt 0,.ref S,rawInt ms.length,rawInt ep]}=K2
 have R2:SRecG K2 S o es ep m mv (!byT w) ms:=by rw[← hK];exact R1.kept fun o e=>Heap.get?_push_of_some _ e
 have hS2:K2.get? s.heap.objs.size=some {cls:=.type "list",data:=.seq ([]:List Value).toArray}:=by rw[← hK];exact Heap.get?_push_of_some _ hS₁
 have hI2:SIter w K2 (s.heap.objs.size+1) S ms ep 0:=by
  have:=Heap.get?_push_size (s.heap.push {cls:=.type "list",data:=.seq ([]:List Value).toArray}) (o:={cls:=.type "set_iterator",data:=.fields #[rawInt (slotS w ms 0),rawInt 0,.ref S,rawInt ms.length,rawInt ep]}) rfl
  rw[hz,hK] at this
  exact this
 have kp2:∀ b o,s.heap.get? b=some o→K2.get? b=some o:=fun b o e=>by rw[← hK];exact Heap.get?_push_of_some _ (Heap.get?_push_of_some _ e)
 have hT2:Shared.TypeIs {s with heap:=K2} (.ref S) "set":=SRecG.type (s:={s with heap:=K2}) R2
 refine wpAny_bind (wpAny_holding ?_)
 unfold Builtin.List.listLengthHint
 refine wpAny_bind (wpAny_specialOf hT2 len_slot ?_)
 (generalize hid:("set.__len__":String)=id0;(fail_if_success (clear hid id0));wp_delta;rw[show splitId id0=some ("set","__len__") from by subst hid;decide +kernel];subst hid)
 refine wpAny_bind (wpAny_isInstance (b:=true) hT2 (by rw[isSubtype_type];kernel_rfl) ?_)
 ·show wpAny _ A.in1 (typeOf (.ref S) >>= _) _ _ _
  refine wpAny_bind (wpAny_typeOf hT2 ?_)
  refine wpAny_pure ?_
  show wpAny _ A.in1 (rule "list.extend.makes-room" >>= fun _=>Builtin.List.listTouch (.ref s.heap.objs.size) >>= fun _=>again (.builtin "list.extend.loop" ⟨[.ref s.heap.objs.size,.ref (s.heap.objs.size+1),.ref s.heap.objs.size],[]⟩)) _ _ _
  refine wpAny_bind (wpAny_rule ?_)
  unfold Builtin.List.listTouch Builtin.List.listUpdate
  refine wpAny_bind (wpAny_bind (wpAny_updateSeq hS2 rfl ?_))
  have hS3:(K2.update s.heap.objs.size (Obj.mapSeq (·.push Value.none))).get? s.heap.objs.size=some (Obj.mapSeq (·.push Value.none) {cls:=.type "list",data:=.seq ([]:List Value).toArray}):=Heap.get?_update_self _ hS2 rfl
  refine wpAny_updateSeq (s:={s with heap:=K2.update s.heap.objs.size (Obj.mapSeq (·.push Value.none))}) hS3 rfl ?_
  have hS4:=Heap.get?_update_self (Obj.mapSeq (·.pop)) hS3 rfl
  generalize hK4:(K2.update s.heap.objs.size (Obj.mapSeq (·.push Value.none))).update s.heap.objs.size (Obj.mapSeq (·.pop))=K4 at hS4 ⊢
  have kp4:∀ b o,b≠s.heap.objs.size→K2.get? b=some o→K4.get? b=some o:=fun b o hb e=>by
   rw[← hK4]
   exact(Heap.get?_update_other _ _ (Ne.symm hb)).trans ((Heap.get?_update_other _ _ (Ne.symm hb)).trans e)
  have R2:SRecG K4 S o es ep m mv (!byT w) ms:=R2.kept fun o e=>kp4 S o (Nat.ne_of_lt hS) e
  have hI2:SIter w K4 (s.heap.objs.size+1) S ms ep 0:=kp4 _ _ (Nat.ne_of_gt (Nat.lt_succ_self _)) hI2
  have kp2:∀ b o,s.heap.get? b=some o→K4.get? b=some o:=fun b o e=>kp4 b o (Nat.ne_of_lt (Heap.lt_size e)) (kp2 b o e)
  have hS2:K4.get? s.heap.objs.size=some {cls:=.type "list",dict:=none,data:=.seq #[] 2,slots:=#[]}:=by simpa [Obj.mapSeq] using hS4
  have W:=(walks_setG (prog:=prog) (w:=w) (A:=A.in1) (by simpa using hh) (s.heap.objs.size+1) S (Nat.ne_of_lt (Nat.lt_succ_of_lt hS)) o es ep m mv ms).toS
  have hSf:s.heap.objs.size∉[s.heap.objs.size+1,S]:=by
   simp only[List.mem_cons,List.not_mem_nil,or_false,not_or]
   exact⟨Nat.ne_of_lt (Nat.lt_succ_self _),Nat.ne_of_gt hS⟩
  refine wpAny_pure ⟨plainId_quiet F.plain_extend_loop _,codeAny_extend_loopS W (by rw[sizeLine_eq];omega) _ hSf _ ms.length 0 _ _ _ rfl (Nat.zero_le _) ⟨hI2,R2⟩ hS2 (ItemsOf.nil _) fun s' acc' c' hm hS' hacc=>?_⟩
  show wpAny _ A (load s.heap.objs.size >>= _) _ _ s'
  refine wpAny_bind (wpAny_load hS' ?_)
  refine wpAny_pure ?_
  have eacc:acc'.toList=(ordS w S ep es).toList.map (·.2):=by
   have hol:(ordS w S ep es).size=ms.length:=by rw[← Array.length_toList,(ordS_perm w S ep es).length_eq,Array.length_toList,hl]
   apply List.ext_getElem?
   intro j
   by_cases hj:j<ms.length
   ·have h3:acc'[j]?=some (acc'[j]'(by rw[hacc.1];exact hj)):=Array.getElem?_eq_getElem _
    obtain⟨e,he,hv⟩:=hacc.2 j _ h3
    rw[Array.getElem?_toList,h3,List.getElem?_map,Array.getElem?_toList,he,hv]
    rfl
   ·rw[List.getElem?_eq_none (by rw[Array.length_toList,hacc.1];omega),List.getElem?_eq_none (by rw[List.length_map,Array.length_toList,hol];omega)]
  rw[eacc]
  obtain⟨h',g',d',tk',os'⟩:=s'
  have eg:g'=s.gens:=hm.gens
  have ed:d'=s.drawn:=hm.drawn
  have eo:os'=s.os:=hm.os
  subst eg ed eo
  refine hQ h' tk' (Nat.le_of_lt (Heap.lt_size hS')) fun b ob e=>hm.heap b ob ?_ (kp2 b ob e)
  have hb:=Heap.lt_size e
  simp only[List.mem_cons,List.not_mem_nil,or_false,not_or]
  exact⟨Nat.ne_of_lt hb,Nat.ne_of_lt (Nat.lt_succ_of_lt hb)⟩
end
end L2
namespace TL
open PySem L2 SR PySem.Spec PyProof.Rows
noncomputable abbrev tkd (prog:Program)(w:World):=tupleKind (intKind prog w)
theorem tk_hash (prog:Program)(w:World)(r:List Nat):(tkd prog w).hash (asInts r)=tupH r:=by
 show reduceHash (Builtin.Tuple.tupleHashOf ((asInts r).map hashInt))=_
 unfold asInts tupH
 rw[List.map_map]
 rfl
noncomputable def ERow (Gd:Addr→List Nat→Prop)(e:Int×Value)(r:List Nat):Prop:=e.1=tupH r∧∃ b,e.2=.ref b∧Gd b r
noncomputable def RowsAt (Gd:Addr→List Nat→Prop)(es:List (Int×Value)) (rs:List (List Nat)):Prop:=es.length=rs.length∧∀(i:Nat)(e:Int×Value)(r:List Nat),es[i]?=some e→rs[i]?=some r→ERow Gd e r
structure SRow1 (prog:Program)(w:World)(Gd:Addr→List Nat→Prop)(h:Heap)(a:Addr)(l:Bool)(L:List (Nat×List Nat)) (o:Obj)(es:Array (Int×Value)) (ep m mv:Nat):Prop where
 ho:h.get? a=some o
 ex:o.ExactSet
 hd:o.data=.set es ep (tabOf m mv l (L.map (·.1)))
 er:RowsAt Gd es.toList (L.map (·.2))
 sub:∀ b r,Gd b r→(tkd prog w).is h (asInts r) b
 ly:Lay m L
 ms:m∈masks
 fu:L.length * 5<m * 3
noncomputable def SRow (prog:Program)(w:World)(Gd:Addr→List Nat→Prop)(h:Heap)(a:Addr)(l:Bool)(L:List (Nat×List Nat)):Prop:=∃ o es ep m mv,SRow1 prog w Gd h a l L o es ep m mv
section
variable {prog:Program}{w:World}{A:Around}{E:Value→Shared→Prop}{s:Shared}{a:Addr}{l:Bool}{L:List (Nat×List Nat)}{o:Obj}{es:Array (Int×Value)}{ep m mv:Nat}{Gd:Addr→List Nat→Prop}
theorem SRow1.sz {h:Heap}(R:SRow1 prog w Gd h a l L o es ep m mv):es.size=L.length:=by
 have:=R.er.1
 rw[Array.length_toList,List.length_map] at this
 exact this
theorem mask_le {m:Nat}(h:m∈masks):m≤127∧m % 2=1:=by
 simp only[masks,List.mem_cons,List.not_mem_nil,or_false] at h
 rcases h with rfl|rfl|rfl<;>decide
theorem SRow1.recG {h:Heap}(R:SRow1 prog w Gd h a l L o es ep m mv):SRecG h a o es ep m mv l (L.map (·.1)) :=
 ⟨R.ho,R.ex,R.hd,by rw[List.length_map];exact R.sz,R.ly.srt,by rw[List.length_map];have:=R.fu;have:=(mask_le R.ms).1;omega⟩
theorem is_keeps {h h':Heap}{k:List Int}{b:Addr} {es ep t}(x:(tkd prog w).is h k b) (ho:h.get? a=some o)(hd:o.data=.set es ep t)(hs:Heap.SameBut a h h'):(tkd prog w).is h' k b:=by
 obtain⟨o',items,n,ho',hc,hd',hi⟩:=x
 have hne:b≠a:=by
  rintro rfl
  obtain rfl:o'=o:=Option.some.inj (ho'.symm.trans ho)
  rw[hd] at hd';exact nomatch hd'
 exact⟨o',items,n,(hs.2 b hne).trans ho',hc,hd',hi⟩
theorem is_same {h h':Heap}{k:List Int}{b:Addr}(x:(tkd prog w).is h k b) (k':∀ b o,h.get? b=some o→h'.get? b=some o):(tkd prog w).is h' k b:=by
 obtain⟨o',items,n,ho',rest⟩:=x
 exact⟨o',items,n,k' _ _ ho',rest⟩
theorem items_int {k:List Int}{vs:List Value}(h:ItemsAre (intKind prog w) k vs):∀ v∈vs,∃ i t,v=.int i t:=by
 induction h with
 | nil=>intro v hv;simp at hv
 | @cons k v' ks vs h1 _ ih =>
   intro v hv
   rcases List.mem_cons.mp hv with rfl|hv
   ·cases v with
    | int i t=>exact⟨i,t,rfl⟩
    | _=>simp [intKind,Value.isInt] at h1
   ·exact ih v hv
theorem hbv_tuple {k:List Int}{b:Addr}{Q:Bool→Shared→Prop}(x:(tkd prog w).is s.heap k b) (h:Q true s):wpAny (model prog w) A (hashByValue 8 (.ref b)) Q E s:=by
 have hT:s.TypeIs (.ref b) "tuple":=IsTupleKey.typeIs x
 obtain⟨o',items,n,ho',hc,hd',hi⟩:=x
 unfold hashByValue
 refine wpAny_bind (wpAny_specialOf hT F.slot_tuple_hash.lookup ?_)
 dsimp only
 refine wpAny_bind (wpAny_seqItems ho' hd' ?_)
 refine wpAny_bind ?_
 show wpAny _ _ (forIn items _ _) _ _ s
 rw[← Array.forIn_toList]
 refine wpAny_forIn_list _ (fun rest r s'=>r.1=none∧s'=s∧∀ v∈rest,∃ i t,v=.int i t) _ ?_ ?_ _ _ ⟨rfl,rfl,items_int hi⟩
 ·rintro v rest r s' ⟨hr,rfl,hall⟩
  obtain⟨i,t,rfl⟩:=hall v List.mem_cons_self
  rw[show hashByValue 7 (.int i t)=pure true from by unfold hashByValue;rfl]
  refine wpAny_bind (wpAny_pure ?_)
  simp only[Bool.not_true,Bool.false_eq_true,if_false]
  exact wpAny_pure ⟨rfl,rfl,fun u hu'=>hall u (List.mem_cons_of_mem _ hu')⟩
 ·rintro⟨r1,r2⟩ s' ⟨hr,rfl,_⟩
  simp only at hr
  subst hr
  exact wpAny_pure h
theorem oac_tuple {k:List Int}{b:Addr}{Q:Bool→Shared→Prop}(x:(tkd prog w).is s.heap k b) (h:Q false s):wpAny (model prog w) A (ofAClassStatement 8 (.ref b)) Q E s:=by
 have hT:s.TypeIs (.ref b) "tuple":=IsTupleKey.typeIs x
 obtain⟨o',items,n,ho',hc,hd',hi⟩:=x
 unfold ofAClassStatement
 refine wpAny_bind (wpAny_typeOf hT ?_)
 dsimp only
 rw[if_pos (by decide)]
 refine wpAny_bind (wpAny_pure ?_)
 simp only[Bool.not_true,Bool.false_eq_true,if_false]
 refine wpAny_bind (wpAny_seqItems ho' hd' ?_)
 dsimp only
 refine wpAny_bind ?_
 show wpAny _ _ (forIn items _ _) _ _ s
 rw[← Array.forIn_toList]
 refine wpAny_forIn_list _ (fun rest r s'=>r.1=none∧s'=s∧∀ v∈rest,∃ i t,v=.int i t) _ ?_ ?_ _ _ ⟨rfl,rfl,items_int hi⟩
 ·rintro v rest r s' ⟨hr,rfl,hall⟩
  obtain⟨i,t,rfl⟩:=hall v List.mem_cons_self
  rw[show ofAClassStatement 7 (.int i t)=pure false from by unfold ofAClassStatement;rfl]
  refine wpAny_bind (wpAny_pure ?_)
  simp only[Bool.false_eq_true,if_false]
  exact wpAny_pure ⟨rfl,rfl,fun u hu'=>hall u (List.mem_cons_of_mem _ hu')⟩
 ·rintro⟨r1,r2⟩ s' ⟨hr,rfl,_⟩
  simp only at hr
  subst hr
  exact wpAny_pure h
theorem unseen_tuple {k:List Int}{b:Addr}{ys:List Value}{Q:Bool→Shared→Prop}(x:(tkd prog w).is s.heap k b) (hy:∀ y∈ys,∃ c k',y=.ref c∧(tkd prog w).is s.heap k' c) (h:Q false s):wpAny (model prog w) A (searchCouldBeSeen (.ref b) ys) Q E s:=by
 unfold searchCouldBeSeen
 refine wpAny_bind ?_
 refine wpAny_forIn_list _ (fun rest r s'=>r.1=none∧s'=s∧∀ y∈rest,∃ c k',y=.ref c∧(tkd prog w).is s.heap k' c) _ ?_ ?_ _ _ ⟨rfl,rfl,hy⟩
 ·rintro v rest r s' ⟨hr,rfl,hall⟩
  obtain⟨c,k',rfl,hc⟩:=hall v List.mem_cons_self
  have tl:∀ u∈rest,∃ c k',u=.ref c∧(tkd prog w).is s'.heap k' c:=fun u hu'=>hall u (List.mem_cons_of_mem _ hu')
  dsimp only
  split
  ·exact wpAny_pure ⟨rfl,rfl,tl⟩
  ·refine wpAny_bind ((tkd prog w).quiet x ?_)
   simp only[Bool.not_true,Bool.false_eq_true,if_false]
   refine wpAny_bind ((tkd prog w).quiet hc ?_)
   simp only[Bool.not_true,Bool.false_eq_true,if_false]
   refine wpAny_bind (oac_tuple x ?_)
   simp only[Bool.false_eq_true,if_false]
   refine wpAny_bind (oac_tuple hc ?_)
   simp only[Bool.false_eq_true,if_false]
   exact wpAny_pure ⟨rfl,rfl,tl⟩
 ·rintro⟨r1,r2⟩ s' ⟨hr,rfl,_⟩
  simp only at hr
  subst hr
  exact wpAny_pure h
noncomputable def haE (es:Array (Int×Value)) (i:Nat):Int:=(es[i]?.map (·.1)).getD 0
theorem SRow1.hh {h:Heap}(R:SRow1 prog w Gd h a l L o es ep m mv):∀(i:Nat)(x:Nat×List Nat),L[i]?=some x→haE es i=tupH x.2:=fun i x hx=>by
 have hl:i<es.size:=by rw[R.sz];exact(List.getElem?_eq_some_iff.mp hx).1
 have e1:es.toList[i]?=some es[i]:=by simp [hl]
 have:=R.er.2 i es[i] x.2 e1 (by rw[List.getElem?_map,hx];rfl)
 unfold haE
 rw[Array.getElem?_eq_getElem hl]
 exact this.1
theorem search_row {r:List Nat}{b:Addr}{Q:SetFound→Shared→Prop}(R:SRow1 prog w Gd s.heap a l L o es ep m mv)(hr:r∈subs6)(hb:(tkd prog w).is s.heap (asInts r) b) (hrm:(tkd prog w).room A)
  (h1:r∈L.map (·.2)→Q (.there none) s) (h2:r∉L.map (·.2)→∀ j pre post,j∉L.map (·.1)→roadM m r=pre++j::post→(∀ y∈pre,y∈L.map (·.1))→Q (.free j false) s) :
  wpAny (model prog w) A (setSearch a (.ref b) (tupH r) true) Q E s:=by
 have hf:=R.recG.fits
 unfold setSearch setSearchFrom
 refine wpAny_bind (wpAny_setState_of R.ho R.hd hf ?_)
 dsimp only
 rw[if_neg (by show ¬((m % 2==0)=true);rw[(mask_le R.ms).2];decide)]
 refine wpAny_bind (wpAny_pure ?_)
 conv in SetTable.probe _ _ _ _=>arg 2;change (haE es)
 by_cases hm:r∈L.map (·.2)
 ·obtain⟨x,hx,rfl⟩:=List.mem_map.mp hm
  obtain⟨i,next,q,hi⟩:=R.ly.there (fi:=0) (mv:=mv) (ld:=l) R.hh hx
  rw[show(tabOf m mv l (L.map (·.1))).probe (haE es) (tupH x.2) ((none:Option SetTable.Probe).getD ((tabOf m mv l (L.map (·.1))).probeStart (tupH x.2)))=_ from q]
  dsimp only
  have hl:i<es.size:=by rw[R.sz];exact(List.getElem?_eq_some_iff.mp hi).1
  have e1:es.toList[i]?=some es[i]:=by simp [hl]
  obtain⟨q1,c,q2,q3⟩:=R.er.2 i es[i] x.2 e1 (by rw[List.getElem?_map,hi];rfl)
  have q3:=R.sub _ _ q3
  have hes:es[i]?=some (es[i].1,.ref c):=by rw[Array.getElem?_eq_getElem hl,← q2]
  have fin:wpAny (model prog w) A (do
    let some (_,y):=es[i]?|unsupported "internal:set-entry"
    let equal ← holding [y] (eqBool y (.ref b))
    let (es',_,t') ← setState a
    if true&&equal then return .there none
    let some same:=t'.sameMemory (tabOf m mv l (L.map (·.1))).moves (tabOf m mv l (L.map (·.1))).mask|unsupported "set.changed-during-lookup:is-the-new-block-at-the-old-address"
    let still ← match (if same then t'.slot x.1 else .empty) with
     | .live i'=>match es'[i']? with
       | some (_,y')=>do pure (if ← isSame y' y then some i' else none)
       | none=>pure none
     | _=>pure none
    match still with
    | none=>rule "set.search.anew";setSearchFrom a (.ref b) (tupH x.2) true 99999 none
    | some i'=>if equal then return .there (some i') else setSearchFrom a (.ref b) (tupH x.2) true 99999 (some next)) Q E s:=by
   rw[hes]
   dsimp only
   refine wpAny_bind (wpAny_holding ((tkd prog w).eqBool hrm q3 hb ?_))
   rw[decide_eq_true rfl]
   refine wpAny_bind (wpAny_setState_of R.ho R.hd hf ?_)
   exact wpAny_pure (h1 hm)
  have ys:∀ y∈(es.filter (·.1==tupH x.2)).toList.map (·.2),∃ c k',y=.ref c∧(tkd prog w).is s.heap k' c:=fun y hy=>by
   obtain⟨e,he,rfl⟩:=List.mem_map.mp hy
   have he:=(Array.mem_filter.mp (Array.mem_toList_iff.mp he)).1
   obtain⟨k,hk⟩:=List.getElem?_of_mem (Array.mem_toList_iff.mpr he)
   have hkl:k<L.length:=by rw[← R.sz,← Array.length_toList];exact(List.getElem?_eq_some_iff.mp hk).1
   obtain⟨_,c',z1,z2⟩:=R.er.2 k e (L[k]).2 hk (by rw[List.getElem?_map,List.getElem?_eq_getElem hkl];rfl)
   exact⟨c',_,z1,R.sub _ _ z2⟩
  cases l with
  | true=>exact fin
  | false =>
    show wpAny _ _ (searchCouldBeSeen _ _ >>= _) _ _ _
    refine wpAny_bind (unseen_tuple hb ys ?_)
    exact fin
 ·obtain⟨j,pre,post,q,hj,e,hp⟩:=R.ly.free (fi:=0) (mv:=mv) (ld:=l) R.ms R.hh hr hm (by have:=R.fu;omega)
  rw[show(tabOf m mv l (L.map (·.1))).probe (haE es) (tupH r) ((none:Option SetTable.Probe).getD ((tabOf m mv l (L.map (·.1))).probeStart (tupH r)))=_ from q]
  exact wpAny_pure (h2 hm j pre post hj e hp)
theorem put_get {h:Heap}{t t':SetTable}{es':Array (Int×Value)}(ho:h.get? a=some o)(hd:o.data=.set es ep t):(h.update a (Obj.putSet es' t')).get? a=some {o with data:=.set es' (ep+1) t'}:=by
 have:=Heap.get?_update_self (Obj.putSet es' t') ho (by rw[putSet_of es' _ hd];rfl)
 rw[putSet_of es' _ hd] at this
 exact this
theorem pick_map (es:Array (Int×Value)):∀(ix:List Nat),(∀ i∈ix,i<es.size)→ix.filterMap (fun i=>es[i]?)=ix.map fun i=>es.getD i (0,.none)
 | [],_=>rfl
 | i::ix,h=>by
   have hi:=h i List.mem_cons_self
   rw[List.filterMap_cons,Array.getElem?_eq_getElem hi,List.map_cons,pick_map es ix fun j hj=>h j (List.mem_cons_of_mem _ hj)]
   simp [Array.getD,hi]
theorem relay_row {n:Nat}{Q:Unit→Shared→Prop}(ho:s.heap.get? a=some o)(hex:o.ExactSet)(hd:o.data=.set es ep (tabOf m mv l (L.map (·.1)))) (er:RowsAt Gd es.toList (L.map (·.2))) (sub:∀ b r,Gd b r→(tkd prog w).is s.heap (asInts r) b) (ly:Lay m L)(hfit:L.length≤m)
  (hm:SetTable.sizeAbove n - 1∈masks)(hn:SetTable.sizeAbove n≤1000)(hfu:L.length * 5<(SetTable.sizeAbove n - 1) * 3)
  (h:∀ h' L',Heap.SameBut a s.heap h'→SRow prog w Gd h' a l L'→(∀ x,x∈L'.map (·.2)↔x∈L.map (·.2))→L'.length=L.length→Q () {s with heap:=h'}):wpAny (model prog w) A (setRelay a n) Q E s:=by
 have hsz:es.size=L.length:=by
  have:=er.1
  rw[Array.length_toList,List.length_map] at this
  exact this
 have hf:(tabOf m mv l (L.map (·.1))).fits es.size=true:=by
  unfold SetTable.fits tabOf SetTable.fill
  simp
  omega
 obtain⟨live,e1,ly2,on,lt,nd⟩:=laid_ok (fi:=0) (mv:=(tabOf m mv l (L.map (·.1))).movedTo (SetTable.sizeAbove n - 1)) (ld:=l) (pl:=true) hm ly.nd (fun r hr=>by
  obtain⟨x,hx,rfl⟩:=List.mem_map.mp hr
  exact ly.s6 x hx) (by rw[List.length_map];omega)
 have eh:es.map (·.1)=((L.map (·.2)).map tupH).toArray:=by
  apply Array.toList_inj.mp
  rw[Array.toList_map]
  apply List.ext_getElem?
  intro i
  show(es.toList.map (·.1))[i]?=((L.map (·.2)).map tupH)[i]?
  rw[List.getElem?_map,List.getElem?_map]
  by_cases hi:i<L.length
  ·have h1:es.toList[i]?=some (es.toList[i]'(by rw[Array.length_toList];omega)):=List.getElem?_eq_getElem _
   have h2:(L.map (·.2))[i]?=some ((L.map (·.2))[i]'(by rw[List.length_map];omega)):=List.getElem?_eq_getElem _
   have:=(er.2 i _ _ h1 h2).1
   rw[h1,h2,Option.map_some,Option.map_some,this]
  ·rw[List.getElem?_eq_none (by rw[Array.length_toList];omega),List.getElem?_eq_none (by rw[List.length_map];omega)];rfl
 have llen:live.length=L.length:=by
  have h1:=sub_len nd (l':=List.range L.length) fun x hx=>by
   obtain⟨y,hy,rfl⟩:=List.mem_map.mp hx
   have:=lt y hy
   rw[List.length_map] at this
   exact List.mem_range.mpr this
  have h2:=sub_len (l:=List.range L.length) List.nodup_range (l':=live.map (·.2)) fun x hx=>on x (by rw[List.length_map];exact List.mem_range.mp hx)
  rw[List.length_map,List.length_range] at h1
  rw[List.length_map,List.length_range] at h2
  omega
 have pk:((live.map (·.2)).toArray.filterMap (fun i=>es[i]?)).toList=(live.map (·.2)).map fun i=>es.getD i (0,.none):=by
  rw[Array.toList_filterMap]
  exact pick_map es _ fun i hi=>by
   obtain⟨y,hy,rfl⟩:=List.mem_map.mp hi
   have:=lt y hy
   rw[List.length_map] at this
   omega
 unfold setRelay
 refine wpAny_bind (wpAny_setState_of ho hd hf ?_)
 dsimp only
 rw[if_neg (by rw[sizeLine_eq];omega)]
 first|refine wpAny_bind (wpAny_pure ?_)|skip
 have e2:(tabOf m mv l (L.map (·.1))).relaid (es.map (·.1)) n=some ({mask:=SetTable.sizeAbove n - 1,place:=(live.map (·.1)).toArray,dummies:=#[],finger:=0,led:=l,moves:=(tabOf m mv l (L.map (·.1))).movedTo (SetTable.sizeAbove n - 1),plain:=true},(live.map (·.2)).toArray):=by unfold SetTable.relaid;rw[eh];exact e1
 rw[e2]
 refine wpAny_bind ?_
 show wpAny _ _ (if ((live.map (·.2)).toArray.filterMap (fun i=>es[i]?)).size != es.size then _ else _) _ _ _
 have psz:((live.map (·.2)).toArray.filterMap (fun i=>es[i]?)).size=es.size:=by
  rw[← Array.length_toList,pk,List.length_map,List.length_map,llen,hsz]
 rw[if_neg (by rw[psz];simp)]
 first|refine wpAny_pure ?_|refine wpAny_bind (wpAny_pure (wpAny_pure ?_))
 dsimp only
 have m127:=(mask_le hm).1
 refine wpAny_storeSet_of ho hd ?_ (by rw[sizeLine_eq,psz];omega)
 have sb:=Heap.SameBut.update s.heap a (Obj.putSet ((live.map (·.2)).toArray.filterMap (fun i=>es[i]?)) {mask:=SetTable.sizeAbove n - 1,place:=(live.map (·.1)).toArray,dummies:=#[],finger:=0,led:=l,moves:=(tabOf m mv l (L.map (·.1))).movedTo (SetTable.sizeAbove n - 1),plain:=true})
 refine h _ (live.map fun x=>(x.1,(L.map (·.2)).getD x.2 [])) sb ⟨_,(live.map (·.2)).toArray.filterMap (fun i=>es[i]?),ep+1,SetTable.sizeAbove n - 1,(tabOf m mv l (L.map (·.1))).movedTo (SetTable.sizeAbove n - 1),put_get ho hd,hex,?_,?_,fun b r q=>is_keeps (sub b r q) ho hd sb,ly2,hm,?_⟩ (fun x=>?_) (by rw[List.length_map,llen])
 ·rw[List.map_map];rfl
 ·refine⟨?_,fun i e r h1 h2=>?_⟩
  ·rw[pk];simp
  ·rw[pk,List.getElem?_map,List.getElem?_map] at h1
   rw[List.map_map,List.getElem?_map] at h2
   cases hx:live[i]? with
   | none=>rw[hx] at h1;cases h1
   | some x =>
     rw[hx] at h1 h2
     have hlt:=lt x (List.mem_of_getElem? hx)
     rw[List.length_map] at hlt
     cases h1
     cases h2
     have g1:es.toList[x.2]?=some (es.getD x.2 (0,.none)):=by simp [Array.getD,show x.2<es.size by omega]
     exact er.2 x.2 _ _ g1 (by show(L.map (·.2))[x.2]?=some ((L.map (·.2)).getD x.2 []);rw[getD_at (by rw[List.length_map];exact hlt)];exact List.getElem?_eq_getElem _)
 ·rw[List.length_map,llen];exact hfu
 ·rw[List.map_map,List.mem_map]
  constructor
  ·rintro⟨y,hy,rfl⟩
   have:=lt y hy
   show(L.map (·.2)).getD y.2 []∈_
   rw[getD_at this]
   exact List.getElem_mem _
  ·intro hx
   obtain⟨i,hi⟩:=List.getElem?_of_mem hx
   obtain⟨hl',he⟩:=List.getElem?_eq_some_iff.mp hi
   obtain⟨y,hy,e⟩:=List.mem_map.mp (on i hl')
   refine⟨y,hy,?_⟩
   show(L.map (·.2)).getD y.2 []=x
   rw[e,getD_at hl',he]
theorem grow_ok {n m:Nat}(hm:m∈masks)(h1:n * 5<m * 3)(h2:m * 3≤(n+1) * 5) (h3:n+1≤64):SetTable.sizeAbove (SetTable.grown (n+1)) - 1∈masks∧SetTable.sizeAbove (SetTable.grown (n+1))≤1000∧(n+1) * 5<(SetTable.sizeAbove (SetTable.grown (n+1)) - 1) * 3:=by
 simp only[masks,List.mem_cons,List.not_mem_nil,or_false] at hm
 rcases hm with rfl|rfl|rfl
 ·have:n=4:=by omega
  subst this
  decide
 ·have:n=18:=by omega
  subst this
  decide
 ·omega
theorem srow_add {r:List Nat}{b:Addr}{Q:Bool→Shared→Prop}(hS:SRow prog w Gd s.heap a l L)(hr:r∈subs6)(hb:Gd b r)(hrm:(tkd prog w).room A) (hl:L.length<64)
  (h:∀(c:Bool) h' L',Heap.SameBut a s.heap h'→SRow prog w Gd h' a l L'→(∀ x,x∈L'.map (·.2)↔x∈L.map (·.2)∨x=r)→L'.length≤L.length+1→Q c {s with heap:=h'}):wpAny (model prog w) A (setAddHashed a (.ref b) (tupH r)) Q E s:=by
 obtain⟨o,es,ep,m,mv,R⟩:=hS
 have hf:=R.recG.fits
 have hsz:=R.sz
 unfold setAddHashed setAddHashedIn
 refine wpAny_holding (wpAny_bind (wpAny_setState_of R.ho R.hd hf ?_))
 dsimp only
 rw[if_neg (by simp [byScan,Value.scannable])]
 have hb':=R.sub _ _ hb
 refine wpAny_bind (search_row R hr hb' hrm (fun hm=>?_) fun hm j pre post hj e hp=>?_)
 ·dsimp only
  refine wpAny_pure (h false s.heap L (Heap.SameBut.refl a s.heap) ⟨o,es,ep,m,mv,R⟩ (fun x=>⟨.inl,fun q=>q.elim id fun q=>q▸hm⟩) (by omega))
 ·dsimp only
  refine wpAny_bind (wpAny_setState_of R.ho R.hd hf ?_)
  dsimp only
  obtain⟨ly',hp'⟩:=R.ly.put hr hm hj e hp rfl
  generalize hpp:SetTable.below (L.map (·.1)).toArray j=p at ly' hp'
  have eput:(tabOf m mv l (L.map (·.1))).put j=(tabOf m mv l ((L.take p++(j,r)::L.drop p).map (·.1)),p):=by
   unfold SetTable.put tabOf
   dsimp only
   rw[hpp]
   have e1:SetTable.insertAt (L.map (·.1)).toArray p j=((L.take p++(j,r)::L.drop p).map (·.1)).toArray:=by
    apply Array.toList_inj.mp
    rw[insAt_list]
    simp [List.map_take,List.map_drop]
   rw[e1]
   have e2:SetTable.has (#[]:Array Nat) j=false:=by simp [SetTable.has,SetTable.below,SetTable.below.go]
   simp [e2]
  rw[eput]
  dsimp only
  have len':(L.take p++(j,r)::L.drop p).length=L.length+1:=by simp;omega
  have mem':∀ x,x∈(L.take p++(j,r)::L.drop p).map (·.2)↔x∈L.map (·.2)∨x=r:=fun x=>by
   have:(L.map (·.2))=(L.take p).map (·.2)++(L.drop p).map (·.2):=by rw[← List.map_append,List.take_append_drop]
   rw[this,List.map_append,List.map_cons]
   simp only[List.mem_append,List.mem_cons]
   constructor
   ·rintro(q|q|q)
    ·exact .inl (.inl q)
    ·exact .inr q
    ·exact .inl (.inr q)
   ·rintro((q|q)|q)
    ·exact .inl q
    ·exact .inr (.inr q)
    ·exact .inr (.inl q)
  have er':RowsAt Gd (SetTable.insertAt es p (tupH r,.ref b)).toList ((L.take p++(j,r)::L.drop p).map (·.2)):=by
   have e0:=R.er
   rw[insAt_list]
   rw[List.map_append,List.map_cons,List.map_take,List.map_drop]
   have hlp:(es.toList.take p).length=p:=by rw[List.length_take,Array.length_toList,hsz];omega
   have hlp2:((L.map (·.2)).take p).length=p:=by rw[List.length_take,List.length_map];omega
   refine⟨?_,fun i e' r' h1 h2=>?_⟩
   ·have:=e0.1
    simp only[List.length_append,List.length_cons,List.length_take,List.length_drop]
    rw[this]
   ·rcases Nat.lt_trichotomy i p with hc|hc|hc
    ·rw[List.getElem?_append_left (by omega),List.getElem?_take,if_pos hc] at h1 h2
     exact e0.2 i e' r' h1 h2
    ·subst hc
     rw[List.getElem?_append_right (by omega),hlp,Nat.sub_self] at h1
     rw[List.getElem?_append_right (by omega),hlp2,Nat.sub_self] at h2
     cases h1
     cases h2
     exact⟨rfl,b,rfl,hb⟩
    ·rw[List.getElem?_append_right (by omega),hlp,List.getElem?_cons,if_neg (by omega),List.getElem?_drop] at h1
     rw[List.getElem?_append_right (by omega),hlp2,List.getElem?_cons,if_neg (by omega),List.getElem?_drop] at h2
     exact e0.2 _ e' r' h1 h2
  have hz1:(SetTable.insertAt es p (tupH r,Value.ref b)).size≤sizeLine:=by
   have:=er'.1
   rw[Array.length_toList,List.length_map,len'] at this
   rw[sizeLine_eq,this];omega
  generalize hes1:SetTable.insertAt es p (tupH r,Value.ref b)=es1 at er' hz1 ⊢
  generalize hL1:L.take p++(j,r)::L.drop p=L1 at ly' len' mem' er' ⊢
  refine wpAny_bind ?_
  refine hbv_tuple hb' ?_
  simp only[if_true,Bool.not_false,Bool.true_and]
  refine wpAny_bind (wpAny_storeSet_of R.ho R.hd ?_ hz1)
  have sb1:=Heap.SameBut.update s.heap a (Obj.putSet es1 (tabOf m mv l (L1.map (·.1))))
  have sub1:∀ b r,Gd b r→(tkd prog w).is (s.heap.update a (Obj.putSet es1 (tabOf m mv l (L1.map (·.1))))) (asInts r) b:=fun b r q=>is_keeps (R.sub b r q) R.ho R.hd sb1
  have ho1:=put_get (t':=tabOf m mv l (L1.map (·.1))) (es':=es1) R.ho R.hd
  have hfull:(tabOf m mv l (L1.map (·.1))).tooFull=decide (m * 3≤L1.length * 5):=by
   unfold SetTable.tooFull SetTable.fill tabOf
   simp
  rw[hfull]
  have fu:=R.fu
  split
  ·rename_i hc
   have hc:m * 3≤L1.length * 5:=by simpa using hc
   rw[len'] at hc
   obtain⟨g1,g2,g3⟩:=grow_ok R.ms fu hc (by omega)
   have eg:SetTable.grown (es.size+1)=SetTable.grown (L.length+1):=by rw[hsz]
   rw[eg]
   refine wpAny_bind (relay_row (s:={s with heap:=_}) (L:=L1) ho1 R.ex rfl er' sub1 ly' (by rw[len'];have:=(mask_le R.ms).1;simp only[masks,List.mem_cons,List.not_mem_nil,or_false] at *;have hm3:=R.ms;simp only[masks,List.mem_cons,List.not_mem_nil,or_false] at hm3;omega) g1 g2 (by rw[len'];exact g3) fun h' L' sb S' mm ll=>?_)
   exact wpAny_pure (h true h' L' (sb1.trans sb) S' (fun x=>(mm x).trans (mem' x)) (by omega))
  ·rename_i hc
   have hc:¬ m * 3≤L1.length * 5:=by simpa using hc
   exact wpAny_pure (h true _ L1 sb1 ⟨_,es1,ep+1,m,mv,ho1,R.ex,rfl,er',sub1,ly',R.ms,by omega⟩ mem' (by omega))
end
end TL
namespace TL
open PySem L2 SR PySem.Spec PyProof.Rows
section
variable {prog:Program}{w:World}{A:Around}{R:Result→Shared→Prop}{I:Addr}{fp wr:List Addr}{G:Array GenState→Array GenState→Prop}{n:Nat}{P:Nat→Value→Prop}{St:Nat→Shared→Prop}
theorem SRow.at {Gd:Addr→List Nat→Prop}{h h':Heap}{a:Addr}{l:Bool}{L:List (Nat×List Nat)}(x:SRow prog w Gd h a l L)(k:∀ o,h.get? a=some o→h'.get? a=some o)(sub:∀ b r,Gd b r→(tkd prog w).is h' (asInts r) b):SRow prog w Gd h' a l L:=by
 obtain⟨o,es,ep,m,mv,R⟩:=x
 exact⟨o,es,ep,m,mv,k o R.ho,R.ex,R.hd,R.er,sub,R.ly,R.ms,R.fu⟩
theorem set_loopR (W:WalksS prog w A.in1 I fp wr G n P St)(S:Addr)(hSf:S∉fp)(Gd:Addr→List Nat→Prop)(hw:∀ b∈wr,∀ r,¬ Gd b r)(ks:List (List Nat)) (hn:ks.length=n)(hk6:∀ k∈ks,k∈subs6)(hn64:n≤64)(hval:∀ i v,P i v→∃ k c,ks[i]?=some k∧v=.ref c∧Gd c k)(l:Bool)(hrm:(tkd prog w).room A.in1) :
  ∀(d i:Nat)(s:Shared)(L:List (Nat×List Nat)),n - i=d→i≤n→St i s→SRow prog w Gd s.heap S l L→(∀ x,x∈L.map (·.2)↔x∈ks.take i)→L.length≤i →
   (∀ s' L',Moved (S::wr) G s s'→SRow prog w Gd s'.heap S l L'→(∀ x,x∈L'.map (·.2)↔x∈ks)→R (.ok (.ret .none)) s') →
   codeAny (model prog w) A (.builtin "set.update.loop" ⟨[.ref S,.ref I],[]⟩) R s:=by
 have hSw:S∉wr:=fun h=>hSf (W.sub _ h)
 have hsub:∀ b∈wr,b∈S::wr:=fun b hb=>List.mem_cons_of_mem _ hb
 have mv0:∀{s s':Shared}{L:List (Nat×List Nat)},SRow prog w Gd s.heap S l L→Moved wr G s s'→SRow prog w Gd s'.heap S l L:=fun{s s' L} hS hm=>hS.at (fun o e=>hm.heap S _ hSw e) fun b r q=>by
  obtain⟨_,_,_,_,_,RR⟩:=hS
  obtain⟨o',items,n',ho',rest⟩:=RR.sub b r q
  exact⟨o',items,n',hm.heap b o' (fun hb=>hw b hb r q) ho',rest⟩
 intro d
 induction d with
 | zero =>
   intro i s L hd hi hst hS hmm hll hR
   have hin:i=n:=by omega
   subst hin
   refine codeAny_builtin F.entry_set_update_loop ?_
   rw[Around.under_plainId F.plain_set_update_loop _]
   show wpAny _ A.in1 (pyNext (.ref I) >>= _) _ _ s
   refine wpAny_bind (W.done s _ _ hst fun s' hm=>?_)
   show wpAny _ A.in1 (ret Value.none) _ _ s'
   refine wpAny_pure (hR s' L (hm.mono hsub) (mv0 hS hm) ?_)
   rw[List.take_of_length_le (by omega)] at hmm
   exact hmm
 | succ d ih =>
   intro i s L hd hi hst hS hmm hll hR
   have hlt:i<n:=by omega
   refine codeAny_builtin F.entry_set_update_loop ?_
   rw[Around.under_plainId F.plain_set_update_loop _]
   show wpAny _ A.in1 (pyNext (.ref I) >>= _) _ _ s
   refine wpAny_bind (W.item i s _ _ hlt hst fun v s' hP hst' hm=>?_)
   obtain⟨k,c,hk,rfl,hkc⟩:=hval i v hP
   have hki:ks[i]'(by omega)=k:=by
    have:=List.getElem?_eq_getElem (show i<ks.length by omega)
    rw[hk] at this
    exact(Option.some.inj this).symm
   have hk6':=hk6 k (List.mem_of_getElem? hk)
   have hS':=mv0 hS hm
   have hkc':(tkd prog w).is s'.heap (asInts k) c:=by
    obtain⟨_,_,_,_,_,RR⟩:=hS'
    exact RR.sub _ _ hkc
   show wpAny _ A.in1 (holding [Value.ref c] (setAdd S (.ref c)) >>= _) _ _ s'
   refine wpAny_bind (wpAny_holding ?_)
   unfold setAdd
   refine wpAny_holding ?_
   refine wpAny_bind ((tkd prog w).pyHash hrm hkc' ?_)
   rw[tk_hash]
   refine srow_add (s:={s' with toks:=_}) (L:=L) hS' hk6' hkc hrm (by omega) fun b h' L' hsb hS2 mm2 ll2=>?_
   refine wpAny_pure ⟨plainId_quiet F.plain_set_update_loop _,ih (i+1) _ L' (by omega) hlt (W.frame _ s' _ _ hst' (Nat.le_add_right _ _) fun b hb o e=>?_) hS2 (fun x=>?_) (by omega) fun s'' L'' hm'' hS'' mm''=>?_⟩
   ·rw[hsb.2 b (fun h:b=S=>hSf (by rw[← h];exact hb))];exact e
   ·rw[mm2,hmm,List.take_succ_eq_append_getElem (by omega),List.mem_append,List.mem_singleton,hki]
   ·refine hR s'' L'' (Moved.trans W.gtrans ((hm.mono hsub).then_heap (Nat.le_add_right _ _) fun b o hb e=>?_) hm'') hS'' mm''
    rw[hsb.2 b (fun h:b=S=>hb (by rw[h];exact List.mem_cons_self))];exact e
end
theorem sub_list_set':isSubtype (.type "list") (.type "set")=pure false:=by rw[isSubtype_type];kernel_rfl
theorem sub_list_frozenset':isSubtype (.type "list") (.type "frozenset")=pure false:=by rw[isSubtype_type];kernel_rfl
end TL
namespace TL
open PySem L2 SR PySem.Spec PyProof.Rows
set_option maxHeartbeats 3200000 in
theorem call_setTR {prog:Program}{w:World}{A:Around}{E:Value→Shared→Prop}{s:Shared}{l:Addr}{items:Array Value}{ks:List (List Nat)}{Q:Value→Shared→Prop}
  (hh:A.handled=none)(hl:s.heap.IsTuple l items)(hlen:items.size=ks.length)(Gd:Addr→List Nat→Prop)(hG:∀ b r,Gd b r→(tkd prog w).is s.heap (asInts r) b) (hi:∀(i:Nat)(v:Value)(k:List Nat),items[i]?=some v→ks[i]?=some k→∃ c,v=.ref c∧Gd c k) (hk6:∀ k∈ks,k∈subs6)(hn64:ks.length≤64)(hu:A.units+8<cLine)
  (h:∀(h':Heap) (tk:Nat)(L:List (Nat×List Nat)),SRow prog w Gd h' s.heap.objs.size (!byT w) L→(∀ x,x∈L.map (·.2)↔x∈ks)→s.heap.objs.size≤h'.objs.size→(∀ b o,s.heap.get? b=some o→h'.get? b=some o)→Q (.ref s.heap.objs.size) {s with heap:=h',toks:=tk}) :
  wpAny (model prog w) A (call (.type "set") [.ref l]) Q E s:=by
 obtain⟨c,tl,hmro⟩:=F.called_set.mro
 have hmade:=F.called_set.made
 have hsub:=F.called_set.sub
 refine wpAny_call (codeAny_of_tree ?_)
 show wpAny _ _ (callAny (.type "set") _) _ _ _
 refine wpAny_pure ⟨Code.quiet_builtin _ (by decide +kernel),codeAny_builtin F.entry_type_call ?_⟩
 rw[Around.under_plain (weight_type_call_type "set" [.ref l] []) rfl]
 have h1:=F.called_set.notType
 have h2:=F.called_set.canCreate
 have hct:=F.typeCall_set_1 (.ref l)
 repeat (any_goals (first|assumption|wp_step))
 refine codeAny_mono (code_set_new (.ref l) (E:=E) (Q₁:=fun obj s₁=>obj=.ref s.heap.objs.size∧s₁={s with heap:=s.heap.push {cls:=.type "set",dict:=none,data:=.set #[] 0 (tabOf 7 0 (!byT w) [])}}) ⟨rfl,rfl⟩) fun r s₁ hr=>?_
 cases r with
 | error e=>exact hr
 | ok fl =>
   cases fl with
   | ret obj =>
     obtain⟨rfl,rfl⟩:=hr
     have hS:(s.heap.push {cls:=.type "set",dict:=none,data:=.set #[] 0 (tabOf 7 0 (!byT w) [])}).get? s.heap.objs.size=some {cls:=.type "set",dict:=none,data:=.set #[] 0 (tabOf 7 0 (!byT w) [])}:=Heap.get?_push_size _ rfl
     have hT:Shared.TypeIs {s with heap:=s.heap.push {cls:=.type "set",dict:=none,data:=.set #[] 0 (tabOf 7 0 (!byT w) [])}} (.ref s.heap.objs.size) "set":=⟨_,hS,rfl⟩
     have hli:=F.called_set.init.lookup
     have hbi:=F.called_set.init.bind (.ref s.heap.objs.size)
     repeat (any_goals (first|assumption|wp_step))
     refine codeAny_mono (codeAny_call_builtin (R:=wants (fun r s₂=>r=.none∧∃ h' tk,s₂={s with heap:=h',toks:=tk} ∧
       (∃ L,SRow prog w Gd h' s.heap.objs.size (!byT w) L∧∀ x,x∈L.map (·.2)↔x∈ks)∧s.heap.objs.size≤h'.objs.size∧(∀ b o,s.heap.get? b=some o→h'.get? b=some o)) E) F.called_set.init.plain F.entry_set_init (check_set_init_1 hT ?_)) fun r₂ s₂ hr₂=>?_
     ·obtain⟨ol,hol,hcl,nl,hdl⟩:=hl
      obtain⟨ocls,odict,odata,oslots⟩:=ol
      simp only at hcl hdl
      subst hcl;subst hdl
      have hol':(s.heap.push {cls:=.type "set",dict:=none,data:=.set #[] 0 (tabOf 7 0 (!byT w) [])}).get? l=some {cls:=.type "tuple",dict:=odict,data:=.seq items nl,slots:=oslots}:=Heap.get?_push_of_some _ hol
      have hsls:=sub_tuple_set'
      have hslf:=sub_tuple_frozenset'
      have hne:(Value.type "tuple"==Value.type "dict")=false:=by decide
      have hl1:(s.heap.push {cls:=.type "set",dict:=none,data:=.set #[] 0 (tabOf 7 0 (!byT w) [])}).IsTuple l items:=⟨_,hol',rfl,nl,rfl⟩
      unfold Builtin.«set.__init__» noKeywords Builtin.Frozenset.updateFrom
      generalize hPI:pyIter=PI
      wp_walk
      subst hPI
      refine wpAny_pyIter_tuple hl1 ?_
      refine wpAny_bind (wpAny_runValue ?_)
      have hlS:l<s.heap.objs.size:=Heap.lt_size hol
      have hh3:A.in1.in1.in1.handled=none:=by simp [hh]
      have hneI:l≠(s.heap.push {cls:=.type "set",dict:=none,data:=.set #[] 0 (tabOf 7 0 (!byT w) [])}).objs.size:=by
       rw[Heap.size_push];exact Nat.ne_of_lt (Nat.lt_succ_of_lt hlS)
      have hSf:s.heap.objs.size∉[(s.heap.push {cls:=.type "set",dict:=none,data:=.set #[] 0 (tabOf 7 0 (!byT w) [])}).objs.size,l]:=by
       rw[Heap.size_push];simp only[List.mem_cons,List.mem_singleton,List.not_mem_nil,or_false,not_or]
       exact⟨Nat.ne_of_lt (Nat.lt_succ_self _),Nat.ne_of_gt hlS⟩
      have hval:∀(i:Nat)(v:Value),items[i]?=some v→∃ k c,ks[i]?=some k∧v=.ref c∧Gd c k:=fun i v hv=>by
       have hil:i<ks.length:=by
        have:=(Array.getElem?_eq_some_iff.mp hv).1
        omega
       obtain⟨c,e1,e2⟩:=hi i v ks[i] hv (List.getElem?_eq_getElem hil)
       exact⟨ks[i],c,List.getElem?_eq_getElem hil,e1,e2⟩
      refine set_loopR ((Walks.tuple hh3 _ l hneI items).toS) s.heap.objs.size hSf Gd (fun b hb r q=>?hw) ks hlen.symm hk6 (by omega) hval (!byT w) (show Around.units _<cLine by simp;omega) (items.size - 0) 0 _ [] (by omega) (Nat.zero_le _)
       ⟨⟨_,Heap.get?_push_size _ rfl,rfl,rfl⟩,hl1.push _⟩ ?hS0 (by simp) (Nat.zero_le _) ?hR
      case hw =>
       obtain⟨o',_,_,ho',_⟩:=hG b r q
       have:=Heap.lt_size ho'
       rw[List.mem_singleton.mp hb,Heap.size_push] at this
       exact absurd this (Nat.not_lt.mpr (Nat.le_succ _))
      case hS0 =>
       have hget:((s.heap.push {cls:=.type "set",dict:=none,data:=.set #[] 0 (tabOf 7 0 (!byT w) [])}).push {cls:=.type "tuple_iterator",data:=.fields #[.ref l,.int 0 0]}).get? s.heap.objs.size
         = some {cls:=.type "set",dict:=none,data:=.set #[] 0 (tabOf 7 0 (!byT w) [])}:=Heap.get?_push_of_some _ hS
       exact⟨_,#[],0,7,0,hget,⟨rfl,rfl,rfl⟩,rfl,⟨rfl,fun i e r h1=>by simp at h1⟩,fun b r q=>is_same (hG b r q) fun b o q=>Heap.get?_push_of_some _ (Heap.get?_push_of_some _ q),⟨List.Pairwise.nil,by simp,List.Pairwise.nil,by simp,by simp⟩,by decide,by decide⟩
      case hR =>
       intro s' L' hm hS' mm'
       obtain⟨h',g',d',tk',os'⟩:=s'
       have eg:g'=s.gens:=hm.gens
       have ed:d'=s.drawn:=hm.drawn
       have eo:os'=s.os:=hm.os
       subst eg;subst ed;subst eo
       show wpAny _ _ _ _ _ _
       refine wpAny_pure ?_
       show wpAny _ _ (ret Value.none) _ _ _
       refine wpAny_pure ⟨rfl,h',tk',rfl,⟨L',hS',mm'⟩,?_,fun b o e=>?_⟩
       ·obtain⟨_,_,_,_,_,q⟩:=hS'
        exact Nat.le_of_lt (Heap.lt_size q.ho)
       ·have hb:=Heap.lt_size e
        have hb1:b≠s.heap.objs.size:=Nat.ne_of_lt hb
        have hb2:b≠(s.heap.push {cls:=.type "set",dict:=none,data:=.set #[] 0 (tabOf 7 0 (!byT w) [])}).objs.size:=by
         rw[Heap.size_push];exact Nat.ne_of_lt (Nat.lt_succ_of_lt hb)
        exact hm.heap b o (by simp only[List.mem_cons,List.mem_singleton,List.not_mem_nil,or_false,not_or];exact⟨hb1,hb2⟩) (Heap.get?_push_of_some _ (Heap.get?_push_of_some _ e))
     ·cases r₂ with
      | error e=>exact hr₂
      | ok fl₂ =>
        cases fl₂ with
        | ret r =>
          obtain⟨rfl,h',tk,rfl,⟨L',hS',mm'⟩,hz',hk'⟩:=hr₂
          repeat (any_goals (first|assumption|wp_step))
          exact h _ _ L' hS' mm' hz' hk'
        | _=>exact hr₂.elim
   | _=>exact hr.elim
end TL
namespace TL
open PySem L2 SR PySem.Spec PyProof.Rows
set_option maxHeartbeats 3200000 in
theorem call_setLR {prog:Program}{w:World}{A:Around}{E:Value→Shared→Prop}{s:Shared}{l:Addr}{items:Array Value}{ks:List (List Nat)}{Q:Value→Shared→Prop}
  (hh:A.handled=none)(hl:s.heap.IsList l items)(hlen:items.size=ks.length)(Gd:Addr→List Nat→Prop)(hG:∀ b r,Gd b r→(tkd prog w).is s.heap (asInts r) b) (hi:∀(i:Nat)(v:Value)(k:List Nat),items[i]?=some v→ks[i]?=some k→∃ c,v=.ref c∧Gd c k) (hk6:∀ k∈ks,k∈subs6)(hn64:ks.length≤64)(hu:A.units+8<cLine)
  (h:∀(h':Heap) (tk:Nat)(L:List (Nat×List Nat)),SRow prog w Gd h' s.heap.objs.size (!byT w) L→(∀ x,x∈L.map (·.2)↔x∈ks)→s.heap.objs.size≤h'.objs.size→(∀ b o,s.heap.get? b=some o→h'.get? b=some o)→Q (.ref s.heap.objs.size) {s with heap:=h',toks:=tk}) :
  wpAny (model prog w) A (call (.type "set") [.ref l]) Q E s:=by
 obtain⟨c,tl,hmro⟩:=F.called_set.mro
 have hmade:=F.called_set.made
 have hsub:=F.called_set.sub
 refine wpAny_call (codeAny_of_tree ?_)
 show wpAny _ _ (callAny (.type "set") _) _ _ _
 refine wpAny_pure ⟨Code.quiet_builtin _ (by decide +kernel),codeAny_builtin F.entry_type_call ?_⟩
 rw[Around.under_plain (weight_type_call_type "set" [.ref l] []) rfl]
 have h1:=F.called_set.notType
 have h2:=F.called_set.canCreate
 have hct:=F.typeCall_set_1 (.ref l)
 repeat (any_goals (first|assumption|wp_step))
 refine codeAny_mono (code_set_new (.ref l) (E:=E) (Q₁:=fun obj s₁=>obj=.ref s.heap.objs.size∧s₁={s with heap:=s.heap.push {cls:=.type "set",dict:=none,data:=.set #[] 0 (tabOf 7 0 (!byT w) [])}}) ⟨rfl,rfl⟩) fun r s₁ hr=>?_
 cases r with
 | error e=>exact hr
 | ok fl =>
   cases fl with
   | ret obj =>
     obtain⟨rfl,rfl⟩:=hr
     have hS:(s.heap.push {cls:=.type "set",dict:=none,data:=.set #[] 0 (tabOf 7 0 (!byT w) [])}).get? s.heap.objs.size=some {cls:=.type "set",dict:=none,data:=.set #[] 0 (tabOf 7 0 (!byT w) [])}:=Heap.get?_push_size _ rfl
     have hT:Shared.TypeIs {s with heap:=s.heap.push {cls:=.type "set",dict:=none,data:=.set #[] 0 (tabOf 7 0 (!byT w) [])}} (.ref s.heap.objs.size) "set":=⟨_,hS,rfl⟩
     have hli:=F.called_set.init.lookup
     have hbi:=F.called_set.init.bind (.ref s.heap.objs.size)
     repeat (any_goals (first|assumption|wp_step))
     refine codeAny_mono (codeAny_call_builtin (R:=wants (fun r s₂=>r=.none∧∃ h' tk,s₂={s with heap:=h',toks:=tk} ∧
       (∃ L,SRow prog w Gd h' s.heap.objs.size (!byT w) L∧∀ x,x∈L.map (·.2)↔x∈ks)∧s.heap.objs.size≤h'.objs.size∧(∀ b o,s.heap.get? b=some o→h'.get? b=some o)) E) F.called_set.init.plain F.entry_set_init (check_set_init_1 hT ?_)) fun r₂ s₂ hr₂=>?_
     ·obtain⟨ol,hol,hcl,nl,hdl⟩:=hl
      obtain⟨ocls,odict,odata,oslots⟩:=ol
      simp only at hcl hdl
      subst hcl;subst hdl
      have hol':(s.heap.push {cls:=.type "set",dict:=none,data:=.set #[] 0 (tabOf 7 0 (!byT w) [])}).get? l=some {cls:=.type "list",dict:=odict,data:=.seq items nl,slots:=oslots}:=Heap.get?_push_of_some _ hol
      have hsls:=sub_list_set'
      have hslf:=sub_list_frozenset'
      have hne:(Value.type "list"==Value.type "dict")=false:=by decide
      have hl1:(s.heap.push {cls:=.type "set",dict:=none,data:=.set #[] 0 (tabOf 7 0 (!byT w) [])}).IsList l items:=⟨_,hol',rfl,nl,rfl⟩
      unfold Builtin.«set.__init__» noKeywords Builtin.Frozenset.updateFrom
      generalize hPI:pyIter=PI
      wp_walk
      subst hPI
      refine wpAny_pyIter_list hl1 ?_
      refine wpAny_bind (wpAny_runValue ?_)
      have hlS:l<s.heap.objs.size:=Heap.lt_size hol
      have hh3:A.in1.in1.in1.handled=none:=by simp [hh]
      have hneI:l≠(s.heap.push {cls:=.type "set",dict:=none,data:=.set #[] 0 (tabOf 7 0 (!byT w) [])}).objs.size:=by
       rw[Heap.size_push];exact Nat.ne_of_lt (Nat.lt_succ_of_lt hlS)
      have hSf:s.heap.objs.size∉[(s.heap.push {cls:=.type "set",dict:=none,data:=.set #[] 0 (tabOf 7 0 (!byT w) [])}).objs.size,l]:=by
       rw[Heap.size_push];simp only[List.mem_cons,List.mem_singleton,List.not_mem_nil,or_false,not_or]
       exact⟨Nat.ne_of_lt (Nat.lt_succ_self _),Nat.ne_of_gt hlS⟩
      have hval:∀(i:Nat)(v:Value),items[i]?=some v→∃ k c,ks[i]?=some k∧v=.ref c∧Gd c k:=fun i v hv=>by
       have hil:i<ks.length:=by
        have:=(Array.getElem?_eq_some_iff.mp hv).1
        omega
       obtain⟨c,e1,e2⟩:=hi i v ks[i] hv (List.getElem?_eq_getElem hil)
       exact⟨ks[i],c,List.getElem?_eq_getElem hil,e1,e2⟩
      refine set_loopR ((Walks.list hh3 _ l hneI items).toS) s.heap.objs.size hSf Gd (fun b hb r q=>?hw) ks hlen.symm hk6 (by omega) hval (!byT w) (show Around.units _<cLine by simp;omega) (items.size - 0) 0 _ [] (by omega) (Nat.zero_le _)
       ⟨⟨_,Heap.get?_push_size _ rfl,rfl,rfl⟩,hl1.push _⟩ ?hS0 (by simp) (Nat.zero_le _) ?hR
      case hw =>
       obtain⟨o',_,_,ho',_⟩:=hG b r q
       have:=Heap.lt_size ho'
       rw[List.mem_singleton.mp hb,Heap.size_push] at this
       exact absurd this (Nat.not_lt.mpr (Nat.le_succ _))
      case hS0 =>
       have hget:((s.heap.push {cls:=.type "set",dict:=none,data:=.set #[] 0 (tabOf 7 0 (!byT w) [])}).push {cls:=.type "list_iterator",data:=.fields #[.ref l,.int 0 0]}).get? s.heap.objs.size
         = some {cls:=.type "set",dict:=none,data:=.set #[] 0 (tabOf 7 0 (!byT w) [])}:=Heap.get?_push_of_some _ hS
       exact⟨_,#[],0,7,0,hget,⟨rfl,rfl,rfl⟩,rfl,⟨rfl,fun i e r h1=>by simp at h1⟩,fun b r q=>is_same (hG b r q) fun b o q=>Heap.get?_push_of_some _ (Heap.get?_push_of_some _ q),⟨List.Pairwise.nil,by simp,List.Pairwise.nil,by simp,by simp⟩,by decide,by decide⟩
      case hR =>
       intro s' L' hm hS' mm'
       obtain⟨h',g',d',tk',os'⟩:=s'
       have eg:g'=s.gens:=hm.gens
       have ed:d'=s.drawn:=hm.drawn
       have eo:os'=s.os:=hm.os
       subst eg;subst ed;subst eo
       show wpAny _ _ _ _ _ _
       refine wpAny_pure ?_
       show wpAny _ _ (ret Value.none) _ _ _
       refine wpAny_pure ⟨rfl,h',tk',rfl,⟨L',hS',mm'⟩,?_,fun b o e=>?_⟩
       ·obtain⟨_,_,_,_,_,q⟩:=hS'
        exact Nat.le_of_lt (Heap.lt_size q.ho)
       ·have hb:=Heap.lt_size e
        have hb1:b≠s.heap.objs.size:=Nat.ne_of_lt hb
        have hb2:b≠(s.heap.push {cls:=.type "set",dict:=none,data:=.set #[] 0 (tabOf 7 0 (!byT w) [])}).objs.size:=by
         rw[Heap.size_push];exact Nat.ne_of_lt (Nat.lt_succ_of_lt hb)
        exact hm.heap b o (by simp only[List.mem_cons,List.mem_singleton,List.not_mem_nil,or_false,not_or];exact⟨hb1,hb2⟩) (Heap.get?_push_of_some _ (Heap.get?_push_of_some _ e))
     ·cases r₂ with
      | error e=>exact hr₂
      | ok fl₂ =>
        cases fl₂ with
        | ret r =>
          obtain⟨rfl,h',tk,rfl,⟨L',hS',mm'⟩,hz',hk'⟩:=hr₂
          repeat (any_goals (first|assumption|wp_step))
          exact h _ _ L' hS' mm' hz' hk'
        | _=>exact hr₂.elim
   | _=>exact hr.elim
end TL
namespace TL
open PySem L2 SR PySem.W PyProof.Rows
noncomputable def kasRun {α:Type}(b:Nat→Nat→Bool):KasT α→α
 | .ret a=>a
 | .ask i j k=>kasRun b (k (b i j))
theorem kasRun_bind {α β:Type}(b:Nat→Nat→Bool)(f:α→KasT β):∀ t:KasT α,kasRun b (t.bind f)=kasRun b (f (kasRun b t))
 | .ret a=>rfl
 | .ask i j k=>kasRun_bind b f (k (b i j))
noncomputable def kasIn {α:Type} (n:Nat)(b:Nat→Nat→Bool):KasT α→Prop
 | .ret _=>True
 | .ask i j k=>(i<n∧j<n)∧kasIn n b (k (b i j))
theorem kasIn_bind {α β:Type}{n:Nat}{b:Nat→Nat→Bool}{f:α→KasT β}:∀{t:KasT α},kasIn n b t→kasIn n b (f (kasRun b t))→kasIn n b (t.bind f)
 | .ret a,_,h=>h
 | .ask i j k,h,h'=>⟨h.1,kasIn_bind h.2 h'⟩
theorem kasRun_wp {α:Type}{b:Nat→Nat→Bool}{cmp:Nat→Nat→(Bool→Shared→Prop)→Shared→Prop}{s:Shared}{n:Nat}(h:∀ i j C,i<n→j<n→C (b i j) s→cmp i j C s) {Q:α→Shared→Prop}:∀ t:KasT α,kasIn n b t→Q (kasRun b t) s→t.kasWp cmp Q s
 | .ret a,_,q=>q
 | .ask i j k,a,q=>h i j _ a.1.1 a.1.2 (kasRun_wp h (k (b i j)) a.2 q)
noncomputable def gp' (p:Array Nat) (k:Nat):Nat:=p.getD k 0
theorem gp_get {p:Array Nat}{k:Nat}:gp' p k=(p[k]?).getD 0:=by simp [gp',Array.getD_eq_getD_getElem?]
theorem rev_at {p:Array Nat}{i j:Nat}(hj:j≤p.size) (k:Nat):gp' (kas_rev p i j) k=if i≤k∧k<j then gp' p (i+j - 1 - k) else gp' p k:=by
 rw[gp_get,kas_rev,getElem?_mirror_all hj]
 split<;>rw[gp_get]
theorem bub_at {p:Array Nat}{src d:Nat}(hs:src<p.size)(hd:d≤src) (k:Nat):gp' (bubble p src d) k=if k=src - d then gp' p src else if src - d<k∧k≤src then gp' p (k - 1) else gp' p k:=by
 rw[gp_get,getElem?_bubble hs d hd]
 split
 ·rw[gp_get]
 ·split<;>rw[gp_get]
section
variable (K:Nat→Nat)
noncomputable def bef (x y:Nat):Prop:=K x<K y∨(K x=K y∧x<y)
noncomputable def bK (i j:Nat):Bool:=decide (K i<K j)
structure Pf (p:Array Nat) (n m:Nat):Prop where
 sz:p.size=n
 le:m≤n
 lt:∀ k,k<m→gp' p k<m
 inj:∀ a c,a<m→c<m→gp' p a=gp' p c→a=c
 id:∀ k,m≤k→k<n→gp' p k=k
noncomputable def Srt (p:Array Nat) (m:Nat):Prop:=∀ a c,a<c→c<m→bef K (gp' p a) (gp' p c)
noncomputable def Dsc (p:Array Nat) (m:Nat):Prop:=∀ a c,a<c→c<m→bef K (gp' p c) (gp' p a)
variable {K}{p:Array Nat}{n m:Nat}
theorem bK_t {i j:Nat}(h:K i<K j):bK K i j=true:=decide_eq_true h
theorem bK_f {i j:Nat}(h:¬ K i<K j):¬ bK K i j=true:=by rw[show bK K i j=false from decide_eq_false h];decide
theorem Pf.all (P:Pf p n m){k:Nat}(h:k<n):gp' p k<n:=by
 by_cases q:k<m
 ·have:=P.lt k q;have:=P.le;omega
 ·rw[P.id k (by omega) h];exact h
theorem Pf.more (P:Pf p n m)(h:m<n):Pf p n (m+1):=by
 refine⟨P.sz,h,fun k hk=>?_,fun a c ha hc e=>?_,fun k h1 h2=>P.id k (by omega) h2⟩
 ·by_cases e:k=m
  ·subst e;rw[P.id k (Nat.le_refl _) h];omega
  ·have:=P.lt k (by omega);omega
 ·have im:=P.id m (Nat.le_refl _) h
  by_cases e1:a=m
  ·by_cases e2:c=m
   ·omega
   ·have:=P.lt c (by omega);rw[e1,im] at e;omega
  ·by_cases e2:c=m
   ·have:=P.lt a (by omega);rw[e2,im] at e;omega
   ·exact P.inj a c (by omega) (by omega) e
theorem Pf.to (P:Pf p n m):∀{k:Nat},m≤k→k≤n→Pf p n k
 | 0,h1,_=>by
   have:m=0:=by omega
   subst this;exact P
 | k+1,h1,h2=>by
   by_cases e:m=k+1
   ·subst e;exact P
   ·exact(P.to (k:=k) (by omega) (by omega)).more (by omega)
theorem Pf.rev (P:Pf p n m){i j:Nat}(hj:j≤m):Pf (kas_rev p i j) n m:=by
 have hz:j≤p.size:=by have:=P.sz;have:=P.le;omega
 refine⟨(kas_rev_size i j).trans P.sz,P.le,fun k hk=>?_,fun a c ha hc e=>?_,fun k h1 h2=>?_⟩
 ·rw[rev_at hz]
  split
  ·exact P.lt _ (by omega)
  ·exact P.lt _ hk
 ·rw[rev_at hz,rev_at hz] at e
  split at e<;>split at e
  ·have:=P.inj _ _ (by omega) (by omega) e;omega
  ·have:=P.inj _ _ (by omega) (by omega) e;omega
  ·have:=P.inj _ _ (by omega) (by omega) e;omega
  ·exact P.inj _ _ ha hc e
 ·rw[rev_at hz,if_neg (by omega)]
  exact P.id k h1 h2
theorem asc_ok (P:Pf p n m):∀(f m':Nat),m≤m'→1≤m'→m'+f=n→Srt K p m'→∃ r,kasIn n (bK K) (kas_asc p f m')∧kasRun (bK K) (kas_asc p f m')=r∧m'≤r∧r≤n∧Srt K p r∧(r=n∨K (gp' p r)<K (gp' p (r - 1)))
 | 0,m',h0,h1,h2,h3=>⟨m',trivial,rfl,Nat.le_refl _,by omega,h3,.inl (by omega)⟩
 | f+1,m',h0,h1,h2,h3=>by
   unfold kas_asc kasRun kasIn
   show ∃ r,((gp' p m'<n∧gp' p (m' - 1)<n)∧kasIn n (bK K) (if bK K (gp' p m') (gp' p (m' - 1))=true then _ else _))∧kasRun (bK K) (if bK K (gp' p m') (gp' p (m' - 1))=true then _ else _)=r∧_
   have ain:gp' p m'<n∧gp' p (m' - 1)<n:=⟨P.all (by omega),P.all (by omega)⟩
   by_cases hc:K (gp' p m')<K (gp' p (m' - 1))
   ·rw[if_pos (bK_t hc)]
    exact⟨m',⟨ain,trivial⟩,rfl,Nat.le_refl _,by omega,h3,.inr hc⟩
   ·rw[if_neg (bK_f hc)]
    obtain⟨r,kin,e,a1,a2,a3,a4⟩:=asc_ok P f (m'+1) (by omega) (by omega) (by omega) fun a c hac hcm=>by
     by_cases e:c=m'
     ·subst e
      have hid:gp' p c=c:=P.id c h0 (by omega)
      have hlt:gp' p a<c:=by
       by_cases q:a<m
       ·have:=P.lt a q;omega
       ·rw[P.id a (by omega) (by omega)];exact hac
      have hle:K (gp' p a)≤K (gp' p (c - 1)):=by
       by_cases q:a=c - 1
       ·rw[q];exact Nat.le_refl _
       ·rcases h3 a (c - 1) (by omega) (by omega) with h|h
        ·omega
        ·omega
      unfold bef
      omega
     ·exact h3 a c hac (by omega)
    exact⟨r,⟨ain,kin⟩,e,by omega,a2,a3,a4⟩
structure Dq (K:Nat→Nat)(p:Array Nat) (m q:Nat):Prop where
 le:q+1≤m
 d1:∀ a c,a<c→c<m - (q+1)→bef K (gp' p c) (gp' p a)
 d2:∀ a c,a<m - (q+1)→m - (q+1)≤c→c<m→K (gp' p c)<K (gp' p a)
 d3:∀ a c,m - (q+1)≤a→a<c→c<m→K (gp' p a)=K (gp' p c)∧gp' p a<gp' p c
theorem Dq.turn {q:Nat}(D:Dq K p m q)(P:Pf p n m):Dsc K (kas_rev p (m - (q+1)) m) m:=by
 have hz:m≤p.size:=by have:=P.sz;have:=P.le;omega
 have hq:=D.le
 intro a c hac hcm
 rw[rev_at hz,rev_at hz]
 by_cases h1:m - (q+1)≤a
 ·rw[if_pos (by omega),if_pos (by omega)]
  obtain⟨e1,e2⟩:=D.d3 (m - (q+1)+m - 1 - c) (m - (q+1)+m - 1 - a) (by omega) (by omega) (by omega)
  exact .inr ⟨e1,e2⟩
 ·rw[if_neg (by omega:¬(m - (q+1)≤a∧a<m))]
  by_cases h2:m - (q+1)≤c
  ·rw[if_pos (by omega)]
   exact .inl (D.d2 a _ (by omega) (by omega) (by omega))
  ·rw[if_neg (by omega)]
   exact D.d1 a c hac (by omega)
theorem Dq.flat (D:Dq K p m 0):Dsc K p m:=fun a c hac hcm=>by
 by_cases h:c<m - 1
 ·exact D.d1 a c hac (by omega)
 ·exact .inl (D.d2 a c (by omega) (by omega) hcm)
theorem desc_ok:∀(f:Nat)(p:Array Nat) (m q:Nat),Pf p n m→Dq K p m q→m+f=n →
  ∃ p' m' q',kasIn n (bK K) (kas_desc f p m q)∧kasRun (bK K) (kas_desc f p m q)=(p',m',q')∧Pf p' n m'∧Dq K p' m' q'∧m≤m'
 | 0,p,m,q,P,D,h=>⟨p,m,q,trivial,rfl,P,D,Nat.le_refl _⟩
 | f+1,p,m,q,P,D,h=>by
   have hq:=D.le
   have hid:gp' p m=m:=P.id m (Nat.le_refl _) (by omega)
   have ain:gp' p m<n∧gp' p (m - 1)<n:=⟨P.all (by omega),P.all (by omega)⟩
   unfold kas_desc kasRun kasIn
   show ∃ p' m' q',((gp' p m<n∧gp' p (m - 1)<n)∧kasIn n (bK K) (if bK K (gp' p m) (gp' p (m - 1))=true then _ else _))∧kasRun (bK K) (if bK K (gp' p m) (gp' p (m - 1))=true then _ else _)=(p',m',q')∧_
   by_cases hc:K (gp' p m)<K (gp' p (m - 1))
   ·rw[if_pos (bK_t hc)]
    have lst:∀ a,a<m→K (gp' p (m - 1))≤K (gp' p a):=fun a ha=>by
     by_cases h1:m - (q+1)≤a
     ·by_cases h2:a=m - 1
      ·rw[h2];exact Nat.le_refl _
      ·have:=(D.d3 a (m - 1) h1 (by omega) (by omega)).1;omega
     ·have:=D.d2 a (m - 1) (by omega) (by omega) (by omega);omega
    have nxt:∀ p':Array Nat,Pf p' n m→Dsc K p' m→(∀ a,a<m→K (gp' p m)<K (gp' p' a))→gp' p' m=gp' p m→Dq K p' (m+1) 0:=fun p' P' D' hk hm=>⟨by omega,fun a c hac hcm=>D' a c hac (by omega),fun a c ha hc1 hc2=>by
     have:c=m:=by omega
     rw[this,hm]
     exact hk a (by omega),fun a c h1 h2 h3=>by omega⟩
    by_cases hq0:q>0
    ·rw[if_pos hq0]
     have P':=P.rev (i:=m - (q+1)) (Nat.le_refl m)
     have hz:m≤p.size:=by have:=P.sz;have:=P.le;omega
     obtain⟨p',m',q',kin,e,a1,a2,a3⟩:=desc_ok f _ (m+1) 0 (P'.more (by omega)) (nxt _ P' (D.turn P) (fun a ha=>by
      rw[rev_at hz]
      split
      ·have:=lst (m - (q+1)+m - 1 - a) (by omega);omega
      ·have:=lst a ha;omega) (by rw[rev_at hz,if_neg (by omega)])) (by omega)
     exact⟨p',m',q',⟨ain,kin⟩,e,a1,a2,by omega⟩
    ·rw[if_neg hq0]
     have hq1:q=0:=by omega
     subst hq1
     obtain⟨p',m',q',kin,e,a1,a2,a3⟩:=desc_ok f p (m+1) 0 (P.more (by omega)) (nxt p P D.flat (fun a ha=>by have:=lst a ha;omega) rfl) (by omega)
     exact⟨p',m',q',⟨ain,kin⟩,e,a1,a2,by omega⟩
   ·rw[if_neg (bK_f hc)]
    unfold kasRun kasIn
    show ∃ p' m' q',(_∧(gp' p (m - 1)<n∧gp' p m<n)∧kasIn n (bK K) (if bK K (gp' p (m - 1)) (gp' p m)=true then _ else _))∧kasRun (bK K) (if bK K (gp' p (m - 1)) (gp' p m)=true then _ else _)=(p',m',q')∧_
    by_cases hd:K (gp' p (m - 1))<K (gp' p m)
    ·rw[if_pos (bK_t hd)]
     exact⟨p,m,q,⟨ain,⟨ain.2,ain.1⟩,trivial⟩,rfl,P,D,Nat.le_refl _⟩
    ·rw[if_neg (bK_f hd)]
     have blk:∀ a,m - (q+1)≤a→a<m→K (gp' p a)=K (gp' p m):=fun a h1 h2=>by
      by_cases e:a=m - 1
      ·rw[e];omega
      ·have:=(D.d3 a (m - 1) h1 (by omega) (by omega)).1;omega
     obtain⟨p',m',q',kin,e,a1,a2,a3⟩:=desc_ok f p (m+1) (q+1) (P.more (by omega)) ⟨by omega,fun a c hac hcm=>D.d1 a c hac (by omega),fun a c ha hc1 hc2=>by
      by_cases e:c=m
      ·rw[e,← blk (m - 1) (by omega) (by omega)]
       exact D.d2 a (m - 1) (by omega) (by omega) (by omega)
      ·exact D.d2 a c (by omega) (by omega) (by omega),fun a c h1 h2 h3=>by
      by_cases e:c=m
      ·rw[e]
       refine⟨blk a (by omega) (by omega),?_⟩
       have:=P.lt a (by omega)
       omega
      ·exact D.d3 a c (by omega) h2 (by omega)⟩ (by omega)
     exact⟨p',m',q',⟨ain,⟨ain.2,ain.1⟩,kin⟩,e,a1,a2,by omega⟩
theorem tail_ok (P:Pf p n m)(D:Dsc K p m)(h1:1≤m):∃ r p',kasIn n (bK K) (kas_tail3 m n p)∧kasRun (bK K) (kas_tail3 m n p)=(r,p')∧1≤r∧r≤n∧Srt K p' r∧Pf p' n r:=by
 have hz:m≤p.size:=by have:=P.sz;have:=P.le;omega
 have P':=P.rev (i:=0) (Nat.le_refl m)
 have S:Srt K (kas_rev p 0 m) m:=fun a c hac hcm=>by
  rw[rev_at hz,rev_at hz,if_pos (by omega),if_pos (by omega)]
  exact D _ _ (by omega) (by omega)
 obtain⟨r,kin,e,a1,a2,a3,_⟩:=asc_ok P' (n - m) m (Nat.le_refl _) h1 (by have:=P.le;omega) S
 refine⟨r,kas_rev p 0 m,kasIn_bind kin (by rw[e];trivial),?_,by omega,a2,a3,?_⟩
 ·unfold kas_tail3
  rw[kasRun_bind,e];rfl
 ·exact P'.to a1 a2
theorem part_ok (P:Pf p n m)(D:Dsc K p m)(h1:1≤m)(hlt:m<n)(hk:∀ a,a<m→K (gp' p m)<K (gp' p a)):∃ r p',kasIn n (bK K) (kas_descPart m n p)∧kasRun (bK K) (kas_descPart m n p)=(r,p')∧1≤r∧r≤n∧Srt K p' r∧Pf p' n r:=by
 obtain⟨p',m',q',kin,e,a1,a2,a3⟩:=desc_ok (K:=K) (n:=n) (n - (m+1)) p (m+1) 0 (P.more hlt) ⟨by omega,fun a c hac hcm=>D a c hac (by omega),fun a c ha hc1 hc2=>by
  have:c=m:=by omega
  rw[this]
  exact hk a (by omega),fun a c h1 h2 h3=>by omega⟩ (by omega)
 unfold kas_descPart
 rw[kasRun_bind,e]
 dsimp only
 by_cases hq:q'>0
 ·rw[if_pos hq]
  obtain⟨r,p2,k2,t⟩:=tail_ok (K:=K) (a1.rev (i:=m' - (q'+1)) (Nat.le_refl _)) (a2.turn a1) (by omega)
  exact⟨r,p2,kasIn_bind kin (by rw[e];dsimp only;rw[if_pos hq];exact k2),t⟩
 ·rw[if_neg hq]
  have:q'=0:=by omega
  subst this
  obtain⟨r,p2,k2,t⟩:=tail_ok (K:=K) a1 a2.flat (by omega)
  exact⟨r,p2,kasIn_bind kin (by rw[e];dsimp only;rw[if_neg hq];exact k2),t⟩
theorem count_ok (h1:1≤n)(P:Pf p n 1):∃ r p',kasIn n (bK K) (kas_count n p)∧kasRun (bK K) (kas_count n p)=(r,p')∧1≤r∧r≤n∧Srt K p' r∧Pf p' n r:=by
 obtain⟨r,kin,e,a1,a2,a3,a4⟩:=asc_ok (K:=K) P (n - 1) 1 (Nat.le_refl _) (Nat.le_refl _) (by omega) fun a c hac hc=>by omega
 unfold kas_count
 suffices hs:∃ r2 p2,kasIn n (bK K) (if (r==n)=true then KasT.ret (r,p) else if r>1 then KasT.ask (p.getD 0 0) (p.getD (r - 1) 0) fun c=>if c=true then KasT.ret (r,p) else kas_descPart r n (kas_rev p 0 r) else kas_descPart r n p) ∧
   kasRun (bK K) (if (r==n)=true then KasT.ret (r,p) else if r>1 then KasT.ask (p.getD 0 0) (p.getD (r - 1) 0) fun c=>if c=true then KasT.ret (r,p) else kas_descPart r n (kas_rev p 0 r) else kas_descPart r n p)=(r2,p2)∧1≤r2∧r2≤n∧Srt K p2 r2∧Pf p2 n r2 by
  obtain⟨r2,p2,k2,e2,t⟩:=hs
  exact⟨r2,p2,kasIn_bind kin (by rw[e];exact k2),by rw[kasRun_bind,e];exact e2,t⟩
 by_cases hr:r=n
 ·rw[if_pos (by simp [hr])]
  exact⟨r,p,trivial,rfl,a1,a2,a3,P.to a1 a2⟩
 ·rw[if_neg (by simp [hr])]
  have hlt:r<n:=by omega
  have hk:K (gp' p r)<K (gp' p (r - 1)):=by
   rcases a4 with h|h
   ·exact absurd h hr
   ·exact h
  have Pr:=P.to a1 (Nat.le_of_lt hlt)
  by_cases h2:r>1
  ·rw[if_pos h2]
   have ain:gp' p 0<n∧gp' p (r - 1)<n:=⟨P.all (by omega),P.all (by omega)⟩
   unfold kasRun kasIn
   show ∃ r' p',((gp' p 0<n∧gp' p (r - 1)<n)∧kasIn n (bK K) (if bK K (gp' p 0) (gp' p (r - 1))=true then _ else _))∧kasRun (bK K) (if bK K (gp' p 0) (gp' p (r - 1))=true then _ else _)=(r',p')∧_
   by_cases hc:K (gp' p 0)<K (gp' p (r - 1))
   ·rw[if_pos (bK_t hc)]
    exact⟨r,p,⟨ain,trivial⟩,rfl,a1,a2,a3,Pr⟩
   ·rw[if_neg (bK_f hc)]
    have mono:∀ a c,a≤c→c<r→K (gp' p a)≤K (gp' p c):=fun a c hac hcr=>by
     by_cases e:a=c
     ·rw[e];exact Nat.le_refl _
     ·rcases a3 a c (by omega) hcr with h|h
      ·omega
      ·omega
    have all:∀ a,a<r→K (gp' p a)=K (gp' p 0):=fun a ha=>by
     have:=mono 0 a (by omega) ha
     have:=mono a (r - 1) (by omega) (by omega)
     omega
    have hz:r≤p.size:=by have:=P.sz;omega
    have hd:Dsc K (kas_rev p 0 r) r:=fun a c hac hcr=>by
     rw[rev_at hz,rev_at hz,if_pos (by omega),if_pos (by omega)]
     exact a3 _ _ (by omega) (by omega)
    have hl:∀ a,a<r→K (gp' (kas_rev p 0 r) r)<K (gp' (kas_rev p 0 r) a):=fun a ha=>by
     rw[rev_at hz,rev_at hz,if_neg (by omega),if_pos (by omega),all (0+r - 1 - a) (by omega)]
     rw[all (r - 1) (by omega)] at hk
     exact hk
    obtain⟨r2,p2,k2,t⟩:=part_ok (K:=K) (Pr.rev (i:=0) (Nat.le_refl _)) hd a1 hlt hl
    exact⟨r2,p2,⟨ain,k2⟩,t⟩
  ·rw[if_neg h2]
   have:r=1:=by omega
   subst this
   refine part_ok Pr (fun a c hac hcr=>by omega) (Nat.le_refl _) hlt fun a ha=>?_
   have:a=0:=by omega
   subst this
   exact hk
theorem place_ok {k:Nat}(P:Pf p n k)(hkn:k<n)(S:Srt K p k):∀(f l r:Nat),l≤r→r≤k→r - l≤f→(∀ a,a<l→K (gp' p a)≤K (gp' p k))→(∀ a,r≤a→a<k→K (gp' p k)<K (gp' p a)) →
  ∃ l',kasIn n (bK K) (kas_place p k f l r)∧kasRun (bK K) (kas_place p k f l r)=l'∧l'≤k∧(∀ a,a<l'→K (gp' p a)≤K (gp' p k))∧∀ a,l'≤a→a<k→K (gp' p k)<K (gp' p a)
 | 0,l,r,h1,h2,h3,h4,h5=>⟨l,trivial,rfl,by omega,h4,fun a ha=>h5 a (by omega)⟩
 | f+1,l,r,h1,h2,h3,h4,h5=>by
   have mono:∀ a c,a≤c→c<k→K (gp' p a)≤K (gp' p c):=fun a c hac hcr=>by
    by_cases e:a=c
    ·rw[e];exact Nat.le_refl _
    ·rcases S a c (by omega) hcr with h|h
     ·omega
     ·omega
   unfold kas_place
   by_cases hlr:l≥r
   ·rw[if_pos hlr]
    exact⟨l,trivial,rfl,by omega,h4,fun a ha=>h5 a (by omega)⟩
   ·rw[if_neg hlr]
    have ain:gp' p k<n∧gp' p ((l+r) / 2)<n:=⟨P.all (by omega),P.all (by omega)⟩
    unfold kasRun kasIn
    show ∃ l',((gp' p k<n∧gp' p ((l+r) / 2)<n)∧kasIn n (bK K) (if bK K (gp' p k) (gp' p ((l+r) / 2))=true then _ else _))∧kasRun (bK K) (if bK K (gp' p k) (gp' p ((l+r) / 2))=true then _ else _)=l'∧_
    by_cases hc:K (gp' p k)<K (gp' p ((l+r) / 2))
    ·rw[if_pos (bK_t hc)]
     obtain⟨l',kin,t⟩:=place_ok P hkn S f l ((l+r) / 2) (by omega) (by omega) (by omega) h4 fun a ha hk=>by
      have:=mono ((l+r) / 2) a (by omega) hk
      omega
     exact⟨l',⟨ain,kin⟩,t⟩
    ·rw[if_neg (bK_f hc)]
     obtain⟨l',kin,t⟩:=place_ok P hkn S f ((l+r) / 2+1) r (by omega) h2 (by omega) (fun a ha=>by
      have:=mono a ((l+r) / 2) (by omega) (by omega)
      omega) h5
     exact⟨l',⟨ain,kin⟩,t⟩
theorem bin_ok:∀(f:Nat)(p:Array Nat) (k:Nat),Pf p n k→Srt K p k→k+f=n→∃ p',kasIn n (bK K) (kas_bin f p k)∧kasRun (bK K) (kas_bin f p k)=p'∧Pf p' n n∧Srt K p' n
 | 0,p,k,P,S,h=>by
   have:k=n:=by omega
   subst this
   exact⟨p,trivial,rfl,P,S⟩
 | f+1,p,k,P,S,h=>by
   obtain⟨l,kin,e,a1,a2,a3⟩:=place_ok (K:=K) P (by omega) S k 0 k (Nat.zero_le _) (Nat.le_refl _) (by omega) (fun a ha=>by omega) fun a h1 h2=>by omega
   have hid:gp' p k=k:=P.id k (Nat.le_refl _) (by omega)
   have hs:k<p.size:=by have:=P.sz;omega
   have at_:=bub_at (p:=p) (src:=k) (d:=k - l) hs (by omega)
   rw[show k - (k - l)=l by omega] at at_
   unfold kas_bin
   rw[kasRun_bind,e]
   suffices hs:∃ p',kasIn n (bK K) (kas_bin f (bubble p k (k - l)) (k+1))∧kasRun (bK K) (kas_bin f (bubble p k (k - l)) (k+1))=p'∧Pf p' n n∧Srt K p' n by
    obtain⟨p',k2,t⟩:=hs
    exact⟨p',kasIn_bind kin (by rw[e];exact k2),t⟩
   refine bin_ok f (bubble p k (k - l)) (k+1) ⟨(bubble_size _ _ _).trans P.sz,by omega,fun j hj=>?_,fun a c ha hc q=>?_,fun j h1 h2=>?_⟩ (fun a c hac hck=>?_) (by omega)
   ·rw[at_]
    split
    ·omega
    ·split
     ·have:=P.lt (j - 1) (by omega);omega
     ·have:=P.lt j (by omega);omega
   ·rw[at_,at_] at q
    have lt:=P.lt
    split at q
    ·split at q
     ·omega
     ·split at q
      ·have:=lt (c - 1) (by omega);omega
      ·have:=lt c (by omega);omega
    ·split at q
     ·split at q
      ·have:=lt (a - 1) (by omega);omega
      ·split at q
       ·have:=P.inj _ _ (by omega) (by omega) q;omega
       ·have:=P.inj _ _ (by omega) (by omega) q;omega
     ·split at q
      ·have:=lt a (by omega);omega
      ·split at q
       ·have:=P.inj _ _ (by omega) (by omega) q;omega
       ·exact P.inj _ _ (by omega) (by omega) q
   ·rw[at_,if_neg (by omega),if_neg (by omega)]
    exact P.id j (by omega) h2
   ·rw[at_,at_]
    have lt:=P.lt
    have put:∀ j,j<l→bef K (gp' p j) (gp' p k):=fun j hj=>by
     have h1:=a2 j hj
     have h2:=lt j (by omega)
     unfold bef
     omega
    have push:∀ j,l≤j→j<k→bef K (gp' p k) (gp' p j):=fun j h1 h2=>.inl (a3 j h1 h2)
    split
    ·rw[if_neg (by omega),if_pos (by omega)]
     exact push _ (by omega) (by omega)
    ·split
     ·rw[if_neg (by omega),if_pos (by omega)]
      exact S _ _ (by omega) (by omega)
     ·split
      ·exact put _ (by omega)
      ·split
       ·exact S _ _ (by omega) (by omega)
       ·exact S _ _ (by omega) (by omega)
theorem sort_ok (h1:1≤n):∃ p,kasIn n (bK K) (kas_sort n)∧kasRun (bK K) (kas_sort n)=p∧Pf p n n∧Srt K p n:=by
 have P0:Pf (List.toArray (List.range n)) n 1:=by
  have at_:∀ k,k<n→gp' (List.toArray (List.range n)) k=k:=fun k hk=>by simp [gp',hk]
  refine⟨by simp,h1,fun k hk=>?_,fun a c ha hc _=>by omega,fun k _ h2=>at_ k h2⟩
  rw[at_ k (by omega)];exact hk
 obtain⟨r,p',kin,e,a1,a2,a3,a4⟩:=count_ok (K:=K) h1 P0
 unfold kas_sort
 rw[kasRun_bind,e]
 dsimp only
 by_cases hr:r<n
 ·rw[if_pos hr,show max r 1=r by omega]
  obtain⟨p2,k2,t⟩:=bin_ok (K:=K) (n - r) p' r a4 a3 (by omega)
  exact⟨p2,kasIn_bind kin (by rw[e];dsimp only;rw[if_pos hr,show max r 1=r by omega];exact k2),t⟩
 ·rw[if_neg hr]
  have:r=n:=by omega
  subst this
  exact⟨p',kasIn_bind kin (by rw[e];dsimp only;rw[if_neg hr];trivial),rfl,a4,a3⟩
end
end TL
namespace TL
open PySem PyProof.Rows PySem.W L2 SeqAt SR
section
variable {prog:Program}{w:World}{A:Around}{E:Value→Shared→Prop}{s:Shared}
theorem tup_ltC {x y:Addr}{xs ys:List Value}{ks js:List Nat}{Q:Value→Shared→Prop}(hx:IsTup s.heap x xs.toArray)(hy:IsTup s.heap y ys.toArray)(ix:IntsAre xs (asInts ks)) (iy:IntsAre ys (asInts js)) (hu:A.units<cLine)
  (h:Q (.bool (lexN ks js)) s):wpAny (model prog w) A (call (.builtin "tuple.__lt__") [.ref x,.ref y]) Q E s:=by
 obtain⟨ox,hox,hcx,nx,hdx⟩:=hx
 obtain⟨oy,hoy,hcy,ny,hdy⟩:=hy
 have tx:s.TypeIs (.ref x) "tuple":=⟨ox,hox,hcx⟩
 have ty:s.TypeIs (.ref y) "tuple":=⟨oy,hoy,hcy⟩
 refine wpAny_call_entry PySem.F.slot_tuple_lt tx PySem.F.entry_tuple_lt ?_ (PySem.F.args_tuple_lt_2 _ _)
 show wpAny _ _ (slotArgs "__lt__" 1 ⟨[.ref x,.ref y],[]⟩ >>= _) _ _ _
 refine wpAny_bind (wpAny_pure ?_)
 dsimp only
 refine wpAny_bind (wpAny_isInstance ty AutoSeq1.sub_tuple_tuple ?_)
 simp only[Bool.not_true,Bool.false_eq_true,if_false]
 refine wpAny_bind (items_at hox hdx ?_)
 refine wpAny_bind (items_at hoy hdy ?_)
 dsimp only
 refine wpAny_bind (wpAny_mono (wpAny_forIn_list _ (fun rest c s'=>c=(none,())∧s'=s∧∃(xs' ys':List Value)(ks' js':List Nat) (d:Nat),rest=xs'.zip ys'∧IntsAre xs' (asInts ks')∧IntsAre ys' (asInts js')∧lexN ks js=lexN ks' js'∧xs.length=d+ks'.length∧ys.length=d+js'.length)
  (fun c s'=>s'=s∧((c=(none,())∧lexN ks js=decide (xs.length<ys.length))∨c=(some (PySem.Fin.done (.ret (.bool (lexN ks js)))),()))) ?turn ?fin _ _ ?init) ?post fun _ _ e=>e)
 case init=>exact⟨rfl,rfl,xs,ys,ks,js,0,by simp,ix,iy,rfl,by rw[ints_len ix];omega,by rw[ints_len iy];omega⟩
 case fin =>
  rintro c s' ⟨rfl,rfl,xs',ys',ks',js',d,e,i1,i2,el,l1,l2⟩
  refine⟨rfl,.inl ⟨rfl,?_⟩⟩
  rw[el]
  have z1:=ints_len i1
  have z2:=ints_len i2
  cases ks' with
  | nil =>
    cases js' with
    | nil=>simp [lexN];simp at l1 l2;omega
    | cons j js'=>simp [lexN];simp at l1 l2;omega
  | cons k ks' =>
    cases js' with
    | nil=>simp [lexN];simp at l1 l2;omega
    | cons j js' =>
      cases xs' with
      | nil=>simp at z1
      | cons u us =>
        cases ys' with
        | nil=>simp at z2
        | cons v vs=>simp at e
 case turn =>
  rintro⟨u,v⟩ rest c s' ⟨rfl,rfl,xs',ys',ks',js',d,e,i1,i2,el,l1,l2⟩
  cases xs' with
  | nil=>simp at e
  | cons u' us =>
    cases ys' with
    | nil=>simp at e
    | cons v' vs =>
      rw[List.zip_cons_cons] at e
      injection e with e1 e2
      injection e1 with e3 e4
      subst e3;subst e4;subst e2
      cases ks' with
      | nil=>cases i1
      | cons k ks' =>
        cases js' with
        | nil=>cases i2
        | cons j js' =>
          cases i1 with
          | cons n t i1 =>
            cases i2 with
            | cons n' t' i2 =>
              dsimp only
              refine wpAny_bind (EqAt.int_int _ t _ t' prog w _ _ ?_)
              by_cases hkj:k=j
              ·subst hkj
               simp only[beq_self_eq_true,Bool.not_true,Bool.false_eq_true,if_false]
               refine wpAny_pure ⟨rfl,rfl,us,vs,ks',js',d+1,rfl,i1,i2,?_,?_,?_⟩
               ·rw[el];simp [lexN]
               ·rw[l1];simp;omega
               ·rw[l2];simp;omega
              ·have hne:((k:Int)==(j:Int))=false:=by simpa using fun z=>hkj (by omega)
               rw[hne]
               simp only[Bool.not_false,if_true]
               refine wpAny_bind (wpAny_rule ?_)
               refine wpAny_bind ?_
               show wpAny _ _ (compareOp .Lt (.int (k:Int) t) (.int (j:Int) t')) _ _ _
               refine wpAny_lt_int ?_
               refine wpAny_bind (wpAny_pure (wpAny_pure ⟨rfl,.inr ?_⟩))
               have:lexN ks js=decide ((k:Int)<(j:Int)):=by rw[el];simp [lexN,hkj]
               rw[this]
 case post =>
  rintro c s' ⟨rfl,(⟨rfl,e⟩|rfl)⟩
  ·dsimp only
   refine wpAny_pure ⟨_,rfl,?_⟩
   have:Builtin.Tuple.tupleCompareSizes .Lt xs.toArray.size ys.toArray.size=.bool (lexN ks js):=by rw[e];rfl
   rw[this]
   exact h
  ·exact wpAny_pure ⟨_,rfl,h⟩
noncomputable def TupR (h:Heap)(v:Value)(r:List Nat):Prop:=∃ a its,v=.ref a∧IsTup h a its.toArray∧IntsAre its (asInts r)
theorem TupR.keep {h h':Heap}{v:Value}{r:List Nat}(k:∀ b o,h.get? b=some o→h'.get? b=some o)(x:TupR h v r):TupR h' v r:=by
 obtain⟨a,its,e,t,i⟩:=x
 exact⟨a,its,e,tup_keep k t,i⟩
theorem items_ints' {k:List Int}{vs:List Value}(h:ItemsAre (intKind prog w) k vs):IntsAre vs k:=by
 induction h with
 | nil=>exact .nil
 | @cons k v ks vs h1 _ ih =>
   cases v with
   | int i t =>
     have:i=k:=by simpa [intKind,Value.isInt] using h1
     subst this
     exact .cons i t ih
   | _=>simp [intKind,Value.isInt] at h1
theorem tupR_of {h:Heap}{r:List Nat}{b:Addr}(x:(tkd prog w).is h (asInts r) b):TupR h (.ref b) r:=by
 obtain⟨o,items,n,ho,hc,hd,hi⟩:=x
 exact⟨b,items.toList,rfl,⟨o,ho,hc,n,by simpa using hd⟩,items_ints' hi⟩
theorem ints_cons {n:Nat}{r:List Nat}{its:List Value}(h:IntsAre its (asInts (n::r))):∃ t its',its=.int (n:Int) t::its'∧IntsAre its' (asInts r):=by
 have h:IntsAre its ((n:Int)::asInts r):=h
 cases h with
 | cons n t h=>exact⟨t,_,rfl,h⟩
theorem lt_lex:∀{xs ys:List Value}{ks js:List Nat}{i:Nat}{Q:Bool→Shared→Prop},IntsAre xs (asInts ks)→IntsAre ys (asInts js)→Q (lexN ks js) s→KatLex prog w A true (decide (ks.length<js.length)) (fun b s'=>Q b s') (xs.zip ys) i s
 | xs,ys,[],js,i,Q,hx,hy,h=>by
   cases hx
   rw[List.zip_nil_left]
   refine kat_nil ?_
   cases js with
   | nil=>exact h
   | cons j js=>simpa [lexN] using h
 | xs,ys,k::ks,[],i,Q,hx,hy,h=>by
   cases hy
   rw[List.zip_nil_right]
   exact kat_nil (by simpa [lexN] using h)
 | xs,ys,k::ks,j::js,i,Q,hx,hy,h=>by
   obtain⟨t,xs',rfl,hx'⟩:=ints_cons hx
   obtain⟨t',ys',rfl,hy'⟩:=ints_cons hy
   rw[List.zip_cons_cons]
   refine kat_cons (EqAt.int_int _ t _ t' prog w _ _ ?_)
   by_cases hkj:k=j
   ·subst hkj
    rw[show(((k:Nat):Int)==((k:Nat):Int))=true by simp]
    have:=lt_lex (i:=i+1) (Q:=Q) hx' hy' (by simpa [lexN] using h)
    refine kat_yes ?_
    simpa using this
   ·rw[show(((k:Nat):Int)==((j:Nat):Int))=false by simpa using fun z=>hkj (by omega)]
    have e:lexN (k::ks) (j::js)=decide ((k:Int)<(j:Int)):=by
     simp only[lexN,if_neg hkj]
     rw[decide_eq_decide];omega
    rw[e] at h
    refine kat_no ?_
    cases hb:(true&&i==0) with
    | true=>exact oneLt_int h
    | false=>exact kat_one _ _ (wpAny_lt_int h)
noncomputable def rowKind (κ:SortKind):Prop:=κ=tuples' true∨κ=general'∨κ=oneType'
theorem row_lt {κ:SortKind}(hκ:rowKind κ){v u:Value}{x y:List Nat}{Q:Bool→Shared→Prop}(hv:TupR s.heap v x)(hu:TupR s.heap u y)(hA:A.units<cLine)(h:Q (lexN x y) s):wpAny (model prog w) A (keyLt' κ v u) Q E s:=by
 obtain⟨a,its,rfl,tx,ix⟩:=hv
 obtain⟨a',its',rfl,ty,iy⟩:=hu
 rcases hκ with rfl|rfl|rfl
 ·obtain⟨o,e1,e2,n,e3⟩:=tx
  obtain⟨o',f1,f2,n',f3⟩:=ty
  refine kat_lt e1 e3 f1 f3 ?_
  have:=lt_lex (prog:=prog) (w:=w) (A:=A) (i:=0) (Q:=Q) ix iy h
  have l1:=ints_len ix
  have l2:=ints_len iy
  simpa [l1,l2] using this
 ·show wpAny _ _ (oneLt' false _ _) _ _ _
  exact kat_one _ _ (tup_lt tx ty ix iy hA h)
 ·rw[keyLt'_oneType,oneLt'_eq]
  simp only[if_true]
  refine wpAny_bind (wpAny_cRoomFor hA ?_)
  have hT:s.TypeIs (.ref a) "tuple":=by obtain⟨o,e1,e2,_⟩:=tx;exact⟨o,e1,e2⟩
  refine wpAny_bind (wpAny_callSpecialIfBound?_slot hT PySem.F.slot_tuple_lt (tup_ltC tx ty ix iy hA ?_))
  exact wpAny_truthy_bool h
noncomputable def TupRs (h:Heap)(vs:List Value)(rs:List (List Nat)):Prop:=vs.length=rs.length∧∀(i:Nat)(v:Value)(r:List Nat),vs[i]?=some v→rs[i]?=some r→TupR h v r
theorem TupRs.keep {h h':Heap}{vs:List Value}{rs:List (List Nat)}(k:∀ b o,h.get? b=some o→h'.get? b=some o)(x:TupRs h vs rs):TupRs h' vs rs:=⟨x.1,fun i v r h1 h2=>(x.2 i v r h1 h2).keep k⟩
theorem TupRs.tail {h:Heap}{v:Value}{r:List Nat}{vs:List Value}{rs:List (List Nat)}(x:TupRs h (v::vs) (r::rs)):TupR h v r∧TupRs h vs rs :=
 ⟨x.2 0 v r rfl rfl,by have:=x.1;simpa using this,fun i v' r' h1 h2=>x.2 (i+1) v' r' h1 h2⟩
noncomputable def rowsK (rs:List (List Nat)):SortKind:=if (rs.all fun r=>!r.isEmpty)=true then tuples' true else if (rs.headD []).isEmpty=true then oneType' else general'
theorem rowsK_ok (rs:List (List Nat)):rowKind (rowsK rs):=by
 unfold rowsK rowKind
 split
 ·exact .inl rfl
 ·split
  ·exact .inr (.inr rfl)
  ·exact .inr (.inl rfl)
noncomputable def fst1 (f:Option Value)(r:List Nat):Prop:=match r with
 | []=>f=none
 | n::_=>∃ t,f=some (.int (n:Int) t)
theorem first_row {v:Value}{r:List Nat}{Q:Option Value→Shared→Prop}(x:TupR s.heap v r)(h:∀ f,fst1 f r→Q f s):wpAny (model prog w) A (firstOfTuple' v) Q E s:=by
 obtain⟨a,its,rfl,⟨o,e1,e2,n,e3⟩,i⟩:=x
 rw[kas_first_eq]
 refine wpAny_bind (wpAny_typeOf (T:="tuple") ⟨o,e1,e2⟩ ?_)
 rw[if_neg (by decide)]
 refine wpAny_bind (listItems_at e1 e3 (wpAny_pure (h _ ?_)))
 cases r with
 | nil=>cases i;rfl
 | cons k r =>
   obtain⟨t,its',rfl,_⟩:=ints_cons i
   exact⟨t,rfl⟩
theorem firsts_row:∀{vs:List Value}{rs:List (List Nat)}{Q:List (Option Value)→Shared→Prop},TupRs s.heap vs rs→(∀ fs,fs.length=rs.length→(∀(i:Nat)(f:Option Value)(r:List Nat),fs[i]?=some f→rs[i]?=some r→fst1 f r)→Q fs s)→wpAny (model prog w) A (vs.mapM firstOfTuple') Q E s
 | [],rs,Q,x,h=>by
   have:rs=[]:=List.eq_nil_of_length_eq_zero (by have:=x.1;simpa using this.symm)
   subst this
   rw[List.mapM_nil]
   exact wpAny_pure (h [] rfl fun i f r h1=>by simp at h1)
 | v::vs,[],Q,x,h=>by have:=x.1;simp at this
 | v::vs,r::rs,Q,x,h=>by
   obtain⟨x1,x2⟩:=x.tail
   rw[List.mapM_cons]
   refine wpAny_bind (first_row x1 fun f hf=>wpAny_bind (firsts_row x2 fun fs l1 l2=>wpAny_pure (h (f::fs) (by simp [l1]) fun i f' r' h1 h2=>?_)))
   cases i with
   | zero=>simp at h1 h2;subst h1 h2;exact hf
   | succ i=>exact l2 i f' r' (by simpa using h1) (by simpa using h2)
theorem row_kind {vs:List Value}{rs:List (List Nat)}(h1:1≤vs.length)(x:TupRs s.heap vs rs){Q:SortKind→Shared→Prop}(h:Q (rowsK rs) s):wpAny (model prog w) A (keyKind' vs.toArray) Q E s:=by
 unfold rowsK at h
 split at h
 ·rename_i hall
  have:∃ fs,KatTups s.heap vs fs∧fs.length=vs.length∧∀ f∈fs,∃(n:Int)(t:Tok),f=.int n t:=by
   clear h h1
   induction vs generalizing rs with
   | nil=>exact⟨[],.nil,rfl,fun f hf=>nomatch hf⟩
   | cons v vs ih =>
     cases rs with
     | nil=>have:=x.1;simp at this
     | cons r rs =>
       obtain⟨x1,x2⟩:=x.tail
       rw[List.all_cons,Bool.and_eq_true] at hall
       obtain⟨fs,g1,g2,g3⟩:=ih x2 hall.2
       obtain⟨a,its,rfl,⟨o,e1,e2,n,e3⟩,i⟩:=x1
       cases r with
       | nil=>simp at hall
       | cons k r =>
         obtain⟨t,its',rfl,_⟩:=ints_cons i
         refine⟨.int (k:Int) t::fs,.cons e1 e2 e3 rfl g1,by simp [g2],fun f hf=>?_⟩
         rcases List.mem_cons.mp hf with rfl|hf
         ·exact⟨_,_,rfl⟩
         ·exact g3 f hf
  obtain⟨fs,t1,t2,t3⟩:=this
  exact kat_kind (T:=.type "int") t1 (by omega) (fun v hv=>by obtain⟨n,t,rfl⟩:=t3 v hv;exact .now) (by decide) h
 ·rename_i hall
  rw[kat_kind_eq,List.mapM_toArray,map_eq_pure_bind]
  refine wpAny_bind (wpAny_bind (firsts_row x fun fs l1 l2=>wpAny_pure ?_))
  have hno:¬((fs.toArray.all fun x=>x.isSome)=true):=by
   intro q
   apply hall
   rw[List.all_eq_true]
   intro r hr
   obtain⟨i,hi⟩:=List.getElem?_of_mem hr
   have hlt:i<fs.length:=by rw[l1];exact(List.getElem?_eq_some_iff.mp hi).1
   have th:=l2 i fs[i] r (List.getElem?_eq_getElem hlt) hi
   rw[List.all_toArray,List.all_eq_true] at q
   have:=q fs[i] (List.getElem_mem hlt)
   cases r with
   | nil =>
     rw[show fs[i]=none from th] at this
     cases this
   | cons=>rfl
  rw[if_neg hno]
  cases rs with
  | nil=>have:=x.1;rw[List.length_nil] at this;omega
  | cons r rs =>
    cases fs with
    | nil=>simp at l1
    | cons f fs =>
      have h0:=l2 0 f r rfl rfl
      cases r with
      | nil =>
        rw[show f=none from h0]
        rw[if_neg (by simp)]
        have h':Q oneType' s:=by simpa using h
        rw[oneTypeOnly'_eq,List.mapM_toArray,map_eq_pure_bind]
        have hT:∀ v∈vs,∀(Q':Value→Shared→Prop),Q' (.type "tuple") s→wpAny (model prog w) A (typeOf v) Q' E s:=fun v hv Q' hq=>by
         obtain⟨i,hi⟩:=List.getElem?_of_mem hv
         have hlt:i<([]::rs).length:=by rw[← x.1];exact(List.getElem?_eq_some_iff.mp hi).1
         obtain⟨a,its,rfl,⟨o,e1,e2,n,e3⟩,_⟩:=x.2 i v _ hi (List.getElem?_eq_getElem hlt)
         exact wpAny_typeOf (T:="tuple") ⟨o,e1,e2⟩ hq
        refine wpAny_bind (wpAny_bind (wpAny_bind (kas_mapM (r:=Value.type "tuple") _ hT (wpAny_pure ?_))))
        obtain⟨v,vs',rfl⟩:∃ v vs',vs=v::vs':=by
         cases vs with
         | nil=>simp at h1
         | cons v vs'=>exact⟨v,vs',rfl⟩
        have hall2:((List.map (fun _=>Value.type "tuple") (v::vs')).toArray.all fun x=>x==Value.type "tuple")=true:=by
         simp only[List.all_toArray,List.all_map,List.all_eq_true]
         intro _ _
         exact beq_self_eq_true (Value.type "tuple")
        have h00:(List.map (fun _=>Value.type "tuple") (v::vs')).toArray[0]?=some (Value.type "tuple"):=by simp
        rw[h00]
        simp only[hall2,if_true]
        exact wpAny_pure (wpAny_pure h')
      | cons k r =>
        obtain⟨t,rfl⟩:=h0
        rw[if_pos (by simp)]
        have h':Q general' s:=by simpa using h
        exact wpAny_pure h'
end
end TL
namespace TL
open PySem PyProof.Rows PySem.W L2 SeqAt SR
noncomputable def lex64:List (List Nat):=[[],[0],[0,1],[0,1,2],[0,1,2,3],[0,1,2,3,4],[0,1,2,3,4,5],[0,1,2,3,5],[0,1,2,4],[0,1,2,4,5],[0,1,2,5],[0,1,3],[0,1,3,4],[0,1,3,4,5],[0,1,3,5],[0,1,4],[0,1,4,5],[0,1,5],[0,2],[0,2,3],[0,2,3,4],[0,2,3,4,5],[0,2,3,5],[0,2,4],[0,2,4,5],[0,2,5],[0,3],[0,3,4],[0,3,4,5],[0,3,5],[0,4],[0,4,5],[0,5],[1],[1,2],[1,2,3],[1,2,3,4],[1,2,3,4,5],[1,2,3,5],[1,2,4],[1,2,4,5],[1,2,5],[1,3],[1,3,4],[1,3,4,5],[1,3,5],[1,4],[1,4,5],[1,5],[2],[2,3],[2,3,4],[2,3,4,5],[2,3,5],[2,4],[2,4,5],[2,5],[3],[3,4],[3,4,5],[3,5],[4],[4,5],[5]]
theorem lex_sorted:lex64.Pairwise (fun x y=>lexN x y=true):=by decide +kernel
theorem lex_all:∀ r∈subs6,r∈lex64:=by decide +kernel
theorem lex_subs:∀ r∈lex64,r∈subs6:=by decide +kernel
theorem lexN_asym:∀{x y:List Nat},lexN x y=true→lexN y x=true→False
 | [],[],h,_=>by simp [lexN] at h
 | [],_::_,_,h=>by simp [lexN] at h
 | _::_,[],h,_=>by simp [lexN] at h
 | a::x,c::y,h,k=>by
   simp only[lexN] at h k
   by_cases e:a=c
   ·subst e
    rw[if_pos rfl] at h k
    exact lexN_asym h k
   ·rw[if_neg e,decide_eq_true_eq] at h
    rw[if_neg (Ne.symm e),decide_eq_true_eq] at k
    omega
theorem sorted_uniq {α:Type}{R:α→α→Prop}(asym:∀ a b,R a b→R b a→False):∀{l l':List α},l.Pairwise R→l'.Pairwise R→(∀ x,x∈l↔x∈l')→l=l'
 | [],[],_,_,_=>rfl
 | [],b::t',_,_,h=>by have:=(h b).mpr List.mem_cons_self;cases this
 | a::t,[],_,_,h=>by have:=(h a).mp List.mem_cons_self;cases this
 | a::t,b::t',h1,h2,h=>by
   rw[List.pairwise_cons] at h1 h2
   have ab:a=b:=by
    rcases List.mem_cons.mp ((h a).mp List.mem_cons_self) with e|e
    ·exact e
    ·rcases List.mem_cons.mp ((h b).mpr List.mem_cons_self) with e'|e'
     ·exact e'.symm
     ·exact(asym a b (h1.1 b e') (h2.1 a e)).elim
   subst ab
   have nt:∀{u:List α},(∀ x∈u,R a x)→a∉u:=fun hu hm=>asym a a (hu a hm) (hu a hm)
   congr 1
   refine sorted_uniq asym h1.2 h2.2 fun x=>⟨fun hx=>?_,fun hx=>?_⟩
   ·rcases List.mem_cons.mp ((h x).mp (List.mem_cons_of_mem _ hx)) with e|e
    ·subst e;exact(nt h1.1 hx).elim
    ·exact e
   ·rcases List.mem_cons.mp ((h x).mpr (List.mem_cons_of_mem _ hx)) with e|e
    ·subst e;exact(nt h2.1 hx).elim
    ·exact e
noncomputable def rk (r:List Nat):Nat:=lex64.idxOf r
theorem rk_at {x:List Nat}(hx:x∈subs6):lex64[rk x]?=some x:=by
 have ix:=List.idxOf_lt_length_of_mem (lex_all x hx)
 have:=List.getElem?_eq_getElem ix
 rw[List.getElem_idxOf ix] at this
 exact this
theorem rk_inj {x y:List Nat}(hx:x∈subs6)(hy:y∈subs6)(h:rk x=rk y):x=y:=by
 have h1:=rk_at hx
 rw[h,rk_at hy] at h1
 exact(Option.some.inj h1).symm
theorem rk_lt {x y:List Nat}(hx:x∈subs6)(hy:y∈subs6):lexN x y=decide (rk x<rk y):=by
 have pw:∀(i j:Nat)(a b:List Nat),i<j→lex64[i]?=some a→lex64[j]?=some b→lexN a b=true:=fun i j a b h h1 h2=>by
  obtain⟨l1,rfl⟩:=List.getElem?_eq_some_iff.mp h1
  obtain⟨l2,rfl⟩:=List.getElem?_eq_some_iff.mp h2
  exact List.pairwise_iff_getElem.mp lex_sorted _ _ l1 l2 h
 rcases Nat.lt_trichotomy (rk x) (rk y) with h|h|h
 ·rw[pw _ _ _ _ h (rk_at hx) (rk_at hy),decide_eq_true h]
 ·have e:=rk_inj hx hy h
  subst e
  rw[decide_eq_false (Nat.lt_irrefl _)]
  cases q:lexN x x with
  | false=>rfl
  | true=>exact(lexN_asym q q).elim
 ·have:=pw _ _ _ _ h (rk_at hy) (rk_at hx)
  rw[decide_eq_false (by omega)]
  cases q:lexN x y with
  | false=>rfl
  | true=>exact(lexN_asym q this).elim
noncomputable def sortR (rs:List (List Nat)):List (List Nat):=lex64.filter fun r=>rs.contains r
section
variable {prog:Program}{w:World}{A:Around}{E:Value→Shared→Prop}{s:Shared}
noncomputable def sortP (K:Nat→Nat) (n:Nat):Array Nat:=kasRun (bK K) (kas_sort n)
theorem sortP_ok (K:Nat→Nat){n:Nat}(h:1≤n):Pf (sortP K n) n n∧Srt K (sortP K n) n:=by
 obtain⟨p,kin,e,P,S⟩:=sort_ok (K:=K) h
 have:sortP K n=p:=e
 rw[this];exact⟨P,S⟩
noncomputable def pickV (vs:List Value)(p:Array Nat):List Value:=(List.range vs.length).map fun k=>vs.getD (gp' p k) .none
theorem runs_keys {κ:SortKind}{ks vs:List Value}(K:Nat→Nat)(hl:ks.length=vs.length)(h2:2≤vs.length)(h64:vs.length<64)
  (hcmp:∀ i j (C:Bool→Shared→Prop),i<vs.length→j<vs.length→C (decide (K i<K j)) s→wpAny (model prog w) A (keyLt' κ (ks.getD i .none) (ks.getD j .none)) C (fun _ _=>False) s)
  {Q:SortSt→Shared→Prop}(h:∀ st',(arrOf st').map (·.2)=(pickV vs (sortP K vs.length)).toArray→failedOf st'=none→Q st' s) :
  wpAny (model prog w) A ((sortRuns').run (SortSt.mk' κ (ks.toArray.zip vs.toArray) #[] 7 none)) (fun r s'=>Q r.2 s') E s:=by
 obtain⟨p,kin,e,P,S⟩:=sort_ok (K:=K) (n:=vs.length) (by omega)
 refine kat_run (G:=fun q s'=>q=p∧s'=s) hl h2 h64 (fun q st' s' hq har hf ⟨e1,e2⟩=>?_) (kasRun_wp (b:=bK K) (n:=vs.length) (fun i j C hi hj hC=>hcmp i j C hi hj hC) _ kin ⟨e,rfl⟩)
 have ep:sortP K vs.length=p:=e
 subst e1 e2
 have pl:q.toList=(List.range vs.length).map (gp' q):=by
  apply List.ext_getElem?
  intro i
  rw[List.getElem?_map]
  by_cases hi:i<vs.length
  ·have:i<q.size:=by omega
   rw[List.getElem?_range hi]
   simp [gp',this]
  ·rw[List.getElem?_eq_none (by rw[Array.length_toList];omega),List.getElem?_eq_none (by rw[List.length_range];omega)];rfl
 refine h st' ?_ hf
 rw[kat_snds hl har,pl,List.map_map,ep];rfl
end
end TL
namespace TL
open PySem PyProof.Rows PySem.W L2 SeqAt SR
section
variable {prog:Program}{w:World}{A:Around}{E:Value→Shared→Prop}{s:Shared}
theorem sort_few {a:Addr}{vs:List Value}{n:Nat}{P:PySem.Fin→Shared→Prop}(ho:s.heap.get? a=some (seqObj "list" vs.toArray n)) (h2:vs.length<2)
  (h:P (.done (.ret .none)) {s with heap:=sortedHeap s.heap a vs vs.toArray}):wpAny (model prog w) A (Builtin.«list.sort» ⟨[.ref a],[]⟩) P E s:=by
 rw[list_sort_plain]
 have ha:=Heap.lt_size ho
 refine wpAny_bind (listItems_at ho rfl (wpAny_bind (listUpdate_at ho rfl ?_ (hsz:=by rw[List.size_toArray,sizeLine_eq];omega))))
 obtain⟨e1,ho1⟩:∃ e1,(s.heap.update a (Obj.mapSeq fun _=>#[])).get? a=some (seqObj "list" #[] e1):=⟨_,get?_update_seq ho (fun _=>#[])⟩
 refine wpAny_bind (seqEpoch_at ho1 rfl (wpAny_bind (wpAny_newTuple (wpAny_bind (wpAny_newList (wpAny_holding ?_))) (hsz:=by show vs.length≤_;rw[sizeLine_eq];omega))))
 have ho6:(((s.heap.update a (Obj.mapSeq fun _=>#[])).push (seqObj "tuple" vs.toArray 0)).push (seqObj "list" #[] 0)).get? a=some (seqObj "list" #[] e1):=by
  rw[Heap.get?_push_ne _ _ _ (by rw[size_push',Heap.size_update];exact Nat.ne_of_lt (Nat.lt_succ_of_lt ha)),Heap.get?_push_ne _ _ _ (by rw[Heap.size_update];exact Nat.ne_of_lt ha)]
  exact ho1
 show wpAny (model prog w) A _ P E {s with heap:=((s.heap.update a (Obj.mapSeq fun _=>#[])).push (seqObj "tuple" vs.toArray 0)).push (seqObj "list" #[] 0)}
 dsimp only
 have hsz:vs.toArray.size=vs.length:=by simp
 rw[if_pos (by omega),if_pos (by omega)]
 refine wpAny_bind (wpAny_pure ?_)
 refine wpAny_bind (m:=(pure ():StateT SortSt Sem Unit).run _) (wpAny_pure ?_)
 dsimp only
 have eo:(arrOf (SortSt.mk' general' (vs.toArray.zip vs.toArray) #[] 7 none)).map (·.2)=vs.toArray:=by
  show(vs.toArray.zip vs.toArray).map (·.2)=vs.toArray
  apply Array.toList_inj.mp
  simp [List.map_snd_zip]
 rw[eo]
 refine wpAny_bind (seqEpoch_at ho6 rfl ?_)
 refine wpAny_bind (listUpdate_at ho6 rfl ?_ (hsz2:=by rw[List.size_toArray,sizeLine_eq];omega))
 simp only[bne_self_eq_false,Bool.false_eq_true,if_false]
 exact wpAny_pure h
theorem getD_val {vs:List Value}{i:Nat}(h:i<vs.length):vs.getD i .none=vs[i]:=by simp [List.getD,h]
end
end TL
namespace TL
open PySem PyProof.Rows PySem.W L2 SeqAt SR
theorem sortR_congr {a b:List (List Nat)}(h:∀ x,x∈a↔x∈b):sortR a=sortR b:=by
 unfold sortR
 refine List.filter_congr fun x _=>?_
 have:=h x
 by_cases q:x∈a
 ·have q':=this.mp q;simp [q,q']
 ·have q':x∉b:=fun z=>q (this.mpr z);simp [q,q']
theorem rows_perm {Gd:Addr→List Nat→Prop}{es es':List (Int×Value)}(p:es'.Perm es):∀{rs:List (List Nat)},RowsAt Gd es rs→∃ rs',RowsAt Gd es' rs'∧rs'.Perm rs:=by
 have hd:∀{e:Int×Value}{l:List (Int×Value)}{rs:List (List Nat)},RowsAt Gd (e::l) rs→∃ r rs',rs=r::rs'∧ERow Gd e r∧RowsAt Gd l rs':=fun{e l rs} h=>by
  cases rs with
  | nil=>have:=h.1;simp at this
  | cons r rs=>exact⟨r,rs,rfl,h.2 0 e r rfl rfl,by have:=h.1;simpa using this,fun i e' r' h1 h2=>h.2 (i+1) e' r' h1 h2⟩
 have mk:∀{e:Int×Value}{l:List (Int×Value)}{r:List Nat}{rs:List (List Nat)},ERow Gd e r→RowsAt Gd l rs→RowsAt Gd (e::l) (r::rs):=fun{e l r rs} h1 h2=>⟨by simp [h2.1],fun i e' r' q1 q2=>by
  cases i with
  | zero=>simp at q1 q2;subst q1 q2;exact h1
  | succ i=>exact h2.2 i e' r' (by simpa using q1) (by simpa using q2)⟩
 induction p with
 | nil=>exact fun{rs} h=>⟨rs,h,.refl _⟩
 | cons x _ ih =>
   intro rs h
   obtain⟨r,rs',rfl,h1,h2⟩:=hd h
   obtain⟨rs2,g1,g2⟩:=ih h2
   exact⟨r::rs2,mk h1 g1,g2.cons _⟩
 | swap x y l =>
   intro rs h
   obtain⟨r,rs',rfl,h1,h2⟩:=hd h
   obtain⟨r2,rs2,rfl,h3,h4⟩:=hd h2
   exact⟨r2::r::rs2,mk h3 (mk h1 h4),.swap ..⟩
 | trans _ _ ih1 ih2 =>
   intro rs h
   obtain⟨r1,a1,b1⟩:=ih2 h
   obtain⟨r2,a2,b2⟩:=ih1 a1
   exact⟨r2,a2,b2.trans b1⟩
section
variable {prog:Program}{w:World}{A:Around}{E:Value→Shared→Prop}{s:Shared}
end
noncomputable def rowT (r:List Nat):T:=.tup (r.map fun(i:Nat)=>T.int (i:Int))
noncomputable def rowsT:List T→Option (List (List Nat))
 | []=>some []
 | t::ts=>match unN t with
   | some r=>if r∈subs6 then (rowsT ts).map (r::·) else none
   | none=>none
theorem rowsT_at:∀{ts:List T}{rs:List (List Nat)},rowsT ts=some rs→ts.length=rs.length∧(∀ r∈rs,r∈subs6)∧∀(i:Nat)(t:T)(r:List Nat),ts[i]?=some t→rs[i]?=some r→unN t=some r
 | [],rs,h=>by
   cases h
   exact⟨rfl,(fun r hr=>by cases hr),(fun i t r h1=>by simp at h1)⟩
 | t::ts,rs,h=>by
   unfold rowsT at h
   split at h
   ·rename_i r0 e0
    split at h
    ·rename_i h6
     obtain⟨rs',e1,rfl⟩:=Option.map_eq_some_iff.mp h
     obtain⟨a1,a2,a3⟩:=rowsT_at e1
     refine⟨by simp [a1],fun r hr=>?_,fun i t' r h1 h2=>?_⟩
     ·rcases List.mem_cons.mp hr with rfl|hr
      ·exact h6
      ·exact a2 r hr
     ·cases i with
      | zero=>simp at h1 h2;subst h1 h2;exact e0
      | succ i=>exact a3 i t' r (by simpa using h1) (by simpa using h2)
    ·cases h
   ·cases h
section
variable {X:Cx}{z:Z}{e:Expr}{f:FE}{p p2 pos pos2:Pos}
theorem unN_eq {t:T}{r:List Nat}(h:unN t=some r):t=rowT r:=by
 cases t with
 | tup ts=>have:=unR_eq (show unR ts=some r from h);rw[this];rfl
 | _=>simp [unN] at h
theorem repL_of {K:PySem.W.Frag}{H:Hp}:∀{rs:List (List Nat)}{out:List Value},out.length=rs.length→(∀(i:Nat)(v:Value)(r:List Nat),out[i]?=some v→rs[i]?=some r→∃ b,v=.ref b∧Rep K H (rowT r) (.ref b))→∃ vs,Vals vs out∧RepL K H (rs.map rowT) vs
 | [],[],_,_=>⟨[],.nil,.nil⟩
 | r::rs,[],h,_=>by simp at h
 | [],v::out,h,_=>by simp at h
 | r::rs,v::out,h,k=>by
   obtain⟨b,rfl,g⟩:=k 0 v r rfl rfl
   obtain⟨vs,h1,h2⟩:=repL_of (rs:=rs) (out:=out) (by simpa using h) fun i v r q1 q2=>k (i+1) v r q1 q2
   exact⟨.ref b::vs,.cons rfl h1,.cons g h2⟩
end
end TL
namespace TL
open PySem PyProof.Rows PySem.W L2 SeqAt SR
section
variable {prog:Program}{w:World}{A:Around}{E:Value→Shared→Prop}{s:Shared}
theorem len_row {v:Value}{r:List Nat}{Q:Value→Shared→Prop}(x:TupR s.heap v r)(hr:r.length<64)(h:∀ t tk,Q (.int (r.length:Nat) t) {s with toks:=tk}):wpAny (model prog w) A (call (.builtin "len") [v]) Q E s:=by
 obtain⟨a,its,rfl,ht,hi⟩:=x
 have hl:its.length=r.length:=by rw[hi.length];simp [asInts]
 refine len_tuple ht (by rw[List.size_toArray];omega) ?_
 rw[List.size_toArray,hl]
 exact h _ _
noncomputable def LenP (rs:List (List Nat)) (p:Array Nat):Prop:=Pf p rs.length rs.length∧Srt (fun i=>(rs.getD i []).length) p rs.length
theorem lenP_few {rs:List (List Nat)}(h:rs.length<2):LenP rs (Array.range rs.length):=by
 have g:∀ k,k<rs.length→gp' (Array.range rs.length) k=k:=fun k hk=>by simp [gp',hk]
 refine⟨⟨by simp,Nat.le_refl _,fun k hk=>by rw[g k hk];exact hk,fun a c ha hc _=>by omega,fun k h1 h2=>by omega⟩,fun a c h1 h2=>by omega⟩
theorem pick_few {vs:List Value}:pickV vs (Array.range vs.length)=vs:=by
 unfold pickV
 apply List.ext_getElem?
 intro i
 rw[List.getElem?_map]
 by_cases hi:i<vs.length
 ·rw[List.getElem?_range hi]
  simp [gp',hi]
 ·rw[List.getElem?_eq_none (by rw[List.length_range];omega),List.getElem?_eq_none (by omega)];rfl
theorem ksort_len {a:Addr}{vs:List Value}{rs:List (List Nat)}{n:Nat}{P:PySem.Fin→Shared→Prop}(ho:s.heap.get? a=some (seqObj "list" vs.toArray n)) (x:TupRs s.heap vs rs)(h6:∀ r∈rs,r.length<64)(h64:vs.length<64)
  (h:∀(p:Array Nat) (c:Nat)(h':Heap) (tk:Nat),LenP rs p→h'.get? a=some (seqObj "list" (pickV vs p).toArray c)→(∀ b o,b≠a→s.heap.get? b=some o→h'.get? b=some o)→P (.done (.ret .none)) {s with heap:=h',toks:=tk}) :
  wpAny (model prog w) A (ksk_tree a (.builtin "len") false) P E s:=by
 have ha:a<s.heap.objs.size:=Heap.lt_size ho
 have hlen:=x.1
 have notA:∀(i:Nat)(v:Value)(r:List Nat),vs[i]?=some v→rs[i]?=some r→v≠.ref a:=fun i v r q1 q2 e=>by
  obtain⟨b,its,rfl,⟨o,e1,e2,_⟩,_⟩:=x.2 i v r q1 q2
  cases e
  rw[ho] at e1
  cases e1
  simp [seqObj] at e2
 have s1:=Heap.SameBut.update s.heap a (Obj.mapSeq fun _=>(#[]:Array Value))
 obtain⟨e1,ho1⟩:∃ e1,(s.heap.update a (Obj.mapSeq fun _=>(#[]:Array Value))).get? a=some (seqObj "list" #[] e1):=⟨_,get?_update_seq ho fun _=>#[]⟩
 have hkS:((s.heap.update a (Obj.mapSeq fun _=>(#[]:Array Value))).push (seqObj "tuple" vs.toArray 0)).objs.size=s.heap.objs.size+1:=by rw[size_push',Heap.size_update]
 unfold ksk_tree
 refine wpAny_bind (listItems_at ho rfl ?_)
 refine wpAny_bind (listUpdate_at ho rfl ?_ (by rw[List.size_toArray,sizeLine_eq];omega) (Nat.zero_le _))
 refine wpAny_bind (seqEpoch_at ho1 rfl ?_)
 refine wpAny_bind (wpAny_newTuple ?_ (by show vs.length≤_;rw[sizeLine_eq];omega))
 refine wpAny_bind (wpAny_newList ?_ (Nat.zero_le _))
 refine wpAny_holding ?_
 unfold ksk_rest
 refine wpAny_bind (wpAny_rule ?_)
 first
  | rw[List.forIn_toArray]
  | (rw[← Array.forIn_toList];simp only[List.toList_toArray])
  | rw[← Array.forIn_toList]
 generalize hk0:((s.heap.update a (Obj.mapSeq fun _=>(#[]:Array Value))).push (seqObj "tuple" vs.toArray 0)).objs.size=kS at *
 generalize hh0:((s.heap.update a (Obj.mapSeq fun _=>(#[]:Array Value))).push (seqObj "tuple" vs.toArray 0)).push (seqObj "list" #[] 0)=h0
 have hka:kS≠a:=by rw[hkS];exact Nat.ne_of_gt (Nat.lt_succ_of_lt ha)
 have k0:h0.get? kS=some (seqObj "list" #[] 0):=by rw[← hh0,← hk0];exact Heap.get?_push_size _ rfl
 have a0:h0.get? a=some (seqObj "list" #[] e1):=by rw[← hh0];exact Heap.get?_push_of_some _ (Heap.get?_push_of_some _ ho1)
 have kp0:∀ b o,b≠a→s.heap.get? b=some o→h0.get? b=some o:=fun b o hb q=>by
  rw[← hh0];exact Heap.get?_push_of_some _ (Heap.get?_push_of_some _ ((s1.2 b hb).trans q))
 have notK:∀ b o,s.heap.get? b=some o→b≠kS:=fun b o q=>by rw[hkS];exact Nat.ne_of_lt (Nat.lt_succ_of_lt (Heap.lt_size q))
 have tup:∀(h':Heap),(∀ b o,b≠a→s.heap.get? b=some o→h'.get? b=some o)→TupRs h' vs rs:=fun h' kp=>⟨hlen,fun i v r q1 q2=>by
  have na:=notA i v r q1 q2
  obtain⟨b,its,rfl,⟨o,e1,e2⟩,ii⟩:=x.2 i v r q1 q2
  exact⟨b,its,rfl,⟨o,kp b o (fun z=>na (by rw[z])) e1,e2⟩,ii⟩⟩
 refine wpAny_bind (ksk_fold (fun i s'=>∃ h' tk kA e,s'={s with heap:=h',toks:=tk}∧h'.get? kS=some (seqObj "list" kA e)∧h'.get? a=some (seqObj "list" #[] e1)∧(∀ b o,b≠a→s.heap.get? b=some o→h'.get? b=some o)∧IntsAre kA.toList ((rs.map fun r=>(r.length:Int)).take i)) vs 0 _
  ⟨h0,s.toks,#[],0,rfl,k0,a0,kp0,by simpa using IntsAre.nil⟩ ?step ?done)
 case step =>
  rintro j x0 s' hx ⟨h',tk,kA,e,rfl,nk,na,kp,hk⟩
  simp only[Nat.zero_add] at hk ⊢
  have hj:j<vs.length:=(List.getElem?_eq_some_iff.mp hx).1
  have hj':j<rs.length:=by omega
  have hz:kA.size≤vs.length:=by
   have h1:=hk.length
   rw[Array.length_toList,List.length_take,List.length_map] at h1
   omega
  refine wpAny_bind (wpAny_attempt (len_row (s:={s with heap:=h',toks:=tk}) ((tup h' kp).2 j x0 rs[j] hx (List.getElem?_eq_getElem hj')) (h6 _ (List.getElem_mem _)) fun t2 tk2=>?_))
  try dsimp only
  have s1:=Heap.SameBut.update h' kS (Obj.mapSeq (·.push (.int (rs[j].length:Nat) t2)))
  obtain⟨c2,hc2⟩:∃ c2,(h'.update kS (Obj.mapSeq (·.push (.int (rs[j].length:Nat) t2)))).get? kS=some (seqObj "list" (kA.push (.int (rs[j].length:Nat) t2)) c2):=⟨_,get?_update_seq nk (·.push (.int (rs[j].length:Nat) t2))⟩
  have ek:(rs.map fun r=>(r.length:Int)).take (j+1)=(rs.map fun r=>(r.length:Int)).take j++[(rs[j].length:Int)]:=by rw[List.take_add_one,List.getElem?_map,List.getElem?_eq_getElem hj'];simp
  have ea:(kA.push (Value.int (rs[j].length:Nat) t2)).toList=kA.toList++[Value.int (rs[j].length:Nat) t2]:=by simp
  refine wpAny_bind (listUpdate_at nk rfl ?_ (by rw[sizeLine_eq];omega) (Nat.le_trans (Nat.le_of_eq (Array.size_push ..)) (by rw[sizeLine_eq];omega)))
  refine wpAny_pure ⟨rfl,_,_,kA.push (.int (rs[j].length:Nat) t2),c2,rfl,hc2,(s1.2 a hka.symm).trans na,fun b o hb q=>(s1.2 b (notK b o q)).trans (kp b o hb q),by rw[ea,ek];exact ksk_snoc hk⟩
 case done =>
  rintro s' ⟨h',tk,kA,e,rfl,nk,na,kp,hk⟩
  have hk':IntsAre kA.toList (rs.map fun r=>(r.length:Int)):=by
   have e3:(rs.map fun r=>(r.length:Int)).take (0+vs.length)=rs.map fun r=>(r.length:Int):=List.take_of_length_le (by rw[List.length_map];omega)
   rw[e3] at hk
   exact hk
  clear hk
  have hsz:kA.size=vs.length:=by
   have h1:=hk'.length
   rw[Array.length_toList,List.length_map] at h1
   omega
  try dsimp only
  refine wpAny_bind (listItems_at nk rfl ?_)
  have fin:∀(st:SortSt)(p:Array Nat),LenP rs p→(arrOf st).map (·.2)=(pickV vs p).toArray→failedOf st=none→wpAny (model prog w) A (ksk_tail a false e1 (.ref kS) st) P E {s with heap:=h',toks:=tk}:=fun st p hp har hf=>by
   have s1:=Heap.SameBut.update h' kS (Obj.mapSeq fun _=>(#[]:Array Value))
   have na1:(h'.update kS (Obj.mapSeq fun _=>(#[]:Array Value))).get? a=some (seqObj "list" #[] e1):=(s1.2 a hka.symm).trans na
   have s2:=Heap.SameBut.update (h'.update kS (Obj.mapSeq fun _=>(#[]:Array Value))) a (Obj.mapSeq fun _=>(pickV vs p).toArray)
   obtain⟨c2,hc2⟩:∃ c2,((h'.update kS (Obj.mapSeq fun _=>(#[]:Array Value))).update a (Obj.mapSeq fun _=>(pickV vs p).toArray)).get? a=some (seqObj "list" (pickV vs p).toArray c2):=⟨_,get?_update_seq na1 fun _=>(pickV vs p).toArray⟩
   unfold ksk_tail
   try dsimp only
   rw[har]
   refine wpAny_bind (listUpdate_at nk rfl ?_ (by rw[hsz,sizeLine_eq];omega) (Nat.zero_le _))
   refine wpAny_bind (wpAny_letGo ?_)
   refine wpAny_bind (seqEpoch_at na1 rfl ?_)
   refine wpAny_bind (listUpdate_at na1 rfl ?_ (Nat.zero_le _) (by show(pickV vs p).toArray.size≤_;rw[List.size_toArray,sizeLine_eq];simp [pickV];omega))
   rw[hf]
   simp only[bne_self_eq_false,Bool.false_eq_true,if_false]
   exact wpAny_pure (h p c2 _ _ hp hc2 fun b o hb q=>(s2.2 b hb).trans ((s1.2 b (notK b o q)).trans (kp b o hb q)))
  unfold ksk_end
  try dsimp only
  rw[if_neg (by decide)]
  by_cases h2:vs.toArray.size<2
  ·rw[if_pos h2,if_pos h2]
   rw[List.size_toArray] at h2
   refine wpAny_bind (wpAny_pure ?_)
   rw[StateT.run_pure]
   refine wpAny_bind (wpAny_pure ?_)
   try dsimp only
   refine fin _ (Array.range rs.length) (lenP_few (by omega)) ?_ rfl
   rw[← hlen,pick_few]
   show(kA.zip vs.toArray).map (·.2)=vs.toArray
   apply Array.toList_inj.mp
   rw[Array.toList_map,ksk_zip,List.map_snd_zip (by have:=hsz;simp only[Array.length_toList];exact Nat.le_of_eq this.symm)]
  ·rw[if_neg h2,if_neg h2]
   rw[List.size_toArray] at h2
   rw[ksk_kind hk' (by rw[hsz];omega)]
   refine wpAny_bind (wpAny_pure ?_)
   obtain⟨PP,SS⟩:=sortP_ok (fun i=>(rs.getD i []).length) (n:=vs.length) (by omega)
   have ez:kA=kA.toList.toArray:=by simp
   have kl:kA.toList.length=vs.length:=by rw[Array.length_toList];exact hsz
   rw[ez]
   refine wpAny_bind (wpAny_mono (runs_keys (s:={s with heap:=h',toks:=tk}) (A:=A) (κ:=oneType') (E:=E) (ks:=kA.toList) (Q:=fun st' s''=>s''={s with heap:=h',toks:=tk}∧((arrOf st').map (·.2)=(pickV vs (sortP (fun i=>(rs.getD i []).length) vs.length)).toArray∧failedOf st'=none)) (fun i=>(rs.getD i []).length) kl (by omega) h64 (fun i j C hi hj hC=>?_) fun st' e1 e2=>⟨rfl,e1,e2⟩) ?_ fun _ _ q=>q)
   ·have at_:∀ i,i<vs.length→∃ t,kA.toList.getD i .none=.int ((rs.getD i []).length:Nat) t:=fun i hi=>by
     obtain⟨n,t,e1,e2⟩:=hk'.at i (kA.toList[i]'(by omega)) (List.getElem?_eq_getElem _)
     rw[List.getElem?_map,List.getElem?_eq_getElem (show i<rs.length by omega)] at e2
     refine⟨t,?_⟩
     rw[getD_val (by omega),e1,getD_at (by omega)]
     cases e2
     rfl
    obtain⟨t,e1⟩:=at_ i hi
    obtain⟨u,e2⟩:=at_ j hj
    rw[e1,e2]
    refine kat_lt_int ?_
    simpa using hC
   ·rintro⟨⟨⟩,st'⟩ s' ⟨rfl,hp,hf⟩
    try dsimp only
    exact fin st' _ ⟨by rw[← hlen];exact PP,by rw[← hlen];exact SS⟩ hp hf
theorem sorted_len {l:Addr}{vs:List Value}{rs:List (List Nat)}{Q:Value→Shared→Prop}(hl:s.heap.IsList l vs.toArray)(x:TupRs s.heap vs rs)(h6:∀ r∈rs,r.length<64)(h64:vs.length<64)
  (h:∀(D:Addr)(p:Array Nat) (c:Nat)(h':Heap) (tk:Nat),s.heap.objs.size≤D→LenP rs p→h'.get? D=some (seqObj "list" (pickV vs p).toArray c)→(∀ b o,s.heap.get? b=some o→h'.get? b=some o)→Q (.ref D) {s with heap:=h',toks:=tk}) :
  wpAny (model prog w) A (call (.builtin "sorted") [.ref l] [(Str.ofString "key",.builtin "len")]) Q E s:=by
 refine call_function_entry_kw kind_sorted plain_sorted entry_sorted (ksk_s1 _ _) ?_
 unfold Builtin.«sorted»
 refine wpAny_bind (m:=checkCount "sorted" 1 1 _) (wpAny_pure ?_)
 refine wpAny_bind (collect_list hl ?_ (by rw[sizeLine_eq];omega))
 refine wpAny_bind (wpAny_newList ?_ (by rw[sizeLine_eq];omega))
 have hsz:((s.heap.push (seqObj "list" #[] 0)).update s.heap.objs.size (Obj.mapSeq (·++vs.toArray))).objs.size=s.heap.objs.size+1:=by
  rw[Heap.size_update,size_push']
 have hoL:(((s.heap.push (seqObj "list" #[] 0)).update s.heap.objs.size (Obj.mapSeq (·++vs.toArray))).push (seqObj "list" vs.toArray 0)).get? (s.heap.objs.size+1)=some (seqObj "list" vs.toArray 0):=by
  rw[← hsz];exact Heap.get?_push_size _ rfl
 have keep:∀ b o,s.heap.get? b=some o→(((s.heap.push (seqObj "list" #[] 0)).update s.heap.objs.size (Obj.mapSeq (·++vs.toArray))).push (seqObj "list" vs.toArray 0)).get? b=some o:=fun b o q=>by
  have hlt:b<s.heap.objs.size:=Heap.lt_size q
  rw[Heap.get?_push_ne _ _ _ (by rw[hsz];exact Nat.ne_of_lt (Nat.lt_succ_of_lt hlt)),Heap.get?_update_ne _ _ _ _ (Nat.ne_of_lt hlt),Heap.get?_push_ne _ _ _ (Nat.ne_of_lt hlt)]
  exact q
 show wpAny _ _ _ _ _ {s with heap:=((s.heap.push (seqObj "list" #[] 0)).update s.heap.objs.size (Obj.mapSeq (·++vs.toArray))).push (seqObj "list" vs.toArray 0)}
 rw[hsz]
 refine wpAny_bind (wpAny_holding (wpAny_call_entry_kw slot_list_sort ⟨_,hoL,rfl⟩ entry_list_sort ?body (ksk_l1 _ _)))
 show wpAny (model prog w) A.in1.in1 (Builtin.«list.sort» ⟨[.ref (s.heap.objs.size+1)],[(Str.ofString "key",.builtin "len")]⟩) _ _ _
 rw[ksk_t4]
 refine ksort_len (s:={s with heap:=((s.heap.push (seqObj "list" #[] 0)).update s.heap.objs.size (Obj.mapSeq (·++vs.toArray))).push (seqObj "list" vs.toArray 0)}) hoL (x.keep keep) h6 h64 fun p c h' tk hp hc kp=>⟨_,rfl,?_⟩
 refine wpAny_pure ⟨_,rfl,h _ p c h' tk (Nat.le_succ _) hp hc fun b o q=>kp b o (Nat.ne_of_lt (Nat.lt_succ_of_lt (Heap.lt_size q))) (keep b o q)⟩
end
end TL
namespace TL
open PySem PyProof.Rows PySem.W L2 SeqAt SR
noncomputable def byLen (rs:List (List Nat)):List (List Nat):=(List.range 7).flatMap fun k=>rs.filter fun r=>r.length==k
noncomputable def befL (rs:List (List Nat)) (x y:Nat):Prop:=bef (fun i=>(rs.getD i []).length) x y
theorem places_len {rs:List (List Nat)}(h6:∀ r∈rs,r.length<7){p:Array Nat}(P:LenP rs p):(List.range rs.length).map (fun k=>rs.getD (gp' p k) [])=byLen rs:=by
 obtain⟨P,S⟩:=P
 have pm:∀ i,i<rs.length→∃ k,k<rs.length∧gp' p k=i:=fun i hi=>by
  apply Classical.byContradiction
  intro hc
  have nd:((List.range rs.length).map (gp' p)).Nodup:=map_nd List.nodup_range fun a ha b hb e=>P.inj a b (List.mem_range.mp ha) (List.mem_range.mp hb) e
  have:=sub_len (l:=i::(List.range rs.length).map (gp' p)) (l':=List.range rs.length) (List.nodup_cons.mpr ⟨fun hm=>by
   obtain⟨k,hk,e⟩:=List.mem_map.mp hm
   exact hc ⟨k,List.mem_range.mp hk,e⟩,nd⟩) fun x hx=>by
   rcases List.mem_cons.mp hx with rfl|hx
   ·exact List.mem_range.mpr hi
   ·obtain⟨k,hk,rfl⟩:=List.mem_map.mp hx
    exact List.mem_range.mpr (P.lt k (List.mem_range.mp hk))
  simp at this
  omega
 have key:(List.range rs.length).map (gp' p)=(List.range 7).flatMap fun k=>(List.range rs.length).filter fun i=>(rs.getD i []).length==k:=by
  refine sorted_uniq (R:=befL rs) (fun a b h1 h2=>?_) ?_ ?_ fun x=>?_
  ·unfold befL bef at h1 h2;omega
  ·rw[List.pairwise_map]
   refine List.Pairwise.imp_of_mem (fun{a c} ha hc hac=>?_) List.pairwise_lt_range
   exact S a c hac (List.mem_range.mp hc)
  ·rw[List.pairwise_flatMap]
   refine⟨fun k _=>?_,?_⟩
   ·refine List.Pairwise.imp_of_mem (fun{a c} ha hc hac=>?_) (List.Pairwise.filter _ List.pairwise_lt_range)
    have h1:=(List.mem_filter.mp ha).2
    have h2:=(List.mem_filter.mp hc).2
    simp only[beq_iff_eq] at h1 h2
    exact .inr ⟨h1.trans h2.symm,hac⟩
   ·refine List.Pairwise.imp_of_mem (fun{a c} ha hc hac=>?_) List.pairwise_lt_range
    intro x hx y hy
    have h1:=(List.mem_filter.mp hx).2
    have h2:=(List.mem_filter.mp hy).2
    simp only[beq_iff_eq] at h1 h2
    exact .inl (by show(rs.getD x []).length<(rs.getD y []).length;rw[h1,h2];exact hac)
  ·rw[List.mem_map,List.mem_flatMap]
   constructor
   ·rintro⟨k,hk,rfl⟩
    have hk':=P.lt k (List.mem_range.mp hk)
    refine⟨(rs.getD (gp' p k) []).length,List.mem_range.mpr ?_,List.mem_filter.mpr ⟨List.mem_range.mpr hk',by simp⟩⟩
    rw[getD_at hk'];exact h6 _ (List.getElem_mem _)
   ·rintro⟨k,_,hx⟩
    obtain⟨j,hj,e⟩:=pm x (List.mem_range.mp (List.mem_filter.mp hx).1)
    exact⟨j,List.mem_range.mpr hj,e⟩
 have e1:(List.range rs.length).map (fun k=>rs.getD (gp' p k) [])=((List.range rs.length).map (gp' p)).map fun i=>rs.getD i []:=by rw[List.map_map];rfl
 rw[e1,key,List.map_flatMap,byLen]
 congr 1
 funext k
 have e2:rs=(List.range rs.length).map fun i=>rs.getD i []:=by
  apply List.ext_getElem?
  intro i
  rw[List.getElem?_map]
  by_cases hi:i<rs.length
  ·rw[List.getElem?_range hi,List.getElem?_eq_getElem hi]
   show _=some (rs.getD i [])
   rw[getD_at hi]
  ·rw[List.getElem?_eq_none (show rs.length≤i by omega),List.getElem?_eq_none (by rw[List.length_range];omega)];rfl
 conv=>rhs;rw[e2,List.filter_map]
 rfl
noncomputable def fSortLen (f:FE):FA:=fun ρ=>match f ρ with
 | some (.lst ts)=>(match rowsT ts with|some rs=>if rs.length<64 then some ((byLen rs).map rowT) else none|none=>none)
 | _=>none
theorem subs_len:∀ r∈subs6,r.length<7:=by decide +kernel
section
variable {X:Cx}{z:Z}{e:Expr}{f:FE}{p p2 pos kp:Pos}
theorem ef_sortLen (hK:z.K=X.K)(hm:X.mg "sorted"=none)(hm2:X.mg "len"=none)(h:ER X z e f)(hg:Gl X "sorted":=by rfl)(hg2:Gl X "len":=by rfl)(hs:starEach [e] X.env=[(false,eval e X.env)]:=by rfl) :
  EF X z (.Call (.Name "sorted" p) [e] [⟨some "key",.Name "len" p2,kp⟩] pos) (fSortLen f):=by
 intro pins s σ H Q I ⟨ρ,Hq,us,r,e0,k⟩
 have key:∃ ts rs,f ρ=some (.lst ts)∧rowsT ts=some rs∧rs.length<64∧us=(byLen rs).map rowT:=by
  unfold fSortLen at e0
  split at e0
  ·rename_i ts et
   split at e0
   ·rename_i rs er
    split at e0
    ·rename_i hl
     cases e0
     exact⟨ts,rs,et,er,hl,rfl⟩
    ·cases e0
   ·cases e0
  ·cases e0
 obtain⟨ts,rs,et,er,hl,rfl⟩:=key
 obtain⟨l1,l6,lat⟩:=rowsT_at er
 refine wpAny_Call_Name_kw (ld_blt I hg hm boot_sorted ?_)
 refine callWith_kw (thn (ea_r1 h hs pos pins s σ H (fun vs H1=>∃ v Hq1,vs=[v]∧Ex Hq H Hq1 H1∧RepR z.K Hq1 H1 (.lst ts) v) I ⟨ρ,Hq,_,r,et,fun v Hq' H' x q=>⟨v,Hq',rfl,x,q⟩⟩) fun us s1 ⟨vs,H1,I1,r1,v,Hq1,ev,x1,q1⟩=>?_) (by rw[hs];rfl) (by rw[hs];rfl)
 subst ev
 refine kws_cons (ld_blt I1 hg2 hm2 PySem.boot_len (kws_nil ?_))
 obtain⟨l,ws,rfl,q2,q3⟩:=q1.lst x1.sub
 cases r1 with
 | cons r1 rr =>
   cases rr
   cases r1
   rw[hK] at q2
   obtain⟨its,v1,p1,_⟩:=I1.list q2
   have ln:its.length=rs.length:=by rw[← v1.length,← q3.length,l1]
   have at_:∀(i:Nat)(v:Value)(k:List Nat),its[i]?=some v→rs[i]?=some k→∃ c,v=.ref c∧Rep z.K Hq1 (rowT k) (.ref c):=fun i v k q1 q2=>by
    have hi:i<ts.length:=by rw[l1];exact(List.getElem?_eq_some_iff.mp q2).1
    obtain⟨y,g1,g2⟩:=q3.get (List.getElem?_eq_getElem hi)
    obtain⟨u,g3,g4⟩:=v1.get g1
    rw[q1] at g3
    cases g3
    have eq:=unN_eq (lat i _ k (List.getElem?_eq_getElem hi) q2)
    rw[eq] at g2
    have g2':=g2
    unfold rowT Rep at g2
    obtain⟨c,_,rfl,_⟩:=g2
    cases g4
    exact⟨c,rfl,g2'⟩
   have isA:∀(b:Addr)(q:List Nat),Rep z.K Hq1 (rowT q) (.ref b)→(tkd X.prog X.w).is s1.heap (asInts q) b:=fun b q g=>by
    have hun:unN (rowT q)=some q:=by
     show unR (q.map fun(i:Nat)=>T.int (i:Int))=some q
     clear g
     induction q with
     | nil=>rfl
     | cons n q ih=>simp only[List.map_cons,unR];rw[if_pos (by omega),ih];simp
    obtain⟨a,ea,hs⟩:=unN_rep hun g
    cases ea
    rw[hK] at hs
    exact key_at I1 (sqT_mono x1.sub hs)
   have xs:TupRs s1.heap its rs:=⟨ln,fun i v q h1 h2=>by
    obtain⟨c,rfl,g⟩:=at_ i v q h1 h2
    exact tupR_of (isA c q g)⟩
   refine sorted_len p1.isList xs (fun r hr=>Nat.lt_of_lt_of_le (subs_len r (l6 r hr)) (by decide)) (by omega) fun D pp c h' tk hD hp ho kp=>?_
   have h7:∀ r∈rs,r.length<7:=fun r hr=>subs_len r (l6 r hr)
   have pls:=places_len h7 hp
   obtain⟨vs,hv,hr⟩:=repL_of (K:=z.K) (H:=Hq1) (rs:=byLen rs) (out:=pickV its pp) (by rw[← pls];simp [pickV,ln]) fun i v q q1 q2=>by
    rw[← pls] at q2
    unfold pickV at q1
    rw[List.getElem?_map] at q1 q2
    by_cases hi:i<its.length
    ·rw[List.getElem?_range hi] at q1
     rw[List.getElem?_range (by omega)] at q2
     cases q1
     cases q2
     have:=hp.1.lt i (by omega)
     show ∃ b,its.getD (gp' pp i) .none=.ref b∧Rep z.K Hq1 (rowT (rs.getD (gp' pp i) [])) (.ref b)
     rw[getD_val (show gp' pp i<its.length by omega),getD_at this]
     exact at_ _ _ _ (List.getElem?_eq_getElem _) (List.getElem?_eq_getElem _)
    ·rw[List.getElem?_eq_none (by rw[List.length_range];omega)] at q1
     cases q1
   have hH:H1 D=none:=I1.hok.fresh hD
   refine⟨.ref D,upd H1 D (.lst vs),I1.laid (t':=tk) kp hD ⟨?_,pickV its pp,c,hv,ho⟩,rfl,k D _ Hq1 H1 x1 hH hr⟩
   rw[hv.length,sizeLine_eq]
   simp [pickV]
   omega
end
end TL
namespace TL
open PySem L2
section
variable {X:Cx}
end
end TL
namespace SR
open PySem PyProof.Rows PySem.W TL
section
variable {prog:Program}{w:World}{A:Around}{E:Value→Shared→Prop}{s:Shared}{κ:SortKind}{it:Nat→Keyed}{b:Nat→Nat→Bool}{st:SortSt}
theorem ltS (O:Orc prog w A s κ it b)(hk:kindOf st=κ){i j:Nat}{Q:Option Bool→SortSt→Prop}(h:Q (some (b i j)) st):wpS (model prog w) A E s (lt' (it i) (it j)) Q st:=by
 subst hk
 rw[lt'_eq]
 refine wpS_bind (wpS_get ?_)
 refine wpS_bind (wpS_lift (wpAny_attempt (O i j _ _ ⟨rfl,?_⟩)))
 exact wpS_pure h
theorem beyS (O:Orc prog w A s κ it b)(hk:kindOf st=κ){left:Bool}{kk:Nat}{a:Array Nat}{base i:Nat}{Q:Option Bool→SortSt→Prop}(hi:base+i<a.size)(h:Q (some (bey b left kk a base i)) st) :
  wpS (model prog w) A E s (elem' (a.map it) (base+i) >>= fun x=>if left=true then lt' x (it kk) else (lt' (it kk) x >>= fun r=>pure (Option.map (fun x=>!x) r))) Q st:=by
 refine wpS_bind (elem_det hi ?_)
 unfold bey at h
 cases left with
 | true =>
   simp only[if_true] at h ⊢
   exact ltS O hk h
 | false =>
   simp only[Bool.false_eq_true,if_false] at h ⊢
   exact wpS_bind (ltS O hk (wpS_pure h))
noncomputable def Cut (q:Nat→Bool) (n c:Nat):Prop:=c≤n∧∀ i,i<n→(q i=true↔i<c)
theorem cut_of {q:Nat→Bool}:∀{n:Nat},(∀ i j,i<j→j<n→q j=true→q i=true)→∃ c,Cut q n c
 | 0,_=>⟨0,Nat.le_refl _,fun i h=>absurd h (Nat.not_lt_zero _)⟩
 | n+1,hm=>by
   obtain⟨c,h1,h2⟩:=cut_of (q:=q) (n:=n) fun i j a b=>hm i j a (by omega)
   by_cases e:q n=true
   ·have:c=n:=by
     by_cases hc:c<n
     ·have:=(h2 c hc).mp (hm c n hc (by omega) e);omega
     ·omega
    subst this
    refine⟨c+1,Nat.le_refl _,fun i hi=>?_⟩
    by_cases ei:i=c
    ·subst ei;exact⟨fun _=>hi,fun _=>e⟩
    ·have:=h2 i (by omega)
     exact⟨fun _=>hi,fun _=>this.mpr (by omega)⟩
   ·refine⟨c,by omega,fun i hi=>?_⟩
    by_cases ei:i=n
    ·subst ei;exact⟨fun z=>absurd z e,fun z=>by omega⟩
    ·exact h2 i (by omega)
theorem bse_cut {q:Nat→Bool}{n c:Nat}(C:Cut q n c):∀(f lo hi:Nat),lo≤c→c≤hi→hi≤n→hi - lo≤f→bse q f lo hi=c
 | 0,lo,hi,h1,h2,h3,h4=>by unfold bse;omega
 | f+1,lo,hi,h1,h2,h3,h4=>by
   unfold bse
   by_cases hle:hi≤lo
   ·rw[if_pos hle];omega
   ·rw[if_neg hle]
    by_cases e:q (lo+(hi - lo) / 2)=true
    ·rw[if_pos e]
     have:=(C.2 _ (by omega)).mp e
     exact bse_cut C f _ _ (by omega) h2 h3 (by omega)
    ·rw[if_neg e]
     have:¬ lo+(hi - lo) / 2<c:=fun z=>e ((C.2 _ (by omega)).mpr z)
     exact bse_cut C f _ _ h1 (by omega) (by omega) (by omega)
theorem expo_right {q:Nat→Bool}{n c hint:Nat}(C:Cut q n c)(hh:hint<n):∀(f l o:Nat),hint+l<c→l<o→n - hint≤o+f →
  hint+(expo (fun o=>q (hint+o)) (n - hint) f l o).1<c∧c≤hint+min (expo (fun o=>q (hint+o)) (n - hint) f l o).2 (n - hint)
 | 0,l,o,h1,h2,h3=>by
   unfold expo
   have:=C.1
   exact⟨h1,by dsimp only;omega⟩
 | f+1,l,o,h1,h2,h3=>by
   unfold expo
   have:=C.1
   by_cases hle:n - hint≤o
   ·rw[if_pos hle];exact⟨h1,by dsimp only;omega⟩
   ·rw[if_neg hle]
    by_cases e:q (hint+o)=true
    ·rw[if_pos e]
     exact expo_right C hh f _ _ ((C.2 _ (by omega)).mp e) (by omega) (by omega)
    ·rw[if_neg e]
     have:¬ hint+o<c:=fun z=>e ((C.2 _ (by omega)).mpr z)
     exact⟨h1,by dsimp only;omega⟩
theorem expo_left {q:Nat→Bool}{n c hint:Nat}(C:Cut q n c)(hh:hint<n):∀(f l o:Nat),c≤hint - l→l<hint+1→l<o→hint+1≤o+f →
  c≤hint - (expo (fun o=>!q (hint - o)) (hint+1) f l o).1∧hint+1 - min (expo (fun o=>!q (hint - o)) (hint+1) f l o).2 (hint+1)≤c
 | 0,l,o,h1,h0,h2,h3=>by
   unfold expo
   exact⟨h1,by dsimp only;omega⟩
 | f+1,l,o,h1,h0,h2,h3=>by
   unfold expo
   by_cases hle:hint+1≤o
   ·rw[if_pos hle];exact⟨h1,by dsimp only;omega⟩
   ·rw[if_neg hle]
    by_cases e:q (hint - o)=true
    ·rw[if_neg (by rw[e];decide)]
     have:=(C.2 _ (by omega)).mp e
     exact⟨h1,by dsimp only;omega⟩
    ·rw[if_pos (by rw[show q (hint - o)=false by simpa using e];decide)]
     have:¬ hint - o<c:=fun z=>e ((C.2 _ (by omega)).mpr z)
     exact expo_left C hh f _ _ (by omega) (by omega) (by omega) (by omega)
theorem gp_cut {left:Bool}{kk:Nat}{a:Array Nat}{base n c hint:Nat}(C:Cut (bey b left kk a base) n c) (hh:hint<n):gp b left kk a base n hint=c:=by
 unfold gp
 by_cases e:bey b left kk a base hint=true
 ·rw[if_pos e]
  have h0:=(C.2 _ hh).mp e
  obtain⟨h1,h2⟩:=expo_right C hh n 0 1 h0 (by omega) (by omega)
  exact bse_cut C _ _ _ (by omega) h2 (by omega) (by omega)
 ·rw[if_neg e]
  have h0:¬ hint<c:=fun z=>e ((C.2 _ hh).mpr z)
  obtain⟨h1,h2⟩:=expo_left C hh n 0 1 (by omega) (by omega) (by omega) (by omega)
  exact bse_cut C _ _ _ h2 h1 (by omega) (by omega)
theorem bseS (O:Orc prog w A s κ it b)(hk:kindOf st=κ){left:Bool}{kk:Nat}{a:Array Nat}{base n:Nat}{Q:Option Nat→SortSt→Prop}(hz:base+n≤a.size) (lo hi:Nat)(hhi:hi≤n)
  (h:Q (some (bse (bey b left kk a base) n lo hi)) st) (F:Nat→Option (Option Nat)×Nat×Nat→StateT SortSt Sem (ForInStep (Option (Option Nat)×Nat×Nat)))
  (G:Option (Option Nat)×Nat×Nat→StateT SortSt Sem (Option Nat)) (hG:∀ lo hi,G (none,lo,hi)=pure (some hi))
  (hF:∀ x lo hi,F x (none,lo,hi)=if lo≥hi then pure (ForInStep.done (none,lo,hi)) else
   ((elem' (a.map it) (base+(lo+(hi - lo) / 2)) >>= fun x=>if left=true then lt' x (it kk) else (lt' (it kk) x >>= fun r=>pure (Option.map (fun x=>!x) r))) >>= fun x=>match x with
     | some more=>if more=true then pure (ForInStep.yield (none,lo+(hi - lo) / 2+1,hi)) else pure (ForInStep.yield (none,lo,lo+(hi - lo) / 2))
     | none=>pure (ForInStep.done (some none,lo,hi)))) :
  wpS (model prog w) A E s (forIn [:n] (none,lo,hi) F >>= G) Q st:=by
 generalize hR:bse (bey b left kk a base) n lo hi=R at h
 refine wpS_bind (wpS_mono (wpS_forRange (I:=fun x c st'=>st'=st∧∃ l r,c=(none,l,r)∧r≤n∧bse (bey b left kk a base) (n - x) l r=R)
  (Q:=fun c st'=>st'=st∧∃ l,c=(none,l,R)) ?step ?fin ⟨rfl,lo,hi,rfl,hhi,hR⟩) ?post)
 case post =>
  rintro c st' ⟨rfl,l,rfl⟩
  rw[hG]
  exact wpS_pure h
 case fin =>
  rintro c st' ⟨rfl,l,r,rfl,hr,e⟩
  rw[show n - max 0 n=0 by omega] at e
  have e':r=R:=e
  exact⟨rfl,l,by rw[e']⟩
 case step =>
  rintro x c st' _ hx ⟨rfl,l,r,rfl,hr,e⟩
  rw[hF]
  obtain⟨f,hf⟩:∃ f,n - x=f+1:=⟨n - x - 1,by omega⟩
  rw[hf] at e
  unfold bse at e
  by_cases hge:r≤l
  ·rw[if_pos hge] at e
   rw[if_pos hge]
   exact wpS_pure ⟨rfl,l,by rw[e]⟩
  ·rw[if_neg hge] at e
   rw[if_neg hge]
   refine wpS_bind (beyS O hk (by omega) ?_)
   dsimp only
   cases hb:bey b left kk a base (l+(r - l) / 2) with
   | true =>
     rw[hb] at e
     simp only[if_true] at e ⊢
     exact wpS_pure ⟨rfl,_,r,rfl,hr,by rw[show n - (x+1)=f by omega];exact e⟩
   | false =>
     rw[hb] at e
     simp only[Bool.false_eq_true,if_false] at e ⊢
     exact wpS_pure ⟨rfl,l,_,rfl,by omega,by rw[show n - (x+1)=f by omega];exact e⟩
theorem galS (O:Orc prog w A s κ it b)(hk:kindOf st=κ){left:Bool}{kk:Nat}{a:Array Nat}{base n hint:Nat}{Q:Option Nat→SortSt→Prop}(hz:base+n≤a.size)(hh:hint<n)
  (h:Q (some (gp b left kk a base n hint)) st):wpS (model prog w) A E s (gal left (it kk) (a.map it) base n hint) Q st:=by
 refine wpS_bind ?_
 refine beyS O hk (by omega) ?_
 dsimp only
 unfold gp at h
 cases hb:bey b left kk a base hint with
 | true =>
   rw[hb] at h
   simp only[if_true] at h ⊢
   generalize hX:expo (fun o=>bey b left kk a base (hint+o)) (n - hint) n 0 1=X at h
   have hXl:X.1<n - hint:=by rw[← hX];exact expo_le _ _ _ _ _ (by omega)
   refine wpS_bind (wpS_mono (wpS_forRange (I:=fun x c st'=>st'=st∧∃ l o,c=(none,l,o)∧expo (fun o=>bey b left kk a base (hint+o)) (n - hint) (n - x) l o=X)
    (Q:=fun c st'=>st'=st∧c=(none,X.1,X.2)) ?step ?fin ⟨rfl,0,1,rfl,hX⟩) ?post)
   case fin =>
    rintro c st' ⟨rfl,l,o,rfl,e⟩
    rw[show n - max 0 n=0 by omega] at e
    have e':(l,o)=X:=e
    exact⟨rfl,by rw[← e']⟩
   case step =>
    rintro x c st' _ hx ⟨rfl,l,o,rfl,e⟩
    dsimp only
    obtain⟨f,hf⟩:∃ f,n - x=f+1:=⟨n - x - 1,by omega⟩
    rw[hf] at e
    unfold expo at e
    by_cases hge:n - hint≤o
    ·rw[if_pos hge] at e
     rw[if_pos hge]
     exact wpS_pure ⟨rfl,by rw[← e]⟩
    ·rw[if_neg hge] at e
     rw[if_neg hge]
     refine wpS_bind (beyS O hk (by omega) ?_)
     dsimp only
     cases hb2:bey b left kk a base (hint+o) with
     | true =>
       rw[hb2] at e
       simp only[if_true,Bool.not_true,Bool.false_eq_true,if_false] at e ⊢
       exact wpS_pure ⟨rfl,_,_,rfl,by rw[show n - (x+1)=f by omega];exact e⟩
     | false =>
       rw[hb2] at e
       simp only[Bool.false_eq_true,if_false,Bool.not_false,if_true] at e ⊢
       exact wpS_pure ⟨rfl,by rw[← e]⟩
   case post =>
    rintro c st' ⟨rfl,rfl⟩
    dsimp only
    exact bseS O hk hz _ _ (by omega) h _ _ (fun _ _=>rfl) (fun x lo hi=>by
     dsimp only
     split
     ·rfl
     ·exact bind_congr fun y=>by cases y<;>rfl)
 | false =>
   rw[hb] at h
   simp only[Bool.false_eq_true,if_false] at h ⊢
   generalize hX:expo (fun o=>!bey b left kk a base (hint - o)) (hint+1) n 0 1=X at h
   refine wpS_bind (wpS_mono (wpS_forRange (I:=fun x c st'=>st'=st∧∃ l o,c=(none,l,o)∧expo (fun o=>!bey b left kk a base (hint - o)) (hint+1) (n - x) l o=X)
    (Q:=fun c st'=>st'=st∧c=(none,X.1,X.2)) ?step ?fin ⟨rfl,0,1,rfl,hX⟩) ?post)
   case fin =>
    rintro c st' ⟨rfl,l,o,rfl,e⟩
    rw[show n - max 0 n=0 by omega] at e
    have e':(l,o)=X:=e
    exact⟨rfl,by rw[← e']⟩
   case step =>
    rintro x c st' _ hx ⟨rfl,l,o,rfl,e⟩
    dsimp only
    obtain⟨f,hf⟩:∃ f,n - x=f+1:=⟨n - x - 1,by omega⟩
    rw[hf] at e
    unfold expo at e
    by_cases hge:hint+1≤o
    ·rw[if_pos hge] at e
     rw[if_pos hge]
     exact wpS_pure ⟨rfl,by rw[← e]⟩
    ·rw[if_neg hge] at e
     rw[if_neg hge]
     refine wpS_bind (beyS O hk (by omega) ?_)
     dsimp only
     cases hb2:bey b left kk a base (hint - o) with
     | true =>
       rw[hb2] at e
       simp only[if_true,Bool.not_true,Bool.false_eq_true,if_false] at e ⊢
       exact wpS_pure ⟨rfl,by rw[← e]⟩
     | false =>
       rw[hb2] at e
       simp only[Bool.false_eq_true,if_false,Bool.not_false,if_true] at e ⊢
       exact wpS_pure ⟨rfl,_,_,rfl,by rw[show n - (x+1)=f by omega];exact e⟩
   case post =>
    rintro c st' ⟨rfl,rfl⟩
    dsimp only
    exact bseS O hk hz _ _ (by omega) h _ _ (fun _ _=>rfl) (fun x lo hi=>by
     dsimp only
     split
     ·rfl
     ·exact bind_congr fun y=>by cases y<;>rfl)
theorem gal_cut (O:Orc prog w A s κ it b)(hk:kindOf st=κ){left:Bool}{kk:Nat}{a:Array Nat}{base n hint:Nat}{Q:Option Nat→SortSt→Prop}(hz:base+n≤a.size)(hh:hint<n)
  (hm:∀ i j,i<j→j<n→bey b left kk a base j=true→bey b left kk a base i=true)
  (h:∀ c,Cut (bey b left kk a base) n c→Q (some c) st):wpS (model prog w) A E s (gal left (it kk) (a.map it) base n hint) Q st:=by
 obtain⟨c,C⟩:=cut_of hm
 exact galS O hk hz hh (by rw[gp_cut C hh];exact h c C)
end
end SR
namespace SR
open PySem PyProof.Rows PySem.W TL
section
variable {K:Nat→Nat}{x y out:Array Nat}{ia ib:Nat}
noncomputable def Asc (K:Nat→Nat)(l:List Nat):Prop:=l.Pairwise fun u v=>K u<K v
structure Two (K:Nat→Nat)(x y:Array Nat):Prop where
 ux:Asc K x.toList
 uy:Asc K y.toList
 ne:∀ u∈x.toList,∀ v∈y.toList,K u≠K v
structure J (K:Nat→Nat)(x y out:Array Nat) (ia ib:Nat):Prop where
 pm:out.toList.Perm (x.toList.take ia++y.toList.take ib)
 up:Asc K out.toList
 lx:∀ u∈out.toList,∀ v∈x.toList.drop ia,K u<K v
 ly:∀ u∈out.toList,∀ v∈y.toList.drop ib,K u<K v
structure Res (K:Nat→Nat)(x y R:Array Nat):Prop where
 pm:R.toList.Perm (x.toList++y.toList)
 up:Asc K R.toList
theorem getD_list {a:Array Nat}{i:Nat}(h:i<a.size):a.getD i 0=a.toList[i]'(by simpa using h):=by simp [h]
theorem take_more {a:Array Nat}{i:Nat}(h:i<a.size):a.toList.take (i+1)=a.toList.take i++[a.getD i 0]:=by
 rw[List.take_succ,getD_list h];simp [h]
theorem drop_at {a:Array Nat}{i:Nat}(h:i<a.size):a.toList.drop i=a.getD i 0::a.toList.drop (i+1):=by
 rw[getD_list h];exact List.drop_eq_getElem_cons (by simpa using h)
theorem asc_drop {a:Array Nat}(u:Asc K a.toList){i:Nat}(h:i<a.size):∀ v∈a.toList.drop (i+1),K (a.getD i 0)<K v:=by
 have:Asc K (a.toList.drop i):=u.sublist (List.drop_sublist _ _)
 rw[drop_at h] at this
 exact(List.pairwise_cons.mp this).1
theorem asc_at {a:Array Nat}(u:Asc K a.toList){i j:Nat}(h:i<j)(hj:j<a.size):K (a.getD i 0)<K (a.getD j 0):=by
 refine asc_drop u (by omega) _ ?_
 rw[getD_list hj]
 exact List.mem_drop_iff_getElem.mpr ⟨j - (i+1),by simp;omega,by congr 1;omega⟩
theorem mem_at {a:Array Nat}{i:Nat}(h:i<a.size):a.getD i 0∈a.toList:=by rw[getD_list h];exact List.getElem_mem _
theorem drop_sub {a:Array Nat}{i:Nat}:∀ v∈a.toList.drop (i+1),v∈a.toList.drop i:=fun v h=>by
 have:a.toList.drop (i+1)=(a.toList.drop i).drop 1:=by rw[List.drop_drop]
 rw[this] at h
 exact List.mem_of_mem_drop h
theorem asc_push (u:Asc K out.toList){v:Nat}(h:∀ z∈out.toList,K z<K v):Asc K (out.push v).toList:=by
 rw[Array.toList_push]
 exact List.pairwise_append.mpr ⟨u,List.pairwise_singleton _ _,fun a ha b hb=>by rw[List.mem_singleton.mp hb];exact h a ha⟩
theorem J.size (j:J K x y out ia ib)(hx:ia≤x.size)(hy:ib≤y.size):out.size=ia+ib:=by
 have:=j.pm.length_eq
 rw[List.length_append,List.length_take,List.length_take] at this
 simp only[Array.length_toList] at this
 omega
theorem J.b (T:Two K x y)(j:J K x y out ia ib)(hb:ib<y.size)(h:∀ v∈x.toList.drop ia,K (y.getD ib 0)<K v):J K x y (out.push (y.getD ib 0)) ia (ib+1):=by
 have my:y.getD ib 0∈y.toList.drop ib:=by rw[drop_at hb];exact List.mem_cons_self
 refine⟨?_,asc_push j.up fun z hz=>j.ly z hz _ my,fun u hu v hv=>?_,fun u hu v hv=>?_⟩
 ·rw[Array.toList_push,take_more hb,← List.append_assoc]
  exact j.pm.append_right _
 ·rw[Array.toList_push,List.mem_append,List.mem_singleton] at hu
  rcases hu with hu|rfl
  ·exact j.lx u hu v hv
  ·exact h v hv
 ·rw[Array.toList_push,List.mem_append,List.mem_singleton] at hu
  rcases hu with hu|rfl
  ·exact j.ly u hu v (drop_sub v hv)
  ·exact asc_drop T.uy hb v hv
theorem J.a (T:Two K x y)(j:J K x y out ia ib)(ha:ia<x.size)(h:∀ v∈y.toList.drop ib,K (x.getD ia 0)<K v):J K x y (out.push (x.getD ia 0)) (ia+1) ib:=by
 have mx:x.getD ia 0∈x.toList.drop ia:=by rw[drop_at ha];exact List.mem_cons_self
 refine⟨?_,asc_push j.up fun z hz=>j.lx z hz _ mx,fun u hu v hv=>?_,fun u hu v hv=>?_⟩
 ·rw[Array.toList_push,take_more ha,List.append_assoc]
  refine(j.pm.append_right _).trans ?_
  rw[List.append_assoc]
  exact(List.perm_append_comm (l₁:=y.toList.take ib)).append_left _
 ·rw[Array.toList_push,List.mem_append,List.mem_singleton] at hu
  rcases hu with hu|rfl
  ·exact j.lx u hu v (drop_sub v hv)
  ·exact asc_drop T.ux ha v hv
 ·rw[Array.toList_push,List.mem_append,List.mem_singleton] at hu
  rcases hu with hu|rfl
  ·exact j.ly u hu v hv
  ·exact h v hv
theorem ext_more {a:Array Nat}{i k:Nat}(h:i+k<a.size):out++a.extract i (i+(k+1))=(out++a.extract i (i+k)).push (a.getD (i+k) 0):=by
 apply Array.toList_inj.mp
 rw[Array.toList_append,Array.toList_push,Array.toList_append,Array.toList_extract,Array.toList_extract,List.append_assoc]
 congr 1
 rw[List.extract_eq_drop_take,List.extract_eq_drop_take,getD_list h,show i+(k+1) - i=k+1 by omega,show i+k - i=k by omega,List.take_succ]
 congr 1
 rw[List.getElem?_drop,List.getElem?_eq_getElem (by simpa using h)]
 rfl
theorem ext_none {a:Array Nat}{i:Nat}:out++a.extract i (i+0)=out:=by
 apply Array.toList_inj.mp
 rw[Array.toList_append,Array.toList_extract,List.extract_eq_drop_take];simp
theorem J.as (T:Two K x y)(j:J K x y out ia ib):∀(k:Nat),ia+k≤x.size→(∀ i,i<k→∀ v∈y.toList.drop ib,K (x.getD (ia+i) 0)<K v)→J K x y (out++x.extract ia (ia+k)) (ia+k) ib
 | 0,_,_=>by rw[ext_none];exact j
 | k+1,h1,h2=>by
   rw[ext_more (by omega)]
   exact J.a T (J.as T j k (by omega) fun i hi=>h2 i (by omega)) (by omega) (h2 k (by omega))
theorem J.bs (T:Two K x y)(j:J K x y out ia ib):∀(k:Nat),ib+k≤y.size→(∀ i,i<k→∀ v∈x.toList.drop ia,K (y.getD (ib+i) 0)<K v)→J K x y (out++y.extract ib (ib+k)) ia (ib+k)
 | 0,_,_=>by rw[ext_none];exact j
 | k+1,h1,h2=>by
   rw[ext_more (by omega)]
   exact J.b T (J.bs T j k (by omega) fun i hi=>h2 i (by omega)) (by omega) (h2 k (by omega))
theorem ext_end {a:Array Nat}{i:Nat}:(a.extract i a.size).toList=a.toList.drop i:=by
 rw[Array.toList_extract,List.extract_eq_drop_take]
 exact List.take_of_length_le (by simp)
theorem J.doneB (T:Two K x y)(j:J K x y out ia ib)(hb:ib=y.size):Res K x y (out++x.extract ia x.size++y.extract ib y.size):=by
 subst hb
 have e:(out++x.extract ia x.size++y.extract y.size y.size).toList=out.toList++x.toList.drop ia:=by
  rw[Array.toList_append,Array.toList_append,ext_end,ext_end];simp
 refine⟨?_,?_⟩
 ·rw[e]
  refine(j.pm.append_right _).trans ?_
  rw[show y.toList.take y.size=y.toList from List.take_of_length_le (by simp),List.append_assoc]
  refine((List.perm_append_comm (l₁:=y.toList)).append_left _).trans ?_
  rw[← List.append_assoc,List.take_append_drop]
 ·rw[e]
  exact List.pairwise_append.mpr ⟨j.up,T.ux.sublist (List.drop_sublist _ _),j.lx⟩
theorem J.lastA (T:Two K x y)(j:J K x y out ia ib)(ha:ia+1=x.size)(h:∀ v∈y.toList,K v<K (x.getD ia 0)):Res K x y (out++y.extract ib y.size++x.extract ia x.size):=by
 have e:(out++y.extract ib y.size++x.extract ia x.size).toList=out.toList++(y.toList.drop ib++x.toList.drop ia):=by
  rw[Array.toList_append,Array.toList_append,ext_end,ext_end,List.append_assoc]
 have e1:x.toList.drop ia=[x.getD ia 0]:=by
  rw[drop_at (by omega),List.drop_of_length_le (by simp;omega)]
 refine⟨?_,?_⟩
 ·rw[e]
  refine(j.pm.append_right _).trans ?_
  have:(x.toList.take ia++y.toList.take ib++(y.toList.drop ib++x.toList.drop ia))=x.toList.take ia++(y.toList++x.toList.drop ia):=by
   rw[List.append_assoc,← List.append_assoc (y.toList.take ib),List.take_append_drop]
  rw[this]
  refine((List.perm_append_comm (l₁:=y.toList)).append_left _).trans ?_
  rw[← List.append_assoc,List.take_append_drop]
 ·rw[e]
  refine List.pairwise_append.mpr ⟨j.up,List.pairwise_append.mpr ⟨T.uy.sublist (List.drop_sublist _ _),by rw[e1];exact List.pairwise_singleton _ _,fun u hu v hv=>?_⟩,fun u hu v hv=>?_⟩
  ·rw[e1,List.mem_singleton] at hv
   rw[hv]
   exact h u (List.mem_of_mem_drop hu)
  ·rcases List.mem_append.mp hv with hv|hv
   ·exact j.ly u hu v hv
   ·exact j.lx u hu v hv
theorem J.start (T:Two K x y)(hy:0<y.size)(h:∀ v∈x.toList,K (y.getD 0 0)<K v):J K x y #[y.getD 0 0] 0 1:=by
 have j0:J K x y #[] 0 0:=⟨by simp,List.Pairwise.nil,fun u hu=>(by simp at hu),fun u hu=>(by simp at hu)⟩
 exact J.b T j0 hy (by simpa using h)
theorem ge_drop (T:Asc K x.toList){i c:Nat}(hi:i<x.size)(h:c<K (x.getD i 0)):∀ v∈x.toList.drop i,c<K v:=fun v hv=>by
 rw[drop_at hi] at hv
 rcases List.mem_cons.mp hv with rfl|hv
 ·exact h
 ·have:=asc_drop T hi v hv;omega
end
end SR
namespace SR
open PySem PyProof.Rows PySem.W TL
section
variable {K:Nat→Nat}{x y:Array Nat}{ia ib c:Nat}
theorem bK_iff {i j:Nat}:bK K i j=true↔K i<K j:=decide_eq_true_iff
theorem bey_f {kk i:Nat}:bey (bK K) false kk x ia i=true↔¬ K kk<K (x.getD (ia+i) 0):=by
 unfold bey
 rw[if_neg Bool.false_ne_true,Bool.not_eq_true',← Bool.not_eq_true,bK_iff]
theorem bey_t {kk i:Nat}:bey (bK K) true kk x ia i=true↔K (x.getD (ia+i) 0)<K kk:=by
 unfold bey
 rw[if_pos rfl,bK_iff]
theorem monF (u:Asc K x.toList){kk n:Nat}(h:ia+n≤x.size):∀ i j,i<j→j<n→bey (bK K) false kk x ia j=true→bey (bK K) false kk x ia i=true:=fun i j hij hj e=>by
 rw[bey_f] at e ⊢
 have:=asc_at u (i:=ia+i) (j:=ia+j) (by omega) (by omega)
 omega
theorem monT (u:Asc K x.toList){kk n:Nat}(h:ia+n≤x.size):∀ i j,i<j→j<n→bey (bK K) true kk x ia j=true→bey (bK K) true kk x ia i=true:=fun i j hij hj e=>by
 rw[bey_t] at e ⊢
 have:=asc_at u (i:=ia+i) (j:=ia+j) (by omega) (by omega)
 omega
theorem cutA (T:Two K x y)(ha:ia≤x.size)(hb:ib<y.size)(C:Cut (bey (bK K) false (y.getD ib 0) x ia) (x.size - ia) c) :
  ia+c≤x.size∧(∀ i,i<c→∀ v∈y.toList.drop ib,K (x.getD (ia+i) 0)<K v)∧(ia+c<x.size→∀ v∈x.toList.drop (ia+c),K (y.getD ib 0)<K v):=by
 have h1:=C.1
 refine⟨by omega,fun i hi=>ge_drop T.uy hb ?_,fun h=>ge_drop T.ux h ?_⟩
 ·have:=(C.2 i (by omega)).mpr hi
  rw[bey_f] at this
  have:=T.ne _ (mem_at (a:=x) (i:=ia+i) (by omega)) _ (mem_at hb)
  omega
 ·have:¬ bey (bK K) false (y.getD ib 0) x ia c=true:=fun z=>Nat.lt_irrefl _ ((C.2 c (by omega)).mp z)
  rw[bey_f] at this
  omega
theorem cutB (T:Two K x y)(ha:ia<x.size)(hb:ib≤y.size)(C:Cut (bey (bK K) true (x.getD ia 0) y ib) (y.size - ib) c) :
  ib+c≤y.size∧(∀ i,i<c→∀ v∈x.toList.drop ia,K (y.getD (ib+i) 0)<K v)∧(ib+c<y.size→∀ v∈y.toList.drop (ib+c),K (x.getD ia 0)<K v):=by
 have h1:=C.1
 refine⟨by omega,fun i hi=>ge_drop T.ux ha ?_,fun h=>ge_drop T.uy h ?_⟩
 ·exact bey_t.mp ((C.2 i (by omega)).mpr hi)
 ·have:¬ bey (bK K) true (x.getD ia 0) y ib c=true:=fun z=>Nat.lt_irrefl _ ((C.2 c (by omega)).mp z)
  rw[bey_t] at this
  have:=T.ne _ (mem_at ha) _ (mem_at (a:=y) (i:=ib+c) h)
  omega
end
section
variable {prog:Program}{w:World}{A:Around}{E:Value→Shared→Prop}{s:Shared}{κ:SortKind}{it:Nat→Keyed}{K:Nat→Nat}{p:Array Nat}{pd:Array (Nat×Nat×Nat)}
noncomputable def stG (κ:SortKind)(it:Nat→Keyed)(p:Array Nat)(pd:Array (Nat×Nat×Nat)) (g:Nat):SortSt:=SortSt.mk' κ (p.map it) pd g none
theorem map_ext {a:Array Nat}{i j:Nat}:(a.map it).extract i j=(a.extract i j).map it:=by simp
theorem mlo_any (O:Orc prog w A s κ it (bK K)) {x y:Array Nat}{g:Nat}{Q:Array Keyed→SortSt→Prop}(T:Two K x y)(hx:1≤x.size)(hy:1≤y.size)(h0:∀ v∈x.toList,K (y.getD 0 0)<K v)
  (hl:∀ v∈y.toList,K v<K (x.getD (x.size - 1) 0))
  (h:∀(R:Array Nat) (g':Nat),Res K x y R→Q (R.map it) (stG κ it p pd g')):wpS (model prog w) A E s (mLo (x.map it) (y.map it)) Q (stG κ it p pd g):=by
 have done:∀{out ia ib},J K x y out ia ib→ib=y.size→∃ R,(Array.map it out)++(x.map it).extract ia (x.map it).size++(y.map it).extract ib (y.map it).size=R.map it∧Res K x y R:=fun{out ia ib} j e =>
  ⟨_,by rw[map_ext,map_ext,← Array.map_append,← Array.map_append,Array.size_map,Array.size_map],j.doneB T e⟩
 have last:∀{out ia ib},J K x y out ia ib→ia+1=x.size→∃ R,(Array.map it out)++(y.map it).extract ib (y.map it).size++(x.map it).extract ia (x.map it).size=R.map it∧Res K x y R:=fun{out ia ib} j e =>
  ⟨_,by rw[map_ext,map_ext,← Array.map_append,← Array.map_append,Array.size_map,Array.size_map],j.lastA T e (by rw[show ia=x.size - 1 by omega];exact hl)⟩
 have ltx:∀{ia ib:Nat},ia<x.size→ib<y.size→(bK K (y.getD ib 0) (x.getD ia 0)=true→∀ v∈x.toList.drop ia,K (y.getD ib 0)<K v)∧(bK K (y.getD ib 0) (x.getD ia 0)=false→∀ v∈y.toList.drop ib,K (x.getD ia 0)<K v):=fun{ia ib} ha hb=>by
  refine⟨fun e=>ge_drop T.ux ha (bK_iff.mp e),fun e=>ge_drop T.uy hb ?_⟩
  have h1:¬ K (y.getD ib 0)<K (x.getD ia 0):=of_decide_eq_false e
  have h2:=T.ne _ (mem_at ha) _ (mem_at hb)
  omega
 have j0:=J.start T (by omega) h0
 refine wpS_bind (wpS_lift (wpAny_rule ⟨rfl,?_⟩))
 refine wpS_bind (elem_det (a:=y) (by omega) ?_)
 by_cases hy1:1=y.size
 ·rw[if_pos (by simpa using hy1)]
  obtain⟨R,e,r⟩:=done j0 hy1
  refine wpS_pure ?_
  rw[show(#[it (y.getD 0 0)]:Array Keyed)=Array.map it #[y.getD 0 0] by simp]
  dsimp only
  rw[e]
  exact h R g r
 rw[if_neg (by simpa using hy1)]
 by_cases hx1:0+1=x.size
 ·rw[if_pos (by simpa using hx1)]
  obtain⟨R,e,r⟩:=last j0 hx1
  refine wpS_pure ?_
  rw[show(#[it (y.getD 0 0)]:Array Keyed)=Array.map it #[y.getD 0 0] by simp]
  dsimp only
  rw[e]
  exact h R g r
 rw[if_neg (by simpa using hx1)]
 refine wpS_bind (wpS_get ?_)
 dsimp only
 have ht:(x.map it).size+(y.map it).size=x.size+y.size:=by simp
 rw[ht]
 refine wpS_bind (wpS_mono (wpS_forRange (I:=fun i c st'=>∃ g' out ia ib gl,st'=stG κ it p pd g'∧c=(none,Array.map it out,ia,ib,gl)∧ia+1<x.size∧ib<y.size∧J K x y out ia ib∧i<out.size)
  (Q:=fun c st'=>∃ R g',st'=stG κ it p pd g'∧c.1=some (Array.map it R)∧Res K x y R) ?step ?fin ⟨g,#[y.getD 0 0],0,1,g,rfl,by simp;rfl,by omega,by omega,j0,by simp⟩) ?post)
 case fin =>
  rintro c st' ⟨g',out,ia,ib,gl,rfl,rfl,h1,h2,j,hs⟩
  have:=j.size (by omega) (by omega)
  omega
 case post =>
  rintro⟨c1,c2⟩ st' ⟨R,g',rfl,hc,r⟩
  dsimp only at hc ⊢
  rw[hc]
  exact wpS_pure (h R g' r)
 case step =>
  rintro i c st' _ hi ⟨g',out,ia,ib,gl,rfl,rfl,h1,h2,j,hs⟩
  dsimp only
  refine wpS_bind (wpS_mono (wpS_forRange (I:=fun n c st'=>st'=stG κ it p pd g'∧∃ out ia ib ac bc,c=(none,Array.map it out,ia,ib,ac,bc)∧ia+1<x.size∧ib<y.size∧J K x y out ia ib∧i+n<out.size)
   (Q:=fun c st'=>st'=stG κ it p pd g'∧((∃ R,c.1=some (Array.map it R)∧Res K x y R)∨∃ out ia ib ac bc,c=(none,Array.map it out,ia,ib,ac,bc)∧ia+1<x.size∧ib<y.size∧J K x y out ia ib∧i+1<out.size)) ?istep ?ifin ⟨rfl,out,ia,ib,0,0,rfl,h1,h2,j,hs⟩) ?ipost)
  case ifin =>
   rintro c st' ⟨rfl,out,ia,ib,ac,bc,rfl,h1,h2,j,hs⟩
   have:=j.size (by omega) (by omega)
   omega
  case istep =>
   rintro n c st' _ hn ⟨rfl,out,ia,ib,ac,bc,rfl,h1,h2,j,hs⟩
   dsimp only
   refine wpS_bind (elem_det (a:=y) h2 (wpS_bind (elem_det (a:=x) (by omega) (wpS_bind (ltS O rfl ?_)))))
   dsimp only
   obtain⟨q1,q2⟩:=ltx (ia:=ia) (ib:=ib) (by omega) h2
   cases hb:bK K (y.getD ib 0) (x.getD ia 0) with
   | true =>
     simp only[if_true]
     refine wpS_bind (elem_det (a:=y) h2 ?_)
     have j':=j.b T h2 (q1 hb)
     rw[← Array.map_push]
     by_cases he:ib+1=y.size
     ·rw[if_pos (by simpa using he)]
      obtain⟨R,e,r⟩:=done j' he
      exact wpS_pure ⟨rfl,.inl ⟨R,congrArg some e,r⟩⟩
     ·rw[if_neg (by simpa using he)]
      by_cases hg:bc+1≥gl<;>first|rw[if_pos hg]|rw[if_neg hg]
      ·exact wpS_pure ⟨rfl,.inr ⟨_,ia,ib+1,0,bc+1,rfl,h1,by omega,j',by rw[Array.size_push];omega⟩⟩
      ·exact wpS_pure ⟨rfl,_,ia,ib+1,0,bc+1,rfl,h1,by omega,j',by rw[Array.size_push];omega⟩
   | false =>
     simp only[Bool.false_eq_true,if_false]
     refine wpS_bind (elem_det (a:=x) (by omega) ?_)
     have j':=j.a T (by omega) (q2 hb)
     rw[← Array.map_push]
     by_cases he:ia+1+1=x.size
     ·rw[if_pos (by simpa using he)]
      obtain⟨R,e,r⟩:=last j' he
      exact wpS_pure ⟨rfl,.inl ⟨R,congrArg some e,r⟩⟩
     ·rw[if_neg (by simpa using he)]
      by_cases hg:ac+1≥gl<;>first|rw[if_pos hg]|rw[if_neg hg]
      ·exact wpS_pure ⟨rfl,.inr ⟨_,ia+1,ib,ac+1,0,rfl,by omega,h2,j',by rw[Array.size_push];omega⟩⟩
      ·exact wpS_pure ⟨rfl,_,ia+1,ib,ac+1,0,rfl,by omega,h2,j',by rw[Array.size_push];omega⟩
  case ipost =>
   rintro⟨c1,c2⟩ st' ⟨rfl,(⟨R,hc,r⟩|⟨out,ia,ib,ac,bc,hc,h1,h2,j,hs⟩)⟩
   ·dsimp only at hc ⊢
    rw[hc]
    exact wpS_pure ⟨R,g',rfl,rfl,r⟩
   ·cases hc
    dsimp only
    refine wpS_bind (wpS_lift (wpAny_rule ⟨rfl,?_⟩))
    refine wpS_bind (wpS_mono (wpS_forRange (I:=fun n c st'=>∃ g' out ia ib gl ac bc,st'=stG κ it p pd g'∧c=(none,Array.map it out,ia,ib,gl,ac,bc)∧ia+1<x.size∧ib<y.size∧J K x y out ia ib∧i+1+n<out.size)
     (Q:=fun c st'=>∃ g',st'=stG κ it p pd g'∧((∃ R,c.1=some (Array.map it R)∧Res K x y R)∨∃ out ia ib gl ac bc,c=(none,Array.map it out,ia,ib,gl,ac,bc)∧ia+1<x.size∧ib<y.size∧J K x y out ia ib∧i+1<out.size)) ?gstep ?gfin ⟨g',out,ia,ib,gl+1,ac,bc,rfl,rfl,h1,h2,j,hs⟩) ?gpost)
    case gfin =>
     rintro c st' ⟨g',out,ia,ib,gl,ac,bc,rfl,rfl,h1,h2,j,hs⟩
     have:=j.size (by omega) (by omega)
     omega
    case gpost =>
     rintro⟨c1,c2⟩ st' ⟨g',rfl,(⟨R,hc,r⟩|⟨out,ia,ib,gl,ac,bc,hc,h1,h2,j,hs⟩)⟩
     ·dsimp only at hc ⊢
      rw[hc]
      exact wpS_pure ⟨R,g',rfl,rfl,r⟩
     ·cases hc
      dsimp only
      exact wpS_bind (wpS_modify (wpS_pure ⟨_,out,ia,ib,_,rfl,rfl,h1,h2,j,hs⟩))
    case gstep =>
     clear hs h1 h2 j
     rintro n c st' _ hn ⟨g',out,ia,ib,gl,ac,bc,rfl,rfl,h1,h2,j,hs⟩
     dsimp only
     by_cases hg:gl>1<;>first|rw[if_pos hg]|rw[if_neg hg]
     all_goals
      refine wpS_bind (wpS_modify ?_)
      refine wpS_bind (elem_det (a:=y) h2 ?_)
      refine wpS_bind (gal_cut O rfl (by rw[Array.size_map];omega) (by rw[Array.size_map];omega) (monF T.ux (by rw[Array.size_map];omega)) fun c C=>?_)
      rw[Array.size_map] at C
      obtain⟨c1,c2,c3⟩:=cutA T (by omega) h2 C
      have j1:=j.as T c c1 c2
      have cx:ia+c<x.size:=by
       refine Nat.lt_of_le_of_ne c1 fun e=>?_
       have hc:ia+(c - 1)=x.size - 1:=by omega
       have:=c2 (c - 1) (by omega) _ (by rw[drop_at h2];exact List.mem_cons_self)
       rw[hc] at this
       have:=hl _ (mem_at h2)
       omega
      dsimp only
      by_cases hc:c>0
      ·rw[if_pos hc,map_ext (a:=x) (i:=ia) (j:=ia+c),← Array.map_append]
       have hs':i+1+n<(out++x.extract ia (ia+c)).size:=by rw[Array.size_append];omega
       generalize hO1:out++x.extract ia (ia+c)=o1 at *
       generalize hI1:ia+c=i1 at *
       by_cases e1:i1+1=x.size
       ·rw[if_pos (by simpa using e1)]
        obtain⟨R,e,r⟩:=last j1 e1
        exact wpS_pure ⟨_,rfl,.inl ⟨R,congrArg some e,r⟩⟩
       rw[if_neg (by simpa using e1),if_neg (by simpa using(by omega:¬ i1=x.size))]
       have z1:=j1.size (by omega) (by omega)
       refine wpS_bind (elem_det (a:=y) h2 ?_)
       rw[← Array.map_push]
       have j2:=j1.b T h2 (c3 (by omega))
       by_cases e2:ib+1=y.size
       ·rw[if_pos (by simpa using e2)]
        obtain⟨R,e,r⟩:=done j2 e2
        exact wpS_pure ⟨_,rfl,.inl ⟨R,congrArg some e,r⟩⟩
       rw[if_neg (by simpa using e2)]
       refine wpS_bind (elem_det (a:=x) (by omega) ?_)
       refine wpS_bind (gal_cut O rfl (by rw[Array.size_map];omega) (by rw[Array.size_map];omega) (monT T.uy (by rw[Array.size_map];omega)) fun d D=>?_)
       rw[Array.size_map] at D
       obtain⟨d1,d2,d3⟩:=cutB T (by omega) (by omega) D
       have j3:=j2.bs T d d1 d2
       dsimp only
       by_cases hd:d>0
       ·rw[if_pos hd,map_ext (a:=y) (i:=ib+1) (j:=ib+1+d),← Array.map_append]
        generalize hO2:o1.push (y.getD ib 0)++y.extract (ib+1) (ib+1+d)=o2 at *
        generalize hI2:ib+1+d=i2 at *
        by_cases e3:i2=y.size
        ·rw[if_pos (by simpa using e3)]
         obtain⟨R,e,r⟩:=done j3 e3
         exact wpS_pure ⟨_,rfl,.inl ⟨R,congrArg some e,r⟩⟩
        rw[if_neg (by simpa using e3)]
        refine wpS_bind (elem_det (a:=x) (by omega) ?_)
        rw[← Array.map_push]
        have j4:=j3.a T (by omega) (d3 (by omega))
        by_cases e4:i1+1+1=x.size
        ·rw[if_pos (by simpa using e4)]
         obtain⟨R,e,r⟩:=last j4 e4
         exact wpS_pure ⟨_,rfl,.inl ⟨R,congrArg some e,r⟩⟩
        rw[if_neg (by simpa using e4)]
        have z4:=j4.size (by omega) (by omega)
        by_cases h7:(decide (c<7)&&decide (d<7))=true<;>first|rw[if_pos h7]|rw[if_neg h7]
        ·exact wpS_pure ⟨_,rfl,.inr ⟨_,_,_,_,_,_,rfl,by omega,by omega,j4,by omega⟩⟩
        ·exact wpS_pure ⟨_,_,_,_,_,_,_,rfl,rfl,by omega,by omega,j4,by omega⟩
       ·rw[if_neg hd]
        have hd0:d=0:=by omega
        rw[hd0,ext_none] at j3
        rw[hd0] at d3
        simp only[Nat.add_zero] at j3 d3
        refine wpS_bind (elem_det (a:=x) (by omega) ?_)
        rw[← Array.map_push]
        have j4:=j3.a T (by omega) (d3 (by omega))
        by_cases e4:i1+1+1=x.size
        ·rw[if_pos (by simpa using e4)]
         obtain⟨R,e,r⟩:=last j4 e4
         exact wpS_pure ⟨_,rfl,.inl ⟨R,congrArg some e,r⟩⟩
        rw[if_neg (by simpa using e4)]
        have z4:=j4.size (by omega) (by omega)
        by_cases h7:(decide (c<7)&&decide (d<7))=true<;>first|rw[if_pos h7]|rw[if_neg h7]
        ·exact wpS_pure ⟨_,rfl,.inr ⟨_,_,_,_,_,_,rfl,by omega,by omega,j4,by omega⟩⟩
        ·exact wpS_pure ⟨_,_,_,_,_,_,_,rfl,rfl,by omega,by omega,j4,by omega⟩
      ·rw[if_neg hc]
       have hc0:c=0:=by omega
       rw[hc0,ext_none] at j1
       rw[hc0] at c3
       simp only[Nat.add_zero] at j1 c3
       generalize hO1:out=o1 at *
       generalize hI1:ia=i1 at *
       have z1:=j1.size (by omega) (by omega)
       refine wpS_bind (elem_det (a:=y) h2 ?_)
       rw[← Array.map_push]
       have j2:=j1.b T h2 (c3 (by omega))
       by_cases e2:ib+1=y.size
       ·rw[if_pos (by simpa using e2)]
        obtain⟨R,e,r⟩:=done j2 e2
        exact wpS_pure ⟨_,rfl,.inl ⟨R,congrArg some e,r⟩⟩
       rw[if_neg (by simpa using e2)]
       refine wpS_bind (elem_det (a:=x) (by omega) ?_)
       refine wpS_bind (gal_cut O rfl (by rw[Array.size_map];omega) (by rw[Array.size_map];omega) (monT T.uy (by rw[Array.size_map];omega)) fun d D=>?_)
       rw[Array.size_map] at D
       obtain⟨d1,d2,d3⟩:=cutB T (by omega) (by omega) D
       have j3:=j2.bs T d d1 d2
       dsimp only
       by_cases hd:d>0
       ·rw[if_pos hd,map_ext (a:=y) (i:=ib+1) (j:=ib+1+d),← Array.map_append]
        generalize hO2:o1.push (y.getD ib 0)++y.extract (ib+1) (ib+1+d)=o2 at *
        generalize hI2:ib+1+d=i2 at *
        by_cases e3:i2=y.size
        ·rw[if_pos (by simpa using e3)]
         obtain⟨R,e,r⟩:=done j3 e3
         exact wpS_pure ⟨_,rfl,.inl ⟨R,congrArg some e,r⟩⟩
        rw[if_neg (by simpa using e3)]
        refine wpS_bind (elem_det (a:=x) (by omega) ?_)
        rw[← Array.map_push]
        have j4:=j3.a T (by omega) (d3 (by omega))
        by_cases e4:i1+1+1=x.size
        ·rw[if_pos (by simpa using e4)]
         obtain⟨R,e,r⟩:=last j4 e4
         exact wpS_pure ⟨_,rfl,.inl ⟨R,congrArg some e,r⟩⟩
        rw[if_neg (by simpa using e4)]
        have z4:=j4.size (by omega) (by omega)
        by_cases h7:(decide (c<7)&&decide (d<7))=true<;>first|rw[if_pos h7]|rw[if_neg h7]
        ·exact wpS_pure ⟨_,rfl,.inr ⟨_,_,_,_,_,_,rfl,by omega,by omega,j4,by omega⟩⟩
        ·exact wpS_pure ⟨_,_,_,_,_,_,_,rfl,rfl,by omega,by omega,j4,by omega⟩
       ·rw[if_neg hd]
        have hd0:d=0:=by omega
        rw[hd0,ext_none] at j3
        rw[hd0] at d3
        simp only[Nat.add_zero] at j3 d3
        refine wpS_bind (elem_det (a:=x) (by omega) ?_)
        rw[← Array.map_push]
        have j4:=j3.a T (by omega) (d3 (by omega))
        by_cases e4:i1+1+1=x.size
        ·rw[if_pos (by simpa using e4)]
         obtain⟨R,e,r⟩:=last j4 e4
         exact wpS_pure ⟨_,rfl,.inl ⟨R,congrArg some e,r⟩⟩
        rw[if_neg (by simpa using e4)]
        have z4:=j4.size (by omega) (by omega)
        by_cases h7:(decide (c<7)&&decide (d<7))=true<;>first|rw[if_pos h7]|rw[if_neg h7]
        ·exact wpS_pure ⟨_,rfl,.inr ⟨_,_,_,_,_,_,rfl,by omega,by omega,j4,by omega⟩⟩
        ·exact wpS_pure ⟨_,_,_,_,_,_,_,rfl,rfl,by omega,by omega,j4,by omega⟩
end
end SR
namespace SR
open PySem PyProof.Rows PySem.W TL
section
variable {K:Nat→Nat}{x y out:Array Nat}{na nb c:Nat}
structure H (K:Nat→Nat)(x y out:Array Nat) (na nb:Nat):Prop where
 pm:out.toList.Perm (x.toList.drop na++y.toList.drop nb)
 up:out.toList.Pairwise fun u v=>K v<K u
 lx:∀ u∈out.toList,∀ v∈x.toList.take na,K v<K u
 ly:∀ u∈out.toList,∀ v∈y.toList.take nb,K v<K u
theorem asc_take {a:Array Nat}(u:Asc K a.toList){i:Nat}(h:i<a.size):∀ v∈a.toList.take i,K v<K (a.getD i 0):=by
 have:Asc K (a.toList.take (i+1)):=u.sublist (List.take_sublist _ _)
 rw[take_more h] at this
 exact fun v hv=>(List.pairwise_append.mp this).2.2 v hv _ (List.mem_singleton.mpr rfl)
theorem take_sub {a:Array Nat}{i:Nat}:∀ v∈a.toList.take i,v∈a.toList.take (i+1):=fun v h=>by
 rw[List.take_succ]
 exact List.mem_append_left _ h
theorem le_take {a:Array Nat}(u:Asc K a.toList){i:Nat}(h:i<a.size){c:Nat}(hc:K (a.getD i 0)<c):∀ v∈a.toList.take (i+1),K v<c:=fun v hv=>by
 rw[take_more h] at hv
 rcases List.mem_append.mp hv with hv|hv
 ·have:=asc_take u h v hv;omega
 ·rw[List.mem_singleton.mp hv];exact hc
theorem dsc_push (u:out.toList.Pairwise fun u v=>K v<K u){v:Nat}(h:∀ z∈out.toList,K v<K z):(out.push v).toList.Pairwise fun u v=>K v<K u:=by
 rw[Array.toList_push]
 exact List.pairwise_append.mpr ⟨u,List.pairwise_singleton _ _,fun a ha b hb=>by rw[List.mem_singleton.mp hb];exact h a ha⟩
theorem H.size (j:H K x y out na nb):out.size=(x.size - na)+(y.size - nb):=by
 have:=j.pm.length_eq
 rw[List.length_append,List.length_drop,List.length_drop] at this
 simpa using this
theorem H.a (T:Two K x y)(j:H K x y out (na+1) nb) (ha:na<x.size)(h:∀ v∈y.toList.take nb,K v<K (x.getD na 0)):H K x y (out.push (x.getD na 0)) na nb:=by
 have mx:x.getD na 0∈x.toList.take (na+1):=by rw[take_more ha];exact List.mem_append_right _ (List.mem_singleton.mpr rfl)
 refine⟨?_,dsc_push j.up fun z hz=>j.lx z hz _ mx,fun u hu v hv=>?_,fun u hu v hv=>?_⟩
 ·rw[Array.toList_push,drop_at ha,List.cons_append]
  exact List.perm_append_comm.trans (j.pm.cons _)
 ·rw[Array.toList_push,List.mem_append,List.mem_singleton] at hu
  rcases hu with hu|rfl
  ·exact j.lx u hu v (take_sub v hv)
  ·exact asc_take T.ux ha v hv
 ·rw[Array.toList_push,List.mem_append,List.mem_singleton] at hu
  rcases hu with hu|rfl
  ·exact j.ly u hu v hv
  ·exact h v hv
theorem H.b (T:Two K x y)(j:H K x y out na (nb+1)) (hb:nb<y.size)(h:∀ v∈x.toList.take na,K v<K (y.getD nb 0)):H K x y (out.push (y.getD nb 0)) na nb:=by
 have my:y.getD nb 0∈y.toList.take (nb+1):=by rw[take_more hb];exact List.mem_append_right _ (List.mem_singleton.mpr rfl)
 refine⟨?_,dsc_push j.up fun z hz=>j.ly z hz _ my,fun u hu v hv=>?_,fun u hu v hv=>?_⟩
 ·rw[Array.toList_push,drop_at hb]
  exact(List.perm_append_comm.trans (j.pm.cons _)).trans List.perm_middle.symm
 ·rw[Array.toList_push,List.mem_append,List.mem_singleton] at hu
  rcases hu with hu|rfl
  ·exact j.lx u hu v hv
  ·exact h v hv
 ·rw[Array.toList_push,List.mem_append,List.mem_singleton] at hu
  rcases hu with hu|rfl
  ·exact j.ly u hu v (take_sub v hv)
  ·exact asc_take T.uy hb v hv
theorem rev_more {a:Array Nat}{i k:Nat}(h:i+k<a.size):out++(a.extract i (i+(k+1))).reverse=(out.push (a.getD (i+k) 0))++(a.extract i (i+k)).reverse:=by
 apply Array.toList_inj.mp
 have:=congrArg Array.toList (ext_more (out:=#[]) h)
 rw[Array.toList_append,Array.toList_push,Array.toList_append] at this
 simp only[Array.toList_append,Array.toList_reverse,Array.toList_push]
 have e:(a.extract i (i+(k+1))).toList=(a.extract i (i+k)).toList++[a.getD (i+k) 0]:=by simpa using this
 rw[e,List.reverse_append]
 simp
theorem H.as (T:Two K x y):∀(k:Nat){out:Array Nat},H K x y out (na+k) nb→na+k≤x.size→(∀ i,i<k→∀ v∈y.toList.take nb,K v<K (x.getD (na+i) 0))→H K x y (out++(x.extract na (na+k)).reverse) na nb
 | 0,out,j,_,_=>by
   have e:out++(x.extract na (na+0)).reverse=out:=by
    apply Array.toList_inj.mp
    rw[Array.toList_append,Array.toList_reverse,Array.toList_extract,List.extract_eq_drop_take];simp
   rw[e];exact j
 | k+1,out,j,h1,h2=>by
   rw[rev_more (by omega)]
   exact H.as T k (H.a T j (by omega) (h2 k (by omega))) (by omega) fun i hi=>h2 i (by omega)
theorem H.bs (T:Two K x y):∀(k:Nat){out:Array Nat},H K x y out na (nb+k)→nb+k≤y.size→(∀ i,i<k→∀ v∈x.toList.take na,K v<K (y.getD (nb+i) 0))→H K x y (out++(y.extract nb (nb+k)).reverse) na nb
 | 0,out,j,_,_=>by
   have e:out++(y.extract nb (nb+0)).reverse=out:=by
    apply Array.toList_inj.mp
    rw[Array.toList_append,Array.toList_reverse,Array.toList_extract,List.extract_eq_drop_take];simp
   rw[e];exact j
 | k+1,out,j,h1,h2=>by
   rw[rev_more (by omega)]
   exact H.bs T k (H.b T j (by omega) (h2 k (by omega))) (by omega) fun i hi=>h2 i (by omega)
theorem ext_head {a:Array Nat}{i:Nat}:(a.extract 0 i).toList=a.toList.take i:=by
 rw[Array.toList_extract,List.extract_eq_drop_take]
 simp
theorem dsc_rev (u:out.toList.Pairwise fun u v=>K v<K u):Asc K out.toList.reverse:=List.pairwise_reverse.mpr u
theorem H.doneA (T:Two K x y)(j:H K x y out na nb)(ha:na=0):Res K x y (x.extract 0 na++y.extract 0 nb++out.reverse):=by
 subst ha
 have e:(x.extract 0 0++y.extract 0 nb++out.reverse).toList=y.toList.take nb++out.toList.reverse:=by
  rw[Array.toList_append,Array.toList_append,ext_head,ext_head,Array.toList_reverse];simp
 refine⟨?_,?_⟩
 ·rw[e]
  refine((List.reverse_perm _).append_left _).trans ((j.pm.append_left _).trans ?_)
  rw[List.drop_zero]
  refine List.perm_append_comm.trans ?_
  rw[List.append_assoc]
  refine List.Perm.append_left _ ?_
  refine List.perm_append_comm.trans ?_
  rw[List.take_append_drop]
 ·rw[e]
  exact List.pairwise_append.mpr ⟨T.uy.sublist (List.take_sublist _ _),dsc_rev j.up,fun u hu v hv=>j.ly v (List.mem_reverse.mp hv) u hu⟩
theorem H.firstB (T:Two K x y)(j:H K x y out na nb)(hb:nb=1)(hy:1≤y.size)(h:∀ v∈x.toList,K (y.getD 0 0)<K v):Res K x y (y.extract 0 nb++x.extract 0 na++out.reverse):=by
 subst hb
 have e:(y.extract 0 1++x.extract 0 na++out.reverse).toList=y.toList.take 1++(x.toList.take na++out.toList.reverse):=by
  rw[Array.toList_append,Array.toList_append,ext_head,ext_head,Array.toList_reverse,List.append_assoc]
 have e1:y.toList.take 1=[y.getD 0 0]:=by
  have:=take_more (a:=y) (i:=0) (by omega)
  simpa using this
 refine⟨?_,?_⟩
 ·rw[e]
  refine(((List.reverse_perm _).append_left _).append_left _).trans (((j.pm.append_left _).append_left _).trans ?_)
  rw[← List.append_assoc (x.toList.take na),List.take_append_drop,← List.append_assoc]
  refine(List.perm_append_comm.append_right _).trans ?_
  rw[List.append_assoc,List.take_append_drop]
 ·rw[e]
  refine List.pairwise_append.mpr ⟨by rw[e1];exact List.pairwise_singleton _ _,List.pairwise_append.mpr ⟨T.ux.sublist (List.take_sublist _ _),dsc_rev j.up,fun u hu v hv=>j.lx v (List.mem_reverse.mp hv) u hu⟩,fun u hu v hv=>?_⟩
  rcases List.mem_append.mp hv with hv|hv
  ·rw[e1,List.mem_singleton] at hu
   rw[hu]
   exact h v (List.mem_of_mem_take hv)
  ·exact j.ly v (List.mem_reverse.mp hv) u hu
theorem H.start (T:Two K x y)(hx:0<x.size)(h:∀ v∈y.toList,K v<K (x.getD (x.size - 1) 0)):H K x y #[x.getD (x.size - 1) 0] (x.size - 1) y.size:=by
 have e:x.size - 1+1=x.size:=by omega
 have j0:H K x y #[] (x.size - 1+1) y.size:=⟨by rw[e];simp,List.Pairwise.nil,fun u hu=>(by simp at hu),fun u hu=>(by simp at hu)⟩
 exact H.a T j0 (by omega) fun v hv=>h v (List.mem_of_mem_take hv)
theorem cutA' (T:Two K x y)(ha:na≤x.size)(hb:nb<y.size)(C:Cut (bey (bK K) false (y.getD nb 0) x 0) na c) :
  c≤na∧(∀ i,i<na - c→∀ v∈y.toList.take (nb+1),K v<K (x.getD (c+i) 0))∧∀ v∈x.toList.take c,K v<K (y.getD nb 0):=by
 have h1:=C.1
 refine⟨h1,fun i hi=>le_take T.uy hb ?_,fun v hv=>?_⟩
 ·have:¬ bey (bK K) false (y.getD nb 0) x 0 (c+i)=true:=fun z=>by have:=(C.2 _ (by omega)).mp z;omega
  rw[bey_f,Nat.zero_add] at this
  omega
 ·obtain⟨i,hi,rfl⟩:=List.mem_iff_getElem.mp hv
  rw[List.length_take,Array.length_toList] at hi
  have hi':i<x.size:=by omega
  have:=(C.2 i (by omega)).mpr (by omega)
  rw[bey_f,Nat.zero_add] at this
  have hne:=T.ne _ (mem_at hi') _ (mem_at hb)
  rw[List.getElem_take,← getD_list hi']
  omega
theorem cutB' (T:Two K x y)(ha:na<x.size)(hb:nb≤y.size)(C:Cut (bey (bK K) true (x.getD na 0) y 0) nb c) :
  c≤nb∧(∀ i,i<nb - c→∀ v∈x.toList.take (na+1),K v<K (y.getD (c+i) 0))∧∀ v∈y.toList.take c,K v<K (x.getD na 0):=by
 have h1:=C.1
 refine⟨h1,fun i hi=>le_take T.ux ha ?_,fun v hv=>?_⟩
 ·have:¬ bey (bK K) true (x.getD na 0) y 0 (c+i)=true:=fun z=>by have:=(C.2 _ (by omega)).mp z;omega
  rw[bey_t,Nat.zero_add] at this
  have hne:=T.ne _ (mem_at ha) _ (mem_at (a:=y) (i:=c+i) (by omega))
  omega
 ·obtain⟨i,hi,rfl⟩:=List.mem_iff_getElem.mp hv
  rw[List.length_take,Array.length_toList] at hi
  have hi':i<y.size:=by omega
  have:=(C.2 i (by omega)).mpr (by omega)
  rw[bey_t,Nat.zero_add] at this
  rw[List.getElem_take,← getD_list hi']
  exact this
end
end SR
namespace SR
open PySem PyProof.Rows PySem.W TL
noncomputable abbrev mHi (x y:Array Keyed):StateT SortSt Sem (Array Keyed):=(sortPriv% PySem.Builtin.mergeHi) x y
section
variable {prog:Program}{w:World}{A:Around}{E:Value→Shared→Prop}{s:Shared}{κ:SortKind}{it:Nat→Keyed}{K:Nat→Nat}{p:Array Nat}{pd:Array (Nat×Nat×Nat)}
theorem wpS_ite {α:Type}{c:Prop} [Decidable c] {M:Model}{m m':StateT SortSt Sem α}{Q:α→SortSt→Prop}{st:SortSt}(h1:wpS M A E s m Q st)(h2:wpS M A E s m' Q st):wpS M A E s (if c then m else m') Q st:=by
 by_cases h:c
 ·rw[if_pos h];exact h1
 ·rw[if_neg h];exact h2
theorem mhi_any (O:Orc prog w A s κ it (bK K)) {x y:Array Nat}{g:Nat}{Q:Array Keyed→SortSt→Prop}(T:Two K x y)(hx:1≤x.size)(hy:1≤y.size)(h0:∀ v∈x.toList,K (y.getD 0 0)<K v)
  (hl:∀ v∈y.toList,K v<K (x.getD (x.size - 1) 0))
  (h:∀(R:Array Nat) (g':Nat),Res K x y R→Q (R.map it) (stG κ it p pd g')):wpS (model prog w) A E s (mHi (x.map it) (y.map it)) Q (stG κ it p pd g):=by
 have done:∀{out na nb},H K x y out na nb→na=0→∃ R,(x.map it).extract 0 na++(y.map it).extract 0 nb++(Array.map it out).reverse=R.map it∧Res K x y R:=fun{out na nb} j e =>
  ⟨_,by rw[map_ext,map_ext,← Array.map_reverse,← Array.map_append,← Array.map_append],j.doneA T e⟩
 have first:∀{out na nb},H K x y out na nb→nb=1→∃ R,(y.map it).extract 0 nb++(x.map it).extract 0 na++(Array.map it out).reverse=R.map it∧Res K x y R:=fun{out na nb} j e =>
  ⟨_,by rw[map_ext,map_ext,← Array.map_reverse,← Array.map_append,← Array.map_append],j.firstB T e hy h0⟩
 have ltx:∀{na nb:Nat},na<x.size→nb<y.size→(bK K (y.getD nb 0) (x.getD na 0)=true→∀ v∈y.toList.take (nb+1),K v<K (x.getD na 0))∧(bK K (y.getD nb 0) (x.getD na 0)=false→∀ v∈x.toList.take (na+1),K v<K (y.getD nb 0)):=fun{na nb} ha hb=>by
  refine⟨fun e=>le_take T.uy hb (bK_iff.mp e),fun e=>le_take T.ux ha ?_⟩
  have h1:¬ K (y.getD nb 0)<K (x.getD na 0):=of_decide_eq_false e
  have h2:=T.ne _ (mem_at ha) _ (mem_at hb)
  omega
 have j0:=H.start T (by omega) hl
 refine wpS_bind (wpS_lift (wpAny_rule ⟨rfl,?_⟩))
 have ex:(Array.map it x).size=x.size:=by simp
 have ey:(Array.map it y).size=y.size:=by simp
 rw[ex,ey]
 refine wpS_bind (elem_det (a:=x) (by omega) ?_)
 by_cases hx1:x.size - 1=0
 ·rw[if_pos (by simpa using hx1)]
  obtain⟨R,e,r⟩:=done j0 hx1
  refine wpS_pure ?_
  rw[show(#[it (x.getD (x.size - 1) 0)]:Array Keyed)=Array.map it #[x.getD (x.size - 1) 0] by simp]
  dsimp only
  rw[e]
  exact h R g r
 rw[if_neg (by simpa using hx1)]
 by_cases hy1:y.size=1
 ·rw[if_pos (by simpa using hy1)]
  obtain⟨R,e,r⟩:=first j0 hy1
  refine wpS_pure ?_
  rw[show(#[it (x.getD (x.size - 1) 0)]:Array Keyed)=Array.map it #[x.getD (x.size - 1) 0] by simp]
  dsimp only
  rw[e]
  exact h R g r
 rw[if_neg (by simpa using hy1)]
 refine wpS_bind (wpS_get ?_)
 dsimp only
 refine wpS_bind (wpS_mono (wpS_forRange (I:=fun i c st'=>∃ g' out na nb gl,st'=stG κ it p pd g'∧c=(none,na,nb,Array.map it out,gl)∧1≤na∧2≤nb∧na≤x.size∧nb≤y.size∧H K x y out na nb∧i<out.size)
  (Q:=fun c st'=>∃ R g',st'=stG κ it p pd g'∧c.1=some (Array.map it R)∧Res K x y R) ?step ?fin ⟨g,#[x.getD (x.size - 1) 0],x.size - 1,y.size,g,rfl,by simp;rfl,by omega,by omega,by omega,by omega,j0,by simp⟩) ?post)
 case fin =>
  rintro c st' ⟨g',out,na,nb,gl,rfl,rfl,h1,h2,h3,h4,j,hs⟩
  have:=j.size
  omega
 case post =>
  rintro⟨c1,c2⟩ st' ⟨R,g',rfl,hc,r⟩
  dsimp only at hc ⊢
  rw[hc]
  exact wpS_pure (h R g' r)
 case step =>
  rintro i c st' _ hi ⟨g',out,na,nb,gl,rfl,rfl,h1,h2,h3,h4,j,hs⟩
  dsimp only
  refine wpS_bind (wpS_mono (wpS_forRange (I:=fun n c st'=>st'=stG κ it p pd g'∧∃ out na nb ac bc,c=(none,na,nb,Array.map it out,ac,bc)∧1≤na∧2≤nb∧na≤x.size∧nb≤y.size∧H K x y out na nb∧i+n<out.size)
   (Q:=fun c st'=>st'=stG κ it p pd g'∧((∃ R,c.1=some (Array.map it R)∧Res K x y R)∨∃ out na nb ac bc,c=(none,na,nb,Array.map it out,ac,bc)∧1≤na∧2≤nb∧na≤x.size∧nb≤y.size∧H K x y out na nb∧i+1<out.size)) ?istep ?ifin ⟨rfl,out,na,nb,0,0,rfl,h1,h2,h3,h4,j,hs⟩) ?ipost)
  case ifin =>
   rintro c st' ⟨rfl,out,na,nb,ac,bc,rfl,h1,h2,h3,h4,j,hs⟩
   have:=j.size
   omega
  case istep =>
   rintro n c st' _ hn ⟨rfl,out,na,nb,ac,bc,rfl,h1,h2,h3,h4,j,hs⟩
   obtain⟨a0,rfl⟩:∃ a,na=a+1:=⟨na - 1,by omega⟩
   obtain⟨b0,rfl⟩:∃ a,nb=a+1:=⟨nb - 1,by omega⟩
   dsimp only
   simp only[Nat.add_sub_cancel]
   refine wpS_bind (elem_det (a:=y) (by omega) (wpS_bind (elem_det (a:=x) (by omega) (wpS_bind (ltS O rfl ?_)))))
   dsimp only
   obtain⟨q1,q2⟩:=ltx (na:=a0) (nb:=b0) (by omega) (by omega)
   cases hb:bK K (y.getD b0 0) (x.getD a0 0) with
   | true =>
     simp only[if_true]
     refine wpS_bind (elem_det (a:=x) (by omega) ?_)
     have j':=j.a T (by omega) (q1 hb)
     rw[← Array.map_push]
     by_cases he:a0=0
     ·rw[if_pos (by simpa using he)]
      obtain⟨R,e,r⟩:=done j' he
      exact wpS_pure ⟨rfl,.inl ⟨R,congrArg some e,r⟩⟩
     ·rw[if_neg (by simpa using he)]
      by_cases hg:ac+1≥gl<;>first|rw[if_pos hg]|rw[if_neg hg]
      ·exact wpS_pure ⟨rfl,.inr ⟨_,a0,b0+1,ac+1,0,rfl,by omega,h2,by omega,h4,j',by rw[Array.size_push];omega⟩⟩
      ·exact wpS_pure ⟨rfl,_,a0,b0+1,ac+1,0,rfl,by omega,h2,by omega,h4,j',by rw[Array.size_push];omega⟩
   | false =>
     simp only[Bool.false_eq_true,if_false]
     refine wpS_bind (elem_det (a:=y) (by omega) ?_)
     have j':=j.b T (by omega) (q2 hb)
     rw[← Array.map_push]
     by_cases he:b0=1
     ·rw[if_pos (by simpa using he)]
      obtain⟨R,e,r⟩:=first j' he
      exact wpS_pure ⟨rfl,.inl ⟨R,congrArg some e,r⟩⟩
     ·rw[if_neg (by simpa using he)]
      by_cases hg:bc+1≥gl<;>first|rw[if_pos hg]|rw[if_neg hg]
      ·exact wpS_pure ⟨rfl,.inr ⟨_,a0+1,b0,0,bc+1,rfl,h1,by omega,h3,by omega,j',by rw[Array.size_push];omega⟩⟩
      ·exact wpS_pure ⟨rfl,_,a0+1,b0,0,bc+1,rfl,h1,by omega,h3,by omega,j',by rw[Array.size_push];omega⟩
  case ipost =>
   rintro⟨c1,c2⟩ st' ⟨rfl,(⟨R,hc,r⟩|⟨out,na,nb,ac,bc,hc,h1,h2,h3,h4,j,hs⟩)⟩
   ·dsimp only at hc ⊢
    rw[hc]
    exact wpS_pure ⟨R,g',rfl,rfl,r⟩
   ·cases hc
    dsimp only
    refine wpS_bind (wpS_lift (wpAny_rule ⟨rfl,?_⟩))
    refine wpS_bind (wpS_mono (wpS_forRange (I:=fun n c st'=>∃ g' out na nb gl ac bc,st'=stG κ it p pd g'∧c=(none,na,nb,Array.map it out,gl,ac,bc)∧1≤na∧2≤nb∧na≤x.size∧nb≤y.size∧H K x y out na nb∧i+1+n<out.size)
     (Q:=fun c st'=>∃ g',st'=stG κ it p pd g'∧((∃ R,c.1=some (Array.map it R)∧Res K x y R)∨∃ out na nb gl ac bc,c=(none,na,nb,Array.map it out,gl,ac,bc)∧1≤na∧2≤nb∧na≤x.size∧nb≤y.size∧H K x y out na nb∧i+1<out.size)) ?gstep ?gfin ⟨g',out,na,nb,gl+1,ac,bc,rfl,rfl,h1,h2,h3,h4,j,hs⟩) ?gpost)
    case gfin =>
     rintro c st' ⟨g',out,na,nb,gl,ac,bc,rfl,rfl,h1,h2,h3,h4,j,hs⟩
     have:=j.size
     omega
    case gpost =>
     rintro⟨c1,c2⟩ st' ⟨g',rfl,(⟨R,hc,r⟩|⟨out,na,nb,gl,ac,bc,hc,h1,h2,h3,h4,j,hs⟩)⟩
     ·dsimp only at hc ⊢
      rw[hc]
      exact wpS_pure ⟨R,g',rfl,rfl,r⟩
     ·cases hc
      dsimp only
      exact wpS_bind (wpS_modify (wpS_pure ⟨_,out,na,nb,_,rfl,rfl,h1,h2,h3,h4,j,hs⟩))
    case gstep =>
     clear hs h1 h2 h3 h4 j
     rintro n c st' _ hn ⟨g',out,na,nb,gl,ac,bc,rfl,rfl,h1,h2,h3,h4,j,hs⟩
     obtain⟨b0,rfl⟩:∃ a,nb=a+1:=⟨nb - 1,by omega⟩
     dsimp only
     simp only[Nat.add_sub_cancel]
     have z0:=j.size
     by_cases hg:gl>1<;>first|rw[if_pos hg]|rw[if_neg hg]
     all_goals
      refine wpS_bind (wpS_modify ?_)
      refine wpS_bind (elem_det (a:=y) (by omega) ?_)
      refine wpS_bind (gal_cut O rfl (by omega) (by omega) (monF T.ux (by omega)) fun c C=>?_)
      obtain⟨c1,c2,c3⟩:=cutA' T (by omega) (by omega) C
      have j1:=H.as T (na - c) (na:=c) (by rw[Nat.add_sub_cancel' c1];exact j) (by omega) c2
      rw[Nat.add_sub_cancel' c1] at j1
      dsimp only
      by_cases hc:na - c>0
      ·rw[if_pos hc,map_ext (a:=x) (i:=c) (j:=na),← Array.map_reverse,← Array.map_append]
       have z1:=j1.size
       by_cases e1:c=0
       ·rw[if_pos (by simpa using e1)]
        obtain⟨R,e,r⟩:=done j1 e1
        exact wpS_pure ⟨_,rfl,.inl ⟨R,congrArg some e,r⟩⟩
       rw[if_neg (by simpa using e1)]
       refine wpS_bind (elem_det (a:=y) (by omega) ?_)
       rw[← Array.map_push]
       have j2:=j1.b T (by omega) c3
       by_cases e2:b0=1
       ·rw[if_pos (by simpa using e2)]
        obtain⟨R,e,r⟩:=first j2 e2
        exact wpS_pure ⟨_,rfl,.inl ⟨R,congrArg some e,r⟩⟩
       rw[if_neg (by simpa using e2)]
       obtain⟨a1,rfl⟩:∃ a,c=a+1:=⟨c - 1,by omega⟩
       simp only[Nat.add_sub_cancel]
       refine wpS_bind (elem_det (a:=x) (by omega) ?_)
       refine wpS_bind (gal_cut O rfl (by omega) (by omega) (monT T.uy (by omega)) fun d D=>?_)
       obtain⟨d1,d2,d3⟩:=cutB' T (by omega) (by omega) D
       have j3:=H.bs T (b0 - d) (nb:=d) (by rw[Nat.add_sub_cancel' d1];exact j2) (by omega) d2
       rw[Nat.add_sub_cancel' d1] at j3
       have dpos:1≤d:=by
        have hz:bey (bK K) true (x.getD a1 0) y 0 0=true:=bey_t.mpr (h0 _ (mem_at (by omega)))
        exact(D.2 0 (by omega)).mp hz
       dsimp only
       by_cases hd:b0 - d>0
       ·rw[if_pos hd,map_ext (a:=y) (i:=d) (j:=b0),← Array.map_reverse,← Array.map_append]
        have z3:=j3.size
        by_cases e3:d=1
        ·rw[if_pos (by simpa using e3)]
         obtain⟨R,e,r⟩:=first j3 e3
         exact wpS_pure ⟨_,rfl,.inl ⟨R,congrArg some e,r⟩⟩
        rw[if_neg (by simpa using e3),if_neg (by simpa using(by omega:¬ d=0))]
        refine wpS_bind (elem_det (a:=x) (by omega) ?_)
        rw[← Array.map_push]
        have j4:=j3.a T (by omega) d3
        by_cases e4:a1=0
        ·rw[if_pos (by simpa using e4)]
         obtain⟨R,e,r⟩:=done j4 e4
         exact wpS_pure ⟨_,rfl,.inl ⟨R,congrArg some e,r⟩⟩
        rw[if_neg (by simpa using e4)]
        have z4:=j4.size
        refine wpS_ite ?_ ?_
        ·exact wpS_pure ⟨_,rfl,.inr ⟨_,_,_,_,_,_,rfl,by omega,by omega,by omega,by omega,j4,by omega⟩⟩
        ·exact wpS_pure ⟨_,_,_,_,_,_,_,rfl,rfl,by omega,by omega,by omega,by omega,j4,by omega⟩
       ·rw[if_neg hd]
        have hd0:d=b0:=by omega
        subst hd0
        have j3':H K x y _ (a1+1) d:=j2
        clear j3
        have j3:=j3'
        have z3:=j3.size
        refine wpS_bind (elem_det (a:=x) (by omega) ?_)
        rw[← Array.map_push]
        have j4:=j3.a T (by omega) d3
        by_cases e4:a1=0
        ·rw[if_pos (by simpa using e4)]
         obtain⟨R,e,r⟩:=done j4 e4
         exact wpS_pure ⟨_,rfl,.inl ⟨R,congrArg some e,r⟩⟩
        rw[if_neg (by simpa using e4)]
        have z4:=j4.size
        refine wpS_ite ?_ ?_
        ·exact wpS_pure ⟨_,rfl,.inr ⟨_,_,_,_,_,_,rfl,by omega,by omega,by omega,by omega,j4,by omega⟩⟩
        ·exact wpS_pure ⟨_,_,_,_,_,_,_,rfl,rfl,by omega,by omega,by omega,by omega,j4,by omega⟩
      ·rw[if_neg hc]
       have hc0:c=na:=by omega
       subst hc0
       have j1':H K x y _ c (b0+1):=j
       clear j1
       have j1:=j1'
       have z1:=j1.size
       refine wpS_bind (elem_det (a:=y) (by omega) ?_)
       rw[← Array.map_push]
       have j2:=j1.b T (by omega) c3
       by_cases e2:b0=1
       ·rw[if_pos (by simpa using e2)]
        obtain⟨R,e,r⟩:=first j2 e2
        exact wpS_pure ⟨_,rfl,.inl ⟨R,congrArg some e,r⟩⟩
       rw[if_neg (by simpa using e2)]
       obtain⟨a1,rfl⟩:∃ a,c=a+1:=⟨c - 1,by omega⟩
       simp only[Nat.add_sub_cancel]
       refine wpS_bind (elem_det (a:=x) (by omega) ?_)
       refine wpS_bind (gal_cut O rfl (by omega) (by omega) (monT T.uy (by omega)) fun d D=>?_)
       obtain⟨d1,d2,d3⟩:=cutB' T (by omega) (by omega) D
       have j3:=H.bs T (b0 - d) (nb:=d) (by rw[Nat.add_sub_cancel' d1];exact j2) (by omega) d2
       rw[Nat.add_sub_cancel' d1] at j3
       have dpos:1≤d:=by
        have hz:bey (bK K) true (x.getD a1 0) y 0 0=true:=bey_t.mpr (h0 _ (mem_at (by omega)))
        exact(D.2 0 (by omega)).mp hz
       dsimp only
       by_cases hd:b0 - d>0
       ·rw[if_pos hd,map_ext (a:=y) (i:=d) (j:=b0),← Array.map_reverse,← Array.map_append]
        have z3:=j3.size
        by_cases e3:d=1
        ·rw[if_pos (by simpa using e3)]
         obtain⟨R,e,r⟩:=first j3 e3
         exact wpS_pure ⟨_,rfl,.inl ⟨R,congrArg some e,r⟩⟩
        rw[if_neg (by simpa using e3),if_neg (by simpa using(by omega:¬ d=0))]
        refine wpS_bind (elem_det (a:=x) (by omega) ?_)
        rw[← Array.map_push]
        have j4:=j3.a T (by omega) d3
        by_cases e4:a1=0
        ·rw[if_pos (by simpa using e4)]
         obtain⟨R,e,r⟩:=done j4 e4
         exact wpS_pure ⟨_,rfl,.inl ⟨R,congrArg some e,r⟩⟩
        rw[if_neg (by simpa using e4)]
        have z4:=j4.size
        refine wpS_ite ?_ ?_
        ·exact wpS_pure ⟨_,rfl,.inr ⟨_,_,_,_,_,_,rfl,by omega,by omega,by omega,by omega,j4,by omega⟩⟩
        ·exact wpS_pure ⟨_,_,_,_,_,_,_,rfl,rfl,by omega,by omega,by omega,by omega,j4,by omega⟩
       ·rw[if_neg hd]
        have hd0:d=b0:=by omega
        subst hd0
        have j3':H K x y _ (a1+1) d:=j2
        clear j3
        have j3:=j3'
        have z3:=j3.size
        refine wpS_bind (elem_det (a:=x) (by omega) ?_)
        rw[← Array.map_push]
        have j4:=j3.a T (by omega) d3
        by_cases e4:a1=0
        ·rw[if_pos (by simpa using e4)]
         obtain⟨R,e,r⟩:=done j4 e4
         exact wpS_pure ⟨_,rfl,.inl ⟨R,congrArg some e,r⟩⟩
        rw[if_neg (by simpa using e4)]
        have z4:=j4.size
        refine wpS_ite ?_ ?_
        ·exact wpS_pure ⟨_,rfl,.inr ⟨_,_,_,_,_,_,rfl,by omega,by omega,by omega,by omega,j4,by omega⟩⟩
        ·exact wpS_pure ⟨_,_,_,_,_,_,_,rfl,rfl,by omega,by omega,by omega,by omega,j4,by omega⟩
end
end SR
namespace SR
open PySem PyProof.Rows PySem.W TL
section
variable {K:Nat→Nat}{p q:Array Nat}{lo n:Nat}
theorem swap_pm (a:Array Nat) (i j:Nat):(a.swapIfInBounds i j).toList.Perm a.toList:=by
 unfold Array.swapIfInBounds
 split
 ·split
  ·exact Array.perm_iff_toList_perm.mp (Array.swap_perm _ _)
  ·exact .refl _
 ·exact .refl _
theorem swaps_pm (u v:Nat→Nat):∀(l:List Nat)(a:Array Nat),(l.foldl (fun a k=>a.swapIfInBounds (u k) (v k)) a).toList.Perm a.toList
 | [],a=>.refl _
 | k::l,a=>(swaps_pm u v l _).trans (swap_pm a _ _)
theorem rev_pm (i j:Nat):(kas_rev p i j).toList.Perm p.toList:=by
 unfold kas_rev mirror
 exact swaps_pm _ _ _ _
theorem bub_pm (i j:Nat):(bubble p i j).toList.Perm p.toList:=by
 unfold bubble
 exact swaps_pm _ _ _ _
theorem pm_size (h:q.toList.Perm p.toList):q.size=p.size:=by simpa using h.length_eq
noncomputable def Dk (K:Nat→Nat)(p:Array Nat):Prop:=p.toList.Pairwise fun u v=>K u≠K v
theorem Dk.pm (d:Dk K p)(h:q.toList.Perm p.toList):Dk K q:=(h.pairwise_iff (fun e=>Ne.symm e)).mpr d
theorem Dk.ne (d:Dk K p){i j:Nat}(hi:i<p.size)(hj:j<p.size)(h:i≠j):K (p.getD i 0)≠K (p.getD j 0):=by
 have g:=List.pairwise_iff_getElem.mp d
 rw[getD_list hi,getD_list hj]
 rcases Nat.lt_or_gt_of_ne h with h|h
 ·exact g i j (by simpa using hi) (by simpa using hj) h
 ·exact(g j i (by simpa using hj) (by simpa using hi) h).symm
noncomputable def Up (K:Nat→Nat)(p:Array Nat) (l r:Nat):Prop:=∀ i j,l≤i→i<j→j<r→K (p.getD i 0)<K (p.getD j 0)
noncomputable def Dn (K:Nat→Nat)(p:Array Nat) (l r:Nat):Prop:=∀ i j,l≤i→i<j→j<r→K (p.getD j 0)<K (p.getD i 0)
theorem Up.more {r:Nat}(u:Up K p lo r)(h0:lo<r)(h:K (p.getD (r - 1) 0)<K (p.getD r 0)):Up K p lo (r+1):=fun i j h1 h2 h3=>by
 by_cases e:j=r
 ·subst e
  by_cases e2:i=j - 1
  ·rw[e2];exact h
  ·have:=u i (j - 1) h1 (by omega) (by omega);omega
 ·exact u i j h1 h2 (by omega)
theorem Dn.more {r:Nat}(u:Dn K p lo r)(h0:lo<r)(h:K (p.getD r 0)<K (p.getD (r - 1) 0)):Dn K p lo (r+1):=fun i j h1 h2 h3=>by
 by_cases e:j=r
 ·subst e
  by_cases e2:i=j - 1
  ·rw[e2];exact h
  ·have:=u i (j - 1) h1 (by omega) (by omega);omega
 ·exact u i j h1 h2 (by omega)
theorem asc_up (d:Dk K p):∀(f m:Nat),1≤m→lo+(m+f)≤p.size→Up K p lo (lo+m)→Up K p lo (lo+asc (bK K) p lo f m)∧m≤asc (bK K) p lo f m
 | 0,m,h1,hz,u=>⟨u,Nat.le_refl _⟩
 | f+1,m,h1,hz,u=>by
   unfold asc
   by_cases e:bK K (p.getD (lo+m) 0) (p.getD (lo+m - 1) 0)=true
   ·rw[if_pos e];exact⟨u,Nat.le_refl _⟩
   ·rw[if_neg e]
    have e1:¬ K (p.getD (lo+m) 0)<K (p.getD (lo+m - 1) 0):=fun z=>e (bK_iff.mpr z)
    have e2:=d.ne (i:=lo+m) (j:=lo+m - 1) (by omega) (by omega) (by omega)
    obtain⟨r1,r2⟩:=asc_up d f (m+1) (by omega) (by omega) (u.more (by omega) (by omega))
    exact⟨r1,by omega⟩
noncomputable def dsc (b:Nat→Nat→Bool)(p:Array Nat) (lo:Nat):Nat→Nat→Nat
 | 0,n=>n
 | f+1,n=>if b (p.getD (lo+n) 0) (p.getD (lo+n - 1) 0) then dsc b p lo f (n+1) else n
theorem dsc_le (b:Nat→Nat→Bool)(p:Array Nat) (lo:Nat):∀ f n,n≤dsc b p lo f n∧dsc b p lo f n≤n+f
 | 0,n=>⟨Nat.le_refl _,Nat.le_refl _⟩
 | f+1,n=>by
   unfold dsc
   split
   ·have:=dsc_le b p lo f (n+1);omega
   ·omega
theorem dsc_dn:∀(f m:Nat),1≤m→Dn K p lo (lo+m)→Dn K p lo (lo+dsc (bK K) p lo f m)
 | 0,m,h1,u=>u
 | f+1,m,h1,u=>by
   unfold dsc
   by_cases e:bK K (p.getD (lo+m) 0) (p.getD (lo+m - 1) 0)=true
   ·rw[if_pos e]
    exact dsc_dn f (m+1) (by omega) (u.more (by omega) (bK_iff.mp e))
   ·rw[if_neg e];exact u
theorem rev_up {r:Nat}(d:Dn K p lo r)(hr:r≤p.size):Up K (kas_rev p lo r) lo r:=fun i j h1 h2 h3=>by
 have e1:=rev_at (p:=p) (i:=lo) (j:=r) hr i
 have e2:=rev_at (p:=p) (i:=lo) (j:=r) hr j
 rw[if_pos ⟨h1,by omega⟩] at e1
 rw[if_pos ⟨by omega,h3⟩] at e2
 have e1':(kas_rev p lo r).getD i 0=p.getD (lo+r - 1 - i) 0:=e1
 have e2':(kas_rev p lo r).getD j 0=p.getD (lo+r - 1 - j) 0:=e2
 rw[e1',e2']
 exact d _ _ (by omega) (by omega) (by omega)
theorem rev_out {i j k:Nat}(hj:j≤p.size)(h:k<i):(kas_rev p i j).getD k 0=p.getD k 0:=by
 have e1:=rev_at (p:=p) (i:=i) (j:=j) hj k
 rw[if_neg (by omega)] at e1
 exact e1
theorem plc_ok {k:Nat}(u:Up K p lo (lo+k)) (d:Dk K p)(hz:lo+k<p.size):∀(f l r:Nat),l≤r→r≤k→r - l≤f→(∀ i,i<l→K (p.getD (lo+i) 0)<K (p.getD (lo+k) 0))→(∀ i,r≤i→i<k→K (p.getD (lo+k) 0)<K (p.getD (lo+i) 0)) →
  (plc (bK K) p lo k f l r≤k∧(∀ i,i<plc (bK K) p lo k f l r→K (p.getD (lo+i) 0)<K (p.getD (lo+k) 0))∧∀ i,plc (bK K) p lo k f l r≤i→i<k→K (p.getD (lo+k) 0)<K (p.getD (lo+i) 0))
 | 0,l,r,h1,h2,h3,a,b=>by
   have:l=r:=by omega
   subst this
   exact⟨h2,a,b⟩
 | f+1,l,r,h1,h2,h3,a,b=>by
   unfold plc
   by_cases hle:r≤l
   ·have:l=r:=by omega
    subst this
    rw[if_pos hle]
    exact⟨h2,a,b⟩
   ·rw[if_neg hle]
    by_cases e:bK K (p.getD (lo+k) 0) (p.getD (lo+(l+r) / 2) 0)=true
    ·rw[if_pos e]
     rw[bK_iff] at e
     refine plc_ok u d hz f l _ (by omega) (by omega) (by omega) a fun i hi hk=>?_
     by_cases ei:i=(l+r) / 2
     ·rw[ei];exact e
     ·have:=u (lo+(l+r) / 2) (lo+i) (by omega) (by omega) (by omega);omega
    ·rw[if_neg e]
     have e1:¬ K (p.getD (lo+k) 0)<K (p.getD (lo+(l+r) / 2) 0):=fun z=>e (bK_iff.mpr z)
     have e2:=d.ne (i:=lo+k) (j:=lo+(l+r) / 2) (by omega) (by omega) (by omega)
     refine plc_ok u d hz f _ r (by omega) h2 (by omega) (fun i hi=>?_) b
     by_cases ei:i=(l+r) / 2
     ·rw[ei];omega
     ·have:=u (lo+i) (lo+(l+r) / 2) (by omega) (by omega) (by omega);omega
theorem bins_ok (lo:Nat):∀(f k:Nat)(p:Array Nat),1≤k→lo+(k+f)≤p.size→Dk K p→Up K p lo (lo+k) →
  Up K (bins (bK K) lo f k p) lo (lo+(k+f))∧(bins (bK K) lo f k p).toList.Perm p.toList∧∀ i,i<lo→(bins (bK K) lo f k p).getD i 0=p.getD i 0
 | 0,k,p,h1,hz,d,u=>⟨u,.refl _,fun _ _=>rfl⟩
 | f+1,k,p,h1,hz,d,u=>by
   unfold bins
   obtain⟨l1,l2,l3⟩:=plc_ok u d (by omega) k 0 k (by omega) (Nat.le_refl _) (by omega) (fun i hi=>absurd hi (Nat.not_lt_zero _)) fun i a b=>by omega
   generalize plc (bK K) p lo k k 0 k=P at l1 l2 l3
   have hb:∀ i,(bubble p (lo+k) (lo+k - (lo+P))).getD i 0=if i=lo+P then p.getD (lo+k) 0 else if lo+P<i∧i≤lo+k then p.getD (i - 1) 0 else p.getD i 0:=fun i=>by
    have:=bub_at (p:=p) (src:=lo+k) (d:=lo+k - (lo+P)) (by omega) (by omega) i
    rw[show lo+k - (lo+k - (lo+P))=lo+P by omega] at this
    exact this
   have pm:=bub_pm (p:=p) (lo+k) (lo+k - (lo+P))
   generalize bubble p (lo+k) (lo+k - (lo+P))=q at hb pm
   have u':Up K q lo (lo+(k+1)):=fun i j a c e=>by
    obtain⟨i,rfl⟩:∃ t,i=lo+t:=⟨i - lo,by omega⟩
    obtain⟨j,rfl⟩:∃ t,j=lo+t:=⟨j - lo,by omega⟩
    have at1:q.getD (lo+P) 0=p.getD (lo+k) 0:=by rw[hb,if_pos rfl]
    have at2:∀ t,P<t→t≤k→q.getD (lo+t) 0=p.getD (lo+(t - 1)) 0:=fun t h1 h2=>by
     have n1:¬ lo+t=lo+P:=by omega
     rw[hb,if_neg n1,if_pos ⟨by omega,by omega⟩,show lo+t - 1=lo+(t - 1) by omega]
    have at3:∀ t,t<P→q.getD (lo+t) 0=p.getD (lo+t) 0:=fun t h1=>by
     have n1:¬ lo+t=lo+P:=by omega
     have n2:¬(lo+P<lo+t∧lo+t≤lo+k):=by omega
     rw[hb,if_neg n1,if_neg n2]
    rcases Nat.lt_trichotomy i P with e1|e1|e1
    ·rw[at3 i e1]
     rcases Nat.lt_trichotomy j P with e2|e2|e2
     ·rw[at3 j e2];exact u _ _ (by omega) (by omega) (by omega)
     ·rw[e2,at1];exact l2 i e1
     ·rw[at2 j e2 (by omega)];exact u _ _ (by omega) (by omega) (by omega)
    ·rw[e1,at1,at2 j (by omega) (by omega)]
     exact l3 (j - 1) (by omega) (by omega)
    ·rw[at2 i e1 (by omega),at2 j (by omega) (by omega)]
     exact u _ _ (by omega) (by omega) (by omega)
   obtain⟨r1,r2,r3⟩:=bins_ok lo f (k+1) q (by omega) (by rw[pm_size pm];omega) (d.pm pm) u'
   refine⟨by rw[show k+(f+1)=k+1+f by omega];exact r1,r2.trans pm,fun i hi=>?_⟩
   have n1:¬ i=lo+P:=by omega
   have n2:¬(lo+P<i∧i≤lo+k):=by omega
   rw[r3 i hi,hb,if_neg n1,if_neg n2]
theorem up_asc {l r:Nat}(u:Up K p l r)(hr:r≤p.size):Asc K ((p.toList.take r).drop l):=by
 refine List.pairwise_iff_getElem.mpr fun i j hi hj hij=>?_
 rw[List.length_drop,List.length_take,Array.length_toList] at hi hj
 have:=u (l+i) (l+j) (by omega) (by omega) (by omega)
 rw[getD_list (by omega),getD_list (by omega)] at this
 simpa using this
theorem lay_list (o:Nat):∀(l:List Nat) (j:Nat)(p:Array Nat),o+j+l.length≤p.size→((l.zipIdx j).foldl (fun a x=>a.setIfInBounds (o+x.2) x.1) p).toList=p.toList.take (o+j)++l++p.toList.drop (o+j+l.length)
 | [],j,p,h=>by simp
 | v::l,j,p,h=>by
   rw[List.length_cons] at h
   rw[List.zipIdx_cons,List.foldl_cons,lay_list o l (j+1) _ (by rw[Array.size_setIfInBounds];omega)]
   dsimp only
   rw[Array.toList_setIfInBounds,show o+(j+1)=o+j+1 by omega]
   have hlen:o+j<p.toList.length:=by simp;omega
   rw[List.set_eq_take_append_cons_drop,if_pos hlen]
   have e1:(p.toList.take (o+j)++v::p.toList.drop (o+j+1)).take (o+j+1)=p.toList.take (o+j)++[v]:=by
    rw[List.take_append]
    have:(p.toList.take (o+j)).length=o+j:=by rw[List.length_take];omega
    rw[this,show o+j+1 - (o+j)=1 by omega,List.take_of_length_le (by omega)]
    simp
   have e2:(p.toList.take (o+j)++v::p.toList.drop (o+j+1)).drop (o+j+1+l.length)=p.toList.drop (o+j+(l.length+1)):=by
    rw[List.drop_append]
    have:(p.toList.take (o+j)).length=o+j:=by rw[List.length_take];omega
    rw[this,List.drop_of_length_le (by omega),show o+j+1+l.length - (o+j)=l.length+1 by omega]
    simp only[List.nil_append,List.drop_succ_cons,List.drop_drop]
    congr 1;omega
   rw[e1,e2]
   simp
end
end SR
namespace SR
open PySem PyProof.Rows PySem.W TL
section
variable {prog:Program}{w:World}{A:Around}{E:Value→Shared→Prop}{s:Shared}{κ:SortKind}{it:Nat→Keyed}{K:Nat→Nat}{p:Array Nat}{pd:Array (Nat×Nat×Nat)}
theorem rev_det {i j:Nat}{Q:Unit→SortSt→Prop}(h:Q () (stOf κ it (kas_rev p i j) pd)):wpS (model prog w) A E s (reverseSlice' i j) Q (stOf κ it p pd):=by
 rw[reverseSlice'_eq]
 refine wpS_modify ?_
 have e:mirror (arrOf (stOf κ it p pd)) i j ((j - i) / 2)=(kas_rev p i j).map it:=by
  show mirror (p.map it) i j ((j - i) / 2)=_
  unfold kas_rev mirror
  exact kas_swaps_map it _ _ _ _
 show Q () (setArr (stOf κ it p pd) (mirror (arrOf (stOf κ it p pd)) i j ((j - i) / 2)))
 rw[e]
 exact h
theorem asc_loop (O:Orc prog w A s κ it (bK K)) {lo m nrem:Nat}{Q:Option Nat→SortSt→Prop}(h1:1≤m)(hm:m≤nrem)(hz:lo+nrem≤p.size)
  (F:Nat→Option (Option Nat)×Nat→StateT SortSt Sem (ForInStep (Option (Option Nat)×Nat))) (G:Option (Option Nat)×Nat→StateT SortSt Sem (Option Nat))
  (hF:∀ x n,F x (none,n)=(ltAt' (lo+n) (lo+n - 1) >>= fun r=>match r with
   | some smaller=>if smaller=true then pure (ForInStep.done (none,n)) else pure (ForInStep.yield (none,n+1))
   | none=>pure (ForInStep.done (some none,n))))
  (h:wpS (model prog w) A E s (G (none,asc (bK K) p lo (nrem - m) m)) Q (stOf κ it p pd)):wpS (model prog w) A E s (forIn [m:nrem] (none,m) F >>= G) Q (stOf κ it p pd):=by
 have hle:=asc_le (bK K) p lo (nrem - m) m
 generalize hN:asc (bK K) p lo (nrem - m) m=N at *
 refine wpS_bind (wpS_mono (wpS_forRange (I:=fun x c st'=>st'=stOf κ it p pd∧c=(none,x)∧asc (bK K) p lo (nrem - x) x=N)
  (Q:=fun c st'=>st'=stOf κ it p pd∧c=(none,N)) ?step ?fin ⟨rfl,rfl,hN⟩) ?post)
 case fin =>
  rintro c st' ⟨rfl,rfl,e⟩
  refine⟨rfl,?_⟩
  rw[show nrem - max m nrem=0 by omega] at e
  have:max m nrem=N:=e
  rw[this]
 case step =>
  rintro x c st' hx1 hx2 ⟨rfl,rfl,e⟩
  rw[hF]
  obtain⟨f,hf⟩:∃ f,nrem - x=f+1:=⟨nrem - x - 1,by omega⟩
  rw[hf] at e
  unfold asc at e
  refine wpS_bind (ltAt_det O (by omega) (by omega) ?_)
  dsimp only
  cases hb:bK K (p.getD (lo+x) 0) (p.getD (lo+x - 1) 0) with
  | true =>
    rw[hb] at e
    have e':x=N:=e
    simp only[if_true]
    exact wpS_pure ⟨rfl,by rw[e']⟩
  | false =>
    rw[hb] at e
    have e':asc (bK K) p lo f (x+1)=N:=e
    simp only[Bool.false_eq_true,if_false]
    exact wpS_pure ⟨rfl,rfl,by rw[show nrem - (x+1)=f by omega];exact e'⟩
 case post =>
  rintro c st' ⟨rfl,rfl⟩
  exact h
theorem count_any (O:Orc prog w A s κ it (bK K)) {lo nrem:Nat}{Q:Option Nat→SortSt→Prop}(h1:1≤nrem)(hz:lo+nrem≤p.size)(d:Dk K p)
  (h:∀(n:Nat)(q:Array Nat),1≤n→n≤nrem→q.toList.Perm p.toList→(∀ i,i<lo→q.getD i 0=p.getD i 0)→Up K q lo (lo+n)→Q (some n) (stOf κ it q pd)):wpS (model prog w) A E s (countRun' lo nrem) Q (stOf κ it p pd):=by
 rw[countRun'_eq]
 refine asc_loop O (Nat.le_refl 1) h1 hz _ _ (fun x n=>?_) ?_
 ·dsimp only
  exact bind_congr fun r=>by cases r<;>rfl
 have u1:Up K p lo (lo+1):=fun i j a b c=>by omega
 obtain⟨u,g1⟩:=asc_up d (nrem - 1) 1 (Nat.le_refl _) (by omega) u1
 have hle:=asc_le (bK K) p lo (nrem - 1) 1
 have hlt:asc (bK K) p lo (nrem - 1) 1=1→2≤nrem→K (p.getD (lo+1) 0)<K (p.getD lo 0):=fun e h2=>by
  obtain⟨f,hf⟩:∃ f,nrem - 1=f+1:=⟨nrem - 2,by omega⟩
  rw[hf] at e
  unfold asc at e
  by_cases eb:bK K (p.getD (lo+1) 0) (p.getD (lo+1 - 1) 0)=true
  ·rw[Nat.add_sub_cancel] at eb;exact bK_iff.mp eb
  ·rw[if_neg eb] at e
   have:=asc_up d f 2 (by omega) (by omega) (lo:=lo) (u1.more (by omega) (by
    have e1:¬ K (p.getD (lo+1) 0)<K (p.getD (lo+1 - 1) 0):=fun z=>eb (bK_iff.mpr z)
    have e2:=d.ne (i:=lo+1) (j:=lo+1 - 1) (by omega) (by omega) (by omega)
    omega))
   have e2:asc (bK K) p lo f 2=1:=e
   omega
 generalize asc (bK K) p lo (nrem - 1) 1=N at *
 dsimp only
 by_cases hn:N=nrem
 ·rw[if_pos (by simpa using hn)]
  exact wpS_pure (h N p g1 (by omega) (.refl _) (fun _ _=>rfl) u)
 rw[if_neg (by simpa using hn)]
 by_cases h2:N>1
 ·rw[if_pos h2]
  refine wpS_bind (ltAt_det O (by omega) (by omega) ?_)
  rw[bK_iff.mpr (u lo (lo+N - 1) (Nat.le_refl _) (by omega) (by omega))]
  simp only[if_true]
  exact wpS_pure (h N p g1 (by omega) (.refl _) (fun _ _=>rfl) u)
 rw[if_neg h2]
 have hN:N=1:=by omega
 subst hN
 have hd:=hlt rfl (by omega)
 have d2:Dn K p lo (lo+2):=fun i j a b c=>by
  rw[show i=lo by omega,show j=lo+1 by omega];exact hd
 refine wpS_bind (wpS_lift (wpAny_rule ⟨rfl,?_⟩))
 obtain⟨D,hD⟩:∃ D,dsc (bK K) p lo (nrem - 2) 2=D:=⟨_,rfl⟩
 have dn:=dsc_dn (K:=K) (p:=p) (lo:=lo) (nrem - 2) 2 (by omega) d2
 have dle:=dsc_le (bK K) p lo (nrem - 2) 2
 rw[hD] at dn dle
 refine wpS_bind (wpS_mono (wpS_forRange (I:=fun x c st'=>st'=stOf κ it p pd∧c=(none,x,0)∧dsc (bK K) p lo (nrem - x) x=D)
  (Q:=fun c st'=>st'=stOf κ it p pd∧c=(none,D,0)) ?step ?fin ⟨rfl,rfl,hD⟩) ?post)
 case fin =>
  rintro c st' ⟨rfl,rfl,e⟩
  refine⟨rfl,?_⟩
  rw[show nrem - max 2 nrem=0 by omega] at e
  have:max 2 nrem=D:=e
  rw[← this]
 case step =>
  rintro x c st' hx1 hx2 ⟨rfl,rfl,e⟩
  have hx1':2≤x:=hx1
  dsimp only
  obtain⟨f,hf⟩:∃ f,nrem - x=f+1:=⟨nrem - x - 1,by omega⟩
  rw[hf] at e
  unfold dsc at e
  refine wpS_bind (ltAt_det O (by omega) (by omega) ?_)
  dsimp only
  cases hb:bK K (p.getD (lo+x) 0) (p.getD (lo+x - 1) 0) with
  | true =>
    rw[hb] at e
    have e':dsc (bK K) p lo f (x+1)=D:=e
    simp only[if_true]
    rw[if_neg (by omega)]
    exact wpS_pure ⟨rfl,rfl,by rw[show nrem - (x+1)=f by omega];exact e'⟩
  | false =>
    rw[hb] at e
    have e':x=D:=e
    simp only[Bool.false_eq_true,if_false]
    refine wpS_bind (ltAt_det O (by omega) (by omega) ?_)
    have hne:=d.ne (i:=lo+x) (j:=lo+x - 1) (by omega) (by omega) (by omega)
    have hnl:¬ K (p.getD (lo+x) 0)<K (p.getD (lo+x - 1) 0):=of_decide_eq_false hb
    rw[bK_iff.mpr (show K (p.getD (lo+x - 1) 0)<K (p.getD (lo+x) 0) by omega)]
    simp only[if_true]
    exact wpS_pure ⟨rfl,by rw[e']⟩
 case post =>
  rintro c st' ⟨rfl,rfl⟩
  dsimp only
  rw[if_neg (by omega)]
  refine wpS_bind (rev_det ?_)
  have pm:=rev_pm (p:=p) lo (lo+D)
  have dq:=d.pm pm
  have uq:=rev_up dn (by omega)
  have oq:∀ i,i<lo→(kas_rev p lo (lo+D)).getD i 0=p.getD i 0:=fun i hi=>rev_out (by omega) hi
  have zq:=pm_size pm
  generalize kas_rev p lo (lo+D)=q at *
  refine asc_loop O (lo:=lo) (m:=D) (nrem:=nrem) (by omega) (by omega) (by omega) _ _ (fun x n=>?_) ?_
  ·dsimp only
   exact bind_congr fun r=>by cases r<;>rfl
  obtain⟨r1,r2⟩:=asc_up dq (nrem - D) D (by omega) (by omega) uq
  have r3:=asc_le (bK K) q lo (nrem - D) D
  exact wpS_pure (h _ q (by omega) (by omega) pm oq r1)
end
end SR
namespace SR
open PySem PyProof.Rows PySem.W TL
section
variable {K:Nat→Nat}{p q:Array Nat}{n k m:Nat}
theorem mem_take {u:Nat}(h:u∈p.toList.take k):∃ i,i<k∧i<p.size∧u=p.getD i 0:=by
 obtain⟨i,hi,rfl⟩:=List.mem_iff_getElem.mp h
 rw[List.length_take,Array.length_toList] at hi
 exact⟨i,by omega,by omega,by rw[List.getElem_take,← getD_list (by omega)]⟩
theorem mem_drop {u:Nat}(h:u∈p.toList.drop k):∃ i,k≤i∧i<p.size∧u=p.getD i 0:=by
 obtain⟨i,hi,rfl⟩:=List.mem_iff_getElem.mp h
 rw[List.length_drop,Array.length_toList] at hi
 exact⟨k+i,by omega,by omega,by rw[List.getElem_drop,← getD_list (by omega)]⟩
theorem ext_list:(p.extract k n).toList=(p.toList.drop k).take (n - k):=by rw[Array.toList_extract,List.extract_eq_drop_take]
theorem mem_ext {u:Nat}(h:u∈(p.extract k n).toList):∃ i,k≤i∧i<n∧i<p.size∧u=p.getD i 0:=by
 rw[ext_list] at h
 obtain⟨i,hi,rfl⟩:=List.mem_iff_getElem.mp h
 rw[List.length_take,List.length_drop,Array.length_toList] at hi
 exact⟨k+i,by omega,by omega,by omega,by rw[List.getElem_take,List.getElem_drop,← getD_list (by omega)]⟩
theorem ext_getD {i:Nat}(hi:k+i<n)(hn:n≤p.size):(p.extract k n).getD i 0=p.getD (k+i) 0:=by
 rw[getD_list (by rw[Array.size_extract];omega),getD_list (by omega)]
 simp
theorem Up.join {r:Nat}(u:Up K p 0 n)(v:Up K p n r)(h:n<r→K (p.getD (n - 1) 0)<K (p.getD n 0)):Up K p 0 r:=fun i j _ h2 h3=>by
 by_cases e1:j<n
 ·exact u i j (Nat.zero_le _) h2 e1
 ·by_cases e2:n≤i
  ·exact v i j e2 h2 h3
  ·have a1:=h (by omega)
   have a2:K (p.getD i 0)≤K (p.getD (n - 1) 0):=by
    by_cases e:i=n - 1
    ·rw[e];exact Nat.le_refl _
    ·exact Nat.le_of_lt (u i (n - 1) (Nat.zero_le _) (by omega) (by omega))
   have a3:K (p.getD n 0)≤K (p.getD j 0):=by
    by_cases e:n=j
    ·rw[e];exact Nat.le_refl _
    ·exact Nat.le_of_lt (v n j (Nat.le_refl _) (by omega) h3)
   omega
theorem Up.all (u:Up K p 0 p.size):Asc K p.toList:=by
 have:=up_asc u (Nat.le_refl _)
 rw[List.drop_zero,List.take_of_length_le (by simp)] at this
 exact this
theorem Up.sub {l l' r r':Nat}(u:Up K p l r)(h1:l≤l')(h2:r'≤r):Up K p l' r':=fun i j a b c=>u i j (by omega) b (by omega)
theorem Up.cong {l r:Nat}(u:Up K p l r)(h:∀ i,i<r→q.getD i 0=p.getD i 0):Up K q l r:=fun i j a b c=>by
 rw[h i (by omega),h j c];exact u i j a b c
end
section
variable {prog:Program}{w:World}{A:Around}{E:Value→Shared→Prop}{s:Shared}{κ:SortKind}{it:Nat→Keyed}{K:Nat→Nat}{p:Array Nat}
theorem mat_any (O:Orc prog w A s κ it (bK K)) {n1 n2 pw pw2:Nat}{Q:Bool→SortSt→Prop}(h1:0<n1)(h2:0<n2)(hz:n1+n2=p.size)(d:Dk K p)(u1:Up K p 0 n1)(u2:Up K p n1 p.size)
  (h:∀(q:Array Nat) (g:Nat),q.toList.Perm p.toList→Asc K q.toList→Q true (stG κ it q #[(0,n1+n2,pw)] g)):wpS (model prog w) A E s (mergeAt' 0) Q (stOf κ it p #[(0,n1,pw),(n1,n2,pw2)]):=by
 refine wpS_bind (wpS_get ?_)
 dsimp only
 refine wpS_bind (set_det ?_)
 have e0:((#[(0,n1,pw),(n1,n2,pw2)]:Array (Nat×Nat×Nat)).setIfInBounds 0 (0,n1+n2,pw)).eraseIdxIfInBounds (0+1)=#[(0,n1+n2,pw)]:=by
  simp [Array.eraseIdxIfInBounds,Array.setIfInBounds]
 show wpS _ _ _ _ _ _ (SortSt.mk' κ (p.map it) (((#[(0,n1,pw),(n1,n2,pw2)]:Array (Nat×Nat×Nat)).setIfInBounds 0 (0,n1+n2,pw)).eraseIdxIfInBounds (0+1)) 7 none)
 rw[e0]
 show wpS _ _ _ _ _ _ (stG κ it p #[(0,n1+n2,pw)] 7)
 refine wpS_bind (elem_det (a:=p) (by omega) ?_)
 have mon0:∀{kk:Nat},∀ i j,i<j→j<n1→bey (bK K) false kk p 0 j=true→bey (bK K) false kk p 0 i=true:=fun{kk} i j hij hj e=>by
  rw[bey_f,Nat.zero_add] at e ⊢
  have:=u1 i j (Nat.zero_le _) hij hj
  omega
 have mon1:∀{kk:Nat},∀ i j,i<j→j<n2→bey (bK K) true kk p n1 j=true→bey (bK K) true kk p n1 i=true:=fun{kk} i j hij hj e=>by
  rw[bey_t] at e ⊢
  have:=u2 (n1+i) (n1+j) (by omega) (by omega) (by omega)
  omega
 refine wpS_bind (gal_cut O rfl (by omega) h1 mon0 fun k C=>?_)
 have hk:=C.1
 have ck:∀ i,i<k→K (p.getD i 0)<K (p.getD n1 0):=fun i hi=>by
  have:=(C.2 i (by omega)).mpr hi
  rw[bey_f,Nat.zero_add] at this
  have:=d.ne (i:=i) (j:=n1) (by omega) (by omega) (by omega)
  omega
 have cg:∀ i,k≤i→i<n1→K (p.getD n1 0)<K (p.getD i 0):=fun i hi hn=>by
  have:¬ bey (bK K) false (p.getD n1 0) p 0 i=true:=fun z=>by have:=(C.2 i hn).mp z;omega
  rw[bey_f,Nat.zero_add] at this
  omega
 dsimp only
 by_cases hk0:n1 - k=0
 ·rw[if_pos (by simpa using hk0)]
  exact wpS_pure (h p 7 (.refl _) (Up.all (u1.join u2 fun _=>ck (n1 - 1) (by omega))))
 rw[if_neg (by simpa using hk0)]
 refine wpS_bind (elem_det (a:=p) (by omega) ?_)
 rw[show 0+k+(n1 - k) - 1=n1 - 1 by omega]
 refine wpS_bind (gal_cut O rfl (by omega) (by omega) mon1 fun m D=>?_)
 have hm:=D.1
 have dm:∀ j,n1≤j→j<n1+m→K (p.getD j 0)<K (p.getD (n1 - 1) 0):=fun j hj hn=>by
  have:=(D.2 (j - n1) (by omega)).mpr (by omega)
  rw[bey_t,show n1+(j - n1)=j by omega] at this
  exact this
 have dg:∀ j,n1+m≤j→j<p.size→K (p.getD (n1 - 1) 0)<K (p.getD j 0):=fun j hj hn=>by
  have:¬ bey (bK K) true (p.getD (n1 - 1) 0) p n1 (j - n1)=true:=fun z=>by have:=(D.2 (j - n1) (by omega)).mp z;omega
  rw[bey_t,show n1+(j - n1)=j by omega] at this
  have:=d.ne (i:=j) (j:=n1 - 1) (by omega) (by omega) (by omega)
  omega
 dsimp only
 by_cases hm0:m=0
 ·rw[if_pos (by simpa using hm0)]
  exact wpS_pure (h p 7 (.refl _) (Up.all (u1.join u2 fun _=>dg n1 (by omega) (by omega))))
 rw[if_neg (by simpa using hm0)]
 rw[show(0:Nat)+k=k by omega]
 have zx:(p.extract k n1).size=n1 - k:=by rw[Array.size_extract];omega
 have zy:(p.extract n1 (n1+m)).size=m:=by rw[Array.size_extract];omega
 have T:Two K (p.extract k n1) (p.extract n1 (n1+m)):=by
  refine⟨?_,?_,fun u hu v hv=>?_⟩
  ·rw[ext_list,← List.drop_take];exact up_asc (u1.sub (Nat.zero_le _) (Nat.le_refl _)) (by omega)
  ·rw[ext_list,← List.drop_take];exact up_asc (u2.sub (Nat.le_refl _) (by omega)) (by omega)
  ·obtain⟨i,a1,a2,a3,rfl⟩:=mem_ext hu
   obtain⟨j,b1,b2,b3,rfl⟩:=mem_ext hv
   exact d.ne a3 b3 (by omega)
 have t0:∀ v∈(p.extract k n1).toList,K ((p.extract n1 (n1+m)).getD 0 0)<K v:=fun v hv=>by
  obtain⟨i,a1,a2,a3,rfl⟩:=mem_ext hv
  rw[ext_getD (by omega) (by omega),Nat.add_zero]
  exact cg i a1 a2
 have tl:∀ v∈(p.extract n1 (n1+m)).toList,K v<K ((p.extract k n1).getD ((p.extract k n1).size - 1) 0):=fun v hv=>by
  obtain⟨j,a1,a2,a3,rfl⟩:=mem_ext hv
  rw[zx,ext_getD (by omega) (by omega),show k+(n1 - k - 1)=n1 - 1 by omega]
  exact dm j a1 a2
 have fin:∀(R:Array Nat) (g:Nat),Res K (p.extract k n1) (p.extract n1 (n1+m)) R→Q true (stG κ it (lay k R p) #[(0,n1+n2,pw)] g):=fun R g r=>by
  have zR:R.toList.length=n1 - k+m:=by
   rw[r.pm.length_eq,List.length_append,Array.length_toList,Array.length_toList,zx,zy]
  have el:(lay k R p).toList=p.toList.take k++R.toList++p.toList.drop (n1+m):=by
   have:=lay_list k R.toList 0 p (by rw[zR];omega)
   rw[zR,Nat.add_zero,show k+(n1 - k+m)=n1+m by omega] at this
   exact this
  have split4:p.toList=p.toList.take k++((p.extract k n1).toList++(p.extract n1 (n1+m)).toList)++p.toList.drop (n1+m):=by
   rw[ext_list,ext_list,show n1+m - n1=m by omega]
   have a1:p.toList.drop n1=(p.toList.drop n1).take m++p.toList.drop (n1+m):=by
    conv=>lhs;rw[← List.take_append_drop m (p.toList.drop n1),List.drop_drop]
   have a2:p.toList.drop k=(p.toList.drop k).take (n1 - k)++p.toList.drop n1:=by
    conv=>lhs;rw[← List.take_append_drop (n1 - k) (p.toList.drop k),List.drop_drop,show k+(n1 - k)=n1 by omega]
   conv=>lhs;rw[← List.take_append_drop k p.toList,a2,a1]
   simp only[List.append_assoc]
  refine h _ g ?_ ?_
  ·rw[el]
   conv=>rhs;rw[split4]
   exact(r.pm.append_left _).append_right _
  ·rw[el]
   have inR:∀ u∈R.toList,∃ j,k≤j∧j<n1+m∧u=p.getD j 0:=fun u hu=>by
    rcases List.mem_append.mp (r.pm.mem_iff.mp hu) with hu|hu
    ·obtain⟨i,a1,a2,a3,rfl⟩:=mem_ext hu;exact⟨i,a1,by omega,rfl⟩
    ·obtain⟨i,a1,a2,a3,rfl⟩:=mem_ext hu;exact⟨i,by omega,a2,rfl⟩
   have low:∀ i j,i<k→k≤j→j<p.size→K (p.getD i 0)<K (p.getD j 0):=fun i j hi hj hz'=>by
    by_cases e:j<n1
    ·exact u1 i j (Nat.zero_le _) (by omega) e
    ·have a:=ck i hi
     by_cases e2:j=n1
     ·rw[e2];exact a
     ·have:=u2 n1 j (Nat.le_refl _) (by omega) hz';omega
   refine List.pairwise_append.mpr ⟨List.pairwise_append.mpr ⟨?_,r.up,fun u hu v hv=>?_⟩,?_,fun u hu v hv=>?_⟩
   ·have:=up_asc (u1.sub (r':=k) (Nat.le_refl _) hk) (by omega)
    rwa [List.drop_zero] at this
   ·obtain⟨i,a1,a2,rfl⟩:=mem_take hu
    obtain⟨j,b1,b2,rfl⟩:=inR v hv
    exact low i j a1 b1 (by omega)
   ·have:=up_asc (u2.sub (l':=n1+m) (by omega) (Nat.le_refl _)) (Nat.le_refl _)
    rw[List.take_of_length_le (by simp)] at this
    exact this
   ·obtain⟨t,b1,b2,rfl⟩:=mem_drop hv
    rcases List.mem_append.mp hu with hu|hu
    ·obtain⟨i,a1,a2,rfl⟩:=mem_take hu
     exact low i t a1 (by omega) b2
    ·obtain⟨j,a1,a2,rfl⟩:=inR u hu
     by_cases e:j<n1
     ·have c1:=dg t b1 b2
      by_cases e2:j=n1 - 1
      ·rw[e2];exact c1
      ·have:=u1 j (n1 - 1) (Nat.zero_le _) (by omega) (by omega);omega
     ·exact u2 j t (by omega) (by omega) b2
 have e1:(p.map it).extract k n1=(p.extract k n1).map it:=map_ext
 have e2:(p.map it).extract n1 (n1+m)=(p.extract n1 (n1+m)).map it:=map_ext
 have last:∀(R:Array Nat) (g:Nat),Res K (p.extract k n1) (p.extract n1 (n1+m)) R→wpS (model prog w) A E s (modify (fun s'=>setArr s' (List.foldl (fun a x=>a.setIfInBounds (k+x.2) x.1) (arrOf s') ((R.map it).toList.zipIdx))) >>= fun _=>(get >>= fun st=>pure (failedOf st).isNone)) Q (stG κ it p #[(0,n1+n2,pw)] g):=fun R g r=>by
  refine wpS_bind (wpS_modify (wpS_bind (wpS_get (wpS_pure ?_))))
  have e3:List.foldl (fun a x=>a.setIfInBounds (k+x.2) x.1) (p.map it) ((R.map it).toList.zipIdx)=(lay k R p).map it:=by
   rw[Array.toList_map]
   exact lay_map it k R.toList 0 p
  show Q true (SortSt.mk' κ (List.foldl (fun a x=>a.setIfInBounds (k+x.2) x.1) (p.map it) ((R.map it).toList.zipIdx)) #[(0,n1+n2,pw)] g none)
  rw[e3]
  exact fin R g r
 refine wpS_ite ?_ ?_
 ·show wpS _ _ _ _ (mLo ((p.map it).extract k n1) ((p.map it).extract n1 (n1+m)) >>= _) _ _
  rw[e1,e2]
  exact wpS_bind (mlo_any O T (by omega) (by omega) t0 tl fun R g r=>last R g r)
 ·show wpS _ _ _ _ (mHi ((p.map it).extract k n1) ((p.map it).extract n1 (n1+m)) >>= _) _ _
  rw[e1,e2]
  exact wpS_bind (mhi_any O T (by omega) (by omega) t0 tl fun R g r=>last R g r)
end
end SR
namespace SR
open PySem PyProof.Rows PySem.W TL
section
variable {prog:Program}{w:World}{A:Around}{E:Value→Shared→Prop}{s:Shared}{κ:SortKind}{it:Nat→Keyed}{K:Nat→Nat}{p:Array Nat}
noncomputable def Two64 (K:Nat→Nat)(p:Array Nat)(κ:SortKind)(it:Nat→Keyed)(st:SortSt):Prop :=
 ∃(n:Nat)(q:Array Nat) (pw:Nat),32≤n∧n≤64∧q.toList.Perm p.toList∧Up K q 0 n∧Up K q n 64∧((n=64∧st=stOf κ it q #[(0,64,0)])∨(n<64∧st=stOf κ it q #[(0,n,pw),(n,64 - n,0)]))
theorem runs64 (O:Orc prog w A s κ it (bK K)) (hn:p.size=64)(d:Dk K p){Q:Unit→SortSt→Prop}
  (h:∀(q:Array Nat)(pd:Array (Nat×Nat×Nat)) (g:Nat),q.toList.Perm p.toList→Asc K q.toList→Q () (stG κ it q pd g)):wpS (model prog w) A E s sortRuns' Q (stOf κ it p #[]):=by
 rw[sortRuns'_eq]
 refine wpS_bind (wpS_get ?_)
 dsimp only
 have hsz:(arrOf (stOf κ it p #[])).size=64:=by show(p.map it).size=64;simp [hn]
 have hmr:minRun' 64 64 0=32:=by decide +kernel
 simp only[hsz,hmr]
 refine wpS_bind (wpS_mono (wpS_forRange (I:=fun x c st'=>(x=0∧c=(none,0)∧st'=stOf κ it p #[])∨(x=1∧∃(n:Nat)(q:Array Nat),c=(none,n)∧32≤n∧n≤64∧q.toList.Perm p.toList∧Up K q 0 n∧st'=stOf κ it q #[(0,n,0)])∨(2≤x∧c=(none,64)∧Two64 K p κ it st'))
  (Q:=fun c st'=>c=(none,64)∧Two64 K p κ it st') ?step ?fin (.inl ⟨rfl,rfl,rfl⟩)) ?post)
 case fin =>
  rintro c st' (⟨hx,_⟩|⟨hx,_⟩|⟨_,h1,h2⟩)
  ·omega
  ·omega
  ·exact⟨h1,h2⟩
 case step =>
  rintro x c st' _ hx (⟨rfl,rfl,rfl⟩|⟨rfl,n,q,rfl,h1,h2,pm,up,rfl⟩|⟨hx1,rfl,T⟩)
  ·dsimp only
   rw[if_neg (by omega)]
   refine wpS_bind (count_any O (by omega) (by omega) d fun n q g1 g2 pm _ up=>?_)
   have zq:=pm_size pm
   rw[Nat.zero_add] at up
   dsimp only
   by_cases l1:n<32
   ·rw[if_pos l1]
    refine wpS_bind (wpS_lift (wpAny_rule ⟨rfl,?_⟩))
    rw[show min (64 - 0) 32=32 by omega]
    refine wpS_bind (bin_det O (by omega) (by omega) ?_)
    rw[show max n 1=n by omega]
    obtain⟨r1,r2,_⟩:=bins_ok (K:=K) 0 (32 - n) n q g1 (by omega) (d.pm pm) (by rw[Nat.zero_add];exact up)
    rw[show 0+(n+(32 - n))=32 by omega] at r1
    generalize bins (bK K) 0 (32 - n) n q=q1 at r1 r2
    simp only[Bool.not_true,Bool.false_eq_true,if_false]
    refine wpS_bind (wpS_get ?_)
    have hb:(pendingOf (stOf κ it q1 #[])).back?=none:=rfl
    rw[hb]
    dsimp only
    exact wpS_bind (wpS_modify (wpS_pure (.inr (.inl ⟨by simp,32,q1,rfl,by omega,by omega,r2.trans pm,r1,rfl⟩))))
   ·rw[if_neg l1]
    refine wpS_bind (wpS_get ?_)
    have hb:(pendingOf (stOf κ it q #[])).back?=none:=rfl
    rw[hb]
    dsimp only
    exact wpS_bind (wpS_modify (wpS_pure (.inr (.inl ⟨by simp,n,q,by rw[Nat.zero_add],by omega,by omega,pm,up,rfl⟩))))
  ·dsimp only
   by_cases h64:64≤n
   ·have:n=64:=by omega
    subst this
    rw[if_pos (Nat.le_refl _)]
    exact wpS_pure ⟨rfl,64,q,0,by omega,by omega,pm,up,(fun i j a b c=>by omega),.inl ⟨rfl,rfl⟩⟩
   rw[if_neg (by omega)]
   have zq:=pm_size pm
   have tail:∀(q2:Array Nat),q2.toList.Perm p.toList→Up K q2 0 n→Up K q2 n 64→∀ pw,Two64 K p κ it (stOf κ it q2 #[(0,n,pw),(n,64 - n,0)]):=fun q2 a b c pw=>⟨n,q2,pw,h1,h2,a,b,c,.inr ⟨by omega,rfl⟩⟩
   refine wpS_bind (count_any O (by omega) (by omega) (d.pm pm) fun n2 q2 g1 g2 pm2 same up2=>?_)
   have zq2:=pm_size pm2
   have upq:Up K q2 0 n:=up.cong fun i hi=>same i hi
   dsimp only
   by_cases l1:n2<32
   ·rw[if_pos l1]
    refine wpS_bind (wpS_lift (wpAny_rule ⟨rfl,?_⟩))
    rw[show min (64 - n) 32=64 - n by omega]
    refine wpS_bind (bin_det O (by omega) (by omega) ?_)
    rw[show max n2 1=n2 by omega]
    obtain⟨r1,r2,r3⟩:=bins_ok (K:=K) n (64 - n - n2) n2 q2 g1 (by omega) ((d.pm pm).pm pm2) up2
    rw[show n+(n2+(64 - n - n2))=64 by omega] at r1
    have upr:=upq.cong fun i hi=>r3 i hi
    generalize bins (bK K) n (64 - n - n2) n2 q2=q3 at r1 r2 upr
    simp only[Bool.not_true,Bool.false_eq_true,if_false]
    refine wpS_bind (wpS_get ?_)
    have hb:(pendingOf (stOf κ it q3 #[(0,n,0)])).back?=some (0,n,0):=rfl
    rw[hb]
    dsimp only
    refine wpS_bind (wpS_mono (wpS_forRange (I:=fun x c st'=>c=(none,())∧st'=stOf κ it q3 #[(0,n,0)]) (Q:=fun c st'=>c=(none,())∧st'=stOf κ it q3 #[(0,n,0)]) ?_ (fun _ _ z=>z) ⟨rfl,rfl⟩) ?_)
    ·rintro i c st' _ _ ⟨rfl,rfl⟩
     refine wpS_bind (wpS_get ?_)
     exact wpS_pure ⟨rfl,rfl⟩
    ·rintro c st' ⟨rfl,rfl⟩
     dsimp only
     refine wpS_bind (wpS_modify (wpS_bind (wpS_modify (wpS_pure (.inr (.inr ⟨by omega,by rw[show n+(64 - n)=64 by omega],?_⟩))))))
     exact tail q3 (r2.trans (pm2.trans pm)) upr r1 _
   ·rw[if_neg l1]
    have e2:n2=64 - n:=by omega
    subst e2
    refine wpS_bind (wpS_get ?_)
    have hb:(pendingOf (stOf κ it q2 #[(0,n,0)])).back?=some (0,n,0):=rfl
    rw[hb]
    dsimp only
    refine wpS_bind (wpS_mono (wpS_forRange (I:=fun x c st'=>c=(none,())∧st'=stOf κ it q2 #[(0,n,0)]) (Q:=fun c st'=>c=(none,())∧st'=stOf κ it q2 #[(0,n,0)]) ?_ (fun _ _ z=>z) ⟨rfl,rfl⟩) ?_)
    ·rintro i c st' _ _ ⟨rfl,rfl⟩
     refine wpS_bind (wpS_get ?_)
     exact wpS_pure ⟨rfl,rfl⟩
    ·rintro c st' ⟨rfl,rfl⟩
     dsimp only
     refine wpS_bind (wpS_modify (wpS_bind (wpS_modify (wpS_pure (.inr (.inr ⟨by omega,by rw[show n+(64 - n)=64 by omega],?_⟩))))))
     refine tail q2 (pm2.trans pm) upq ?_ _
     rw[show n+(64 - n)=64 by omega] at up2
     exact up2
  ·dsimp only
   rw[if_pos (Nat.le_refl _)]
   exact wpS_pure ⟨rfl,T⟩
 case post =>
  rintro c st' ⟨rfl,n,q,pw,h1,h2,pm,u1,u2,(⟨rfl,rfl⟩|⟨hlt,rfl⟩)⟩
  ·dsimp only
   have zq:=pm_size pm
   refine tail1 (st:=stOf κ it q #[(0,64,0)]) (Nat.le_refl _) (by omega) (h q _ 7 pm (Up.all (by rw[zq,hn];exact u1))) _ _ rfl fun x=>?_
   refine wpS_bind (wpS_get ?_)
   rw[if_pos (by show 1≤1;omega)]
   exact wpS_pure ⟨rfl,rfl⟩
  ·dsimp only
   have zq:=pm_size pm
   refine wpS_bind (wpS_mono (wpS_forRange (I:=fun x c st'=>c=(none,())∧((x=0∧st'=stOf κ it q #[(0,n,pw),(n,64 - n,0)])∨(1≤x∧∃(q':Array Nat) (g:Nat),q'.toList.Perm p.toList∧Asc K q'.toList∧st'=stG κ it q' #[(0,n+(64 - n),pw)] g)))
    (Q:=fun c st'=>c=(none,())∧∃(q':Array Nat) (g:Nat),q'.toList.Perm p.toList∧Asc K q'.toList∧st'=stG κ it q' #[(0,n+(64 - n),pw)] g) ?_ ?_ ⟨rfl,.inl ⟨rfl,rfl⟩⟩) ?_)
   ·rintro i c st' _ _ ⟨rfl,(⟨rfl,rfl⟩|⟨hi,q',g,a1,a2,rfl⟩)⟩
    ·refine wpS_bind (wpS_get ?_)
     rw[if_neg (by show ¬(2≤1);omega)]
     refine wpS_bind (mat_any O (pw:=pw) (pw2:=0) (by omega) (by omega) (by omega) (d.pm pm) u1 (by rw[zq,hn];exact u2) fun q' g a1 a2=>?_)
     exact wpS_pure ⟨rfl,.inr ⟨by omega,q',g,a1.trans pm,a2,rfl⟩⟩
    ·refine wpS_bind (wpS_get ?_)
     rw[if_pos (by show 1≤1;omega)]
     exact wpS_pure ⟨rfl,q',g,a1,a2,rfl⟩
   ·rintro c st' ⟨rfl,(⟨h1,_⟩|⟨_,h1⟩)⟩
    ·omega
    ·exact⟨rfl,h1⟩
   ·rintro c st' ⟨rfl,q',g,a1,a2,rfl⟩
    exact wpS_pure (h q' _ g a1 a2)
end
end SR
namespace SR
open PySem PyProof.Rows PySem.W TL
section
variable {prog:Program}{w:World}{A:Around}{E:Value→Shared→Prop}{s:Shared}{κ:SortKind}{it:Nat→Keyed}{K:Nat→Nat}{p:Array Nat}
theorem runs_lt (O:Orc prog w A s κ it (bK K)) {n:Nat}(hn:p.size=n)(h2:2≤n)(h64:n<64)(d:Dk K p){Q:Unit→SortSt→Prop}
  (h:∀(q:Array Nat)(pd:Array (Nat×Nat×Nat)) (g:Nat),q.toList.Perm p.toList→Asc K q.toList→Q () (stG κ it q pd g)):wpS (model prog w) A E s sortRuns' Q (stOf κ it p #[]):=by
 rw[sortRuns'_eq]
 refine wpS_bind (wpS_get ?_)
 dsimp only
 have hsz:(arrOf (stOf κ it p #[])).size=n:=by show(p.map it).size=n;simp [hn]
 have hmr:minRun' n n 0=n:=by
  obtain⟨f,hf⟩:∃ f,n=f+1:=⟨n - 1,by omega⟩
  have e:minRun' (f+1) n 0=n:=by rw[minRun'_succ,if_pos h64];rfl
  rwa [← hf] at e
 simp only[hsz,hmr]
 refine wpS_bind (wpS_mono (wpS_forRange (I:=fun x c st'=>(x=0∧c=(none,0)∧st'=stOf κ it p #[])∨(1≤x∧c=(none,n)∧∃ q:Array Nat,q.toList.Perm p.toList∧Up K q 0 n∧st'=stOf κ it q #[(0,n,0)])) (Q:=fun c st'=>c=(none,n)∧∃ q:Array Nat,q.toList.Perm p.toList∧Up K q 0 n∧st'=stOf κ it q #[(0,n,0)]) ?step ?fin (.inl ⟨rfl,rfl,rfl⟩)) ?post)
 case fin =>
  rintro c st' (⟨hx,_⟩|⟨_,h1,h2⟩)
  ·omega
  ·exact⟨h1,h2⟩
 case step =>
  rintro x c st' _ hx (⟨rfl,rfl,rfl⟩|⟨hx1,rfl,T⟩)
  ·dsimp only
   rw[if_neg (by omega)]
   simp only[Nat.sub_zero,Nat.min_self]
   refine wpS_bind (count_any O (by omega) (by omega) d fun m q g1 g2 pm _ up=>?_)
   have zq:=pm_size pm
   rw[Nat.zero_add] at up
   dsimp only
   by_cases hlt:m<n
   ·rw[if_pos hlt]
    refine wpS_bind (wpS_lift (wpAny_rule ⟨rfl,?_⟩))
    refine wpS_bind (bin_det O (by omega) (by omega) ?_)
    rw[show max m 1=m by omega]
    obtain⟨r1,r2,_⟩:=bins_ok (K:=K) 0 (n - m) m q g1 (by omega) (d.pm pm) (by rw[Nat.zero_add];exact up)
    rw[show 0+(m+(n - m))=n by omega] at r1
    generalize bins (bK K) 0 (n - m) m q=q1 at r1 r2
    simp only[Bool.not_true,Bool.false_eq_true,if_false]
    refine wpS_bind (wpS_get ?_)
    have hb:(pendingOf (stOf κ it q1 #[])).back?=none:=rfl
    rw[hb]
    dsimp only
    exact wpS_bind (wpS_modify (wpS_pure (.inr ⟨by omega,by rw[Nat.zero_add],q1,r2.trans pm,r1,rfl⟩)))
   ·rw[if_neg hlt]
    have hm:m=n:=by omega
    subst hm
    refine wpS_bind (wpS_get ?_)
    have hb:(pendingOf (stOf κ it q #[])).back?=none:=rfl
    rw[hb]
    dsimp only
    exact wpS_bind (wpS_modify (wpS_pure (.inr ⟨by omega,by rw[Nat.zero_add],q,pm,up,rfl⟩)))
  ·dsimp only
   rw[if_pos (Nat.le_refl _)]
   exact wpS_pure ⟨rfl,T⟩
 case post =>
  rintro c st' ⟨rfl,q,pm,up,rfl⟩
  dsimp only
  have zq:=pm_size pm
  refine tail1 (st:=stOf κ it q #[(0,n,0)]) (Nat.le_refl _) (by omega) (h q _ 7 pm (Up.all (by rw[zq,hn];exact up))) _ _ rfl fun x=>?_
  refine wpS_bind (wpS_get ?_)
  rw[if_pos (by show 1≤1;omega)]
  exact wpS_pure ⟨rfl,rfl⟩
theorem runs_any (O:Orc prog w A s κ it (bK K)) (h2:2≤p.size)(h64:p.size≤64)(d:Dk K p){Q:Unit→SortSt→Prop}
  (h:∀(q:Array Nat)(pd:Array (Nat×Nat×Nat)) (g:Nat),q.toList.Perm p.toList→Asc K q.toList→Q () (stG κ it q pd g)):wpS (model prog w) A E s sortRuns' Q (stOf κ it p #[]):=by
 by_cases e:p.size=64
 ·exact runs64 O e d h
 ·exact runs_lt O rfl h2 (by omega) d h
end
theorem ord_ex (K:Nat→Nat) (n:Nat)(inj:∀ i j,i<n→j<n→K i=K j→i=j):∃ o:List Nat,o.Perm (List.range n)∧Asc K o:=by
 refine⟨(List.range n).mergeSort (fun i j=>decide (K i≤K j)),List.mergeSort_perm _ _,?_⟩
 have h1:=List.pairwise_mergeSort (le:=fun i j=>decide (K i≤K j)) (by intro a b c;simp;omega) (by intro a b;simp;omega) (List.range n)
 have pm:=List.mergeSort_perm (List.range n) (fun i j=>decide (K i≤K j))
 have nd:=pm.nodup_iff.mpr List.nodup_range
 refine List.Pairwise.imp_of_mem (fun{a b} ha hb q=>?_) (List.pairwise_and_iff.mpr ⟨h1,nd⟩)
 have ha:=List.mem_range.mp (pm.mem_iff.mp ha)
 have hb:=List.mem_range.mp (pm.mem_iff.mp hb)
 have q1:K a≤K b:=by simpa using q.1
 have q2:K a≠K b:=fun e=>q.2 (inj a b ha hb e)
 omega
theorem asc_uniq {K:Nat→Nat}{o o':List Nat}(a:Asc K o)(a':Asc K o')(h:∀ x,x∈o↔x∈o'):o=o' :=
 sorted_uniq (R:=fun u v=>K u<K v) (fun a b h1 h2=>by omega) a a' h
section
variable {prog:Program}{w:World}{A:Around}{E:Value→Shared→Prop}{s:Shared}{κ:SortKind}
theorem runs_vals {vs:List Value}{K:Nat→Nat}{o:List Nat}(h2:2≤vs.length)(h64:vs.length≤64)(inj:∀ i j,i<vs.length→j<vs.length→K i=K j→i=j)(ho:o.Perm (List.range vs.length)) (ha:Asc K o)
  (hcmp:∀(i j:Nat)(E:Value→Shared→Prop)(C:Bool→Shared→Prop),i<vs.length→j<vs.length→C (decide (K i<K j)) s→wpAny (model prog w) A (keyLt' κ (vs.getD i .none) (vs.getD j .none)) C E s) :
  wpS (model prog w) A E s sortRuns' (fun _ st'=>(arrOf st').map (·.2)=(o.map fun i=>vs.getD i .none).toArray∧failedOf st'=none) (SortSt.mk' κ (pairsOf vs) #[] 7 none):=by
 obtain⟨f,hf⟩:∃ f:Nat→Nat,f=fun i=>if i<vs.length then i else 0:=⟨_,rfl⟩
 have fl:∀ i,f i<vs.length:=fun i=>by rw[hf];dsimp only;split<;>omega
 have fi:∀ i,i<vs.length→f i=i:=fun i hi=>by rw[hf];dsimp only;rw[if_pos hi]
 have O:Orc prog w A s κ (fun i=>(vs.getD (f i) .none,vs.getD (f i) .none)) (bK fun i=>K (f i)):=fun i j E C hC=>hcmp (f i) (f j) E C (fl i) (fl j) hC
 have hst:SortSt.mk' κ (pairsOf vs) #[] 7 none=stOf κ (fun i=>(vs.getD (f i) .none,vs.getD (f i) .none)) (Array.range vs.length) #[]:=by
  unfold stOf
  congr 1
  apply Array.ext
  ·rw[pairsOf_size];simp
  ·intro i h1 h2
   have hi:i<vs.length:=by rw[pairsOf_size] at h1;exact h1
   simp [pairsOf,List.getD,hi,fi i hi]
 rw[hst]
 have d:Dk (fun i=>K (f i)) (Array.range vs.length):=by
  unfold Dk
  rw[Array.toList_range]
  refine List.Pairwise.imp_of_mem (fun{a b} ha hb hab=>?_) List.nodup_range
  have ha:=List.mem_range.mp ha
  have hb:=List.mem_range.mp hb
  show K (f a)≠K (f b)
  rw[fi a ha,fi b hb]
  exact fun e=>hab (inj a b ha hb e)
 refine runs_any O (by simpa using h2) (by simpa using h64) d fun q pd g pm as=>⟨?_,rfl⟩
 rw[Array.toList_range] at pm
 have hq:q.toList=o:=by
  refine asc_uniq (K:=K) ?_ ha fun x=>by rw[pm.mem_iff,ho.mem_iff]
  refine List.Pairwise.imp_of_mem (fun{a b} ha hb hab=>?_) as
  have ha:=List.mem_range.mp (pm.mem_iff.mp ha)
  have hb:=List.mem_range.mp (pm.mem_iff.mp hb)
  have hab:K (f a)<K (f b):=hab
  rwa [fi a ha,fi b hb] at hab
 show Array.map (fun x:Keyed=>x.2) (q.map fun i=>(vs.getD (f i) .none,vs.getD (f i) .none))=_
 rw[Array.map_map]
 apply Array.toList_inj.mp
 rw[Array.toList_map,hq]
 show _=o.map _
 refine List.map_congr_left fun i hi=>?_
 have hi:=List.mem_range.mp (ho.mem_iff.mp hi)
 show vs.getD (f i) .none=_
 rw[fi i hi]
end
end SR
namespace SR
open PySem PyProof.Rows PySem.W TL L2 SeqAt
section
variable {prog:Program}{w:World}{A:Around}{E:Value→Shared→Prop}{s:Shared}
theorem collect_tup {l:Addr}{vs:List Value}{Q:List Value→Shared→Prop}(hl:IsTup s.heap l vs.toArray)
  (h:Q vs {s with heap:=(s.heap.push (seqObj "list" #[] 0)).update s.heap.objs.size (Obj.mapSeq (·++vs.toArray))}) (hsz:vs.length≤sizeLine) :
  wpAny (model prog w) A (collect (.ref l)) Q E s:=by
 obtain⟨o,ho,hc,n,hd⟩:=id hl
 unfold collect
 refine wpAny_bind (wpAny_runValue (codeAny_builtin entry_proto_collect' ?_))
 show wpAny _ _ (do again (.builtin "list.__iadd__" ⟨[← newList [],.ref l],[]⟩)) _ _ s
 refine wpAny_bind (wpAny_newList (wpAny_pure ⟨Code.quiet_builtin _ (by decide +kernel),codeAny_builtin entry_list_iadd' ?_⟩))
 show wpAny _ _ (Builtin.List.listExtendWith (.ref s.heap.objs.size) (.ref l) (.ref s.heap.objs.size)) _ _ {s with heap:=s.heap.push (seqObj "list" #[] 0)}
 unfold Builtin.List.listExtendWith
 have ho':(s.heap.push (seqObj "list" #[] 0)).get? l=some o:=Heap.get?_push_of_some _ ho
 refine wpAny_bind (wpAny_typeOf (T:="tuple") ⟨o,ho',hc⟩ ?_)
 have ht:(Value.type "tuple"==Value.type "tuple")=true:=by rfl
 rw[if_pos (by rw[ht];simp)]
 refine wpAny_bind (listItems_at ho' hd ?_)
 refine wpAny_bind (listItems_at (xs:=#[]) (n:=0) (Heap.get?_push_size _ rfl) rfl ?_)
 rw[if_neg (by simp)]
 refine wpAny_bind (listUpdate_at (xs:=#[]) (n:=0) (Heap.get?_push_size _ rfl) rfl ?_ (Nat.zero_le _) (by show(#[]++vs.toArray).size≤sizeLine+1;simp only[Array.size_append,List.size_toArray,List.length_nil];omega))
 refine wpAny_pure ?_
 show wpAny (model prog w) A (do
   let o ← load s.heap.objs.size
   match o.data with
   | .seq xs _=>pure xs.toList
   | _=>unsupported "internal:collect") Q E {s with heap:=(s.heap.push (seqObj "list" #[] 0)).update s.heap.objs.size (Obj.mapSeq (·++vs.toArray))}
 refine wpAny_bind (wpAny_load (get?_update_seq (Heap.get?_push_size _ rfl) _) ?_)
 show wpAny _ _ (pure ((#[]:Array Value)++vs.toArray).toList) Q E _
 rw[show((#[]:Array Value)++vs.toArray).toList=vs by simp]
 exact wpAny_pure h
theorem few_ord {vs:List Value}{o:List Nat}(h2:vs.length<2)(ho:o.Perm (List.range vs.length)):(o.map fun i=>vs.getD i .none)=vs:=by
 have lo:o.length=vs.length:=by simpa using ho.length_eq
 match vs,h2,o,ho,lo with
 | [],_,[],_,_=>rfl
 | [v],_,[i],ho,_ =>
   have:i∈List.range [v].length:=ho.mem_iff.mp List.mem_cons_self
   have:i=0:=by simpa using this
   subst this;rfl
 | _::_::_,h2,_,_,_=>simp at h2;omega
theorem lsort_vals {a:Addr}{vs:List Value}{n:Nat}{κ:SortKind}{K:Nat→Nat}{o:List Nat}{P:PySem.Fin→Shared→Prop}(hoL:s.heap.get? a=some (seqObj "list" vs.toArray n)) (h64:vs.length≤64)
  (inj:∀ i j,i<vs.length→j<vs.length→K i=K j→i=j)(ho:o.Perm (List.range vs.length)) (ha:Asc K o)
  (hk:2≤vs.length→∀ s':Shared,(∀ b o,b≠a→s.heap.get? b=some o→s'.heap.get? b=some o)→∀(Q:SortKind→Shared→Prop),Q κ s'→wpAny (model prog w) A (keyKind' vs.toArray) Q E s')
  (hcmp:∀ s':Shared,(∀ b o,b≠a→s.heap.get? b=some o→s'.heap.get? b=some o)→∀(i j:Nat)(E:Value→Shared→Prop)(C:Bool→Shared→Prop),i<vs.length→j<vs.length→C (decide (K i<K j)) s'→wpAny (model prog w) A (keyLt' κ (vs.getD i .none) (vs.getD j .none)) C E s')
  (h:P (.done (.ret .none)) {s with heap:=sortedHeap s.heap a vs (o.map fun i=>vs.getD i .none).toArray}):wpAny (model prog w) A (Builtin.«list.sort» ⟨[.ref a],[]⟩) P E s:=by
 by_cases h2:vs.length<2
 ·rw[few_ord h2 ho] at h
  exact sort_few hoL h2 h
 ·have lo:o.length=vs.length:=by simpa using ho.length_eq
  exact lsort_known (κ:=κ) (out:=(o.map fun i=>vs.getD i .none).toArray) hoL (by omega) (by omega) (by simp [lo];omega) (fun s' k=>⟨fun Q' hq=>hk (by omega) s' k Q' hq,runs_vals (by omega) h64 inj ho ha (hcmp s' k)⟩) h
theorem sorted_vals {l:Addr}{vs:List Value}{κ:SortKind}{K:Nat→Nat}{o:List Nat}{Q:Value→Shared→Prop}(hl:s.heap.IsList l vs.toArray∨IsTup s.heap l vs.toArray)(h64:vs.length≤64)
  (inj:∀ i j,i<vs.length→j<vs.length→K i=K j→i=j)(ho:o.Perm (List.range vs.length)) (ha:Asc K o)
  (hk:2≤vs.length→∀ s':Shared,(∀ b o,s.heap.get? b=some o→s'.heap.get? b=some o)→∀(Q:SortKind→Shared→Prop),Q κ s'→wpAny (model prog w) A.in1.in1 (keyKind' vs.toArray) Q E s')
  (hcmp:∀ s':Shared,(∀ b o,s.heap.get? b=some o→s'.heap.get? b=some o)→∀(i j:Nat)(E:Value→Shared→Prop)(C:Bool→Shared→Prop),i<vs.length→j<vs.length→C (decide (K i<K j)) s'→wpAny (model prog w) A.in1.in1 (keyLt' κ (vs.getD i .none) (vs.getD j .none)) C E s')
  (h:∀(D:Addr) (e:Nat)(h':Heap),s.heap.objs.size≤D→h'.get? D=some (seqObj "list" (o.map fun i=>vs.getD i .none).toArray e)→(∀ b o,s.heap.get? b=some o→h'.get? b=some o)→Q (.ref D) {s with heap:=h'}) :
  wpAny (model prog w) A (call (.builtin "sorted") [.ref l]) Q E s:=by
 refine Calls.call_function_entry kind_sorted plain_sorted entry_sorted (args_sorted1 _) ?_
 unfold Builtin.«sorted»
 refine wpAny_bind (m:=checkCount "sorted" 1 1 _) (wpAny_pure ?_)
 have go:∀{R:List Value→Shared→Prop},R vs {s with heap:=(s.heap.push (seqObj "list" #[] 0)).update s.heap.objs.size (Obj.mapSeq (·++vs.toArray))}→wpAny (model prog w) A.in1 (collect (.ref l)) R E s:=fun{R} hR=>by
  rcases hl with hl|hl
  ·exact collect_list hl hR (by rw[sizeLine_eq];omega)
  ·exact collect_tup hl hR (by rw[sizeLine_eq];omega)
 refine wpAny_bind (go ?_)
 refine wpAny_bind (wpAny_newList ?_ (by rw[sizeLine_eq];omega))
 generalize hH1:(s.heap.push (seqObj "list" #[] 0)).update s.heap.objs.size (Obj.mapSeq (·++vs.toArray))=H1
 have hz1:H1.objs.size=s.heap.objs.size+1:=by rw[← hH1,Heap.size_update,size_push']
 have kp:∀ b o,s.heap.get? b=some o→H1.get? b=some o:=fun b o e=>by
  have hb:=Heap.lt_size e
  rw[← hH1,Heap.get?_update_ne _ _ _ _ (Nat.ne_of_lt hb)]
  exact Heap.get?_push_of_some _ e
 have hoL:(H1.push (seqObj "list" vs.toArray 0)).get? H1.objs.size=some (seqObj "list" vs.toArray 0):=Heap.get?_push_size _ rfl
 show wpAny _ _ _ _ _ {s with heap:=H1.push (seqObj "list" vs.toArray 0)}
 have kk:∀ s':Shared,(∀ b o,b≠H1.objs.size→(H1.push (seqObj "list" vs.toArray 0)).get? b=some o→s'.heap.get? b=some o)→∀ b o,s.heap.get? b=some o→s'.heap.get? b=some o:=fun s' k b o e=>by
  have hb:=Heap.lt_size e
  exact k b o (by rw[hz1];exact Nat.ne_of_lt (Nat.lt_succ_of_lt hb)) (Heap.get?_push_of_some _ (kp b o e))
 refine wpAny_bind (wpAny_holding (wpAny_call_entry slot_list_sort ⟨_,hoL,rfl⟩ entry_list_sort (lsort_vals (κ:=κ) hoL h64 inj ho ha (fun h2 s' k=>hk h2 s' (kk s' k)) (fun s' k=>hcmp s' (kk s' k)) ⟨_,rfl,?_⟩) (args_list_sort _)))
 obtain⟨e,he⟩:=sortedHeap_at (out:=(o.map fun i=>vs.getD i .none).toArray) hoL
 refine wpAny_pure ⟨_,rfl,h H1.objs.size e _ (by rw[hz1];exact Nat.le_succ _) he fun b o q=>?_⟩
 have hb:=Heap.lt_size q
 rw[sortedHeap_old (by rw[hz1];exact Nat.ne_of_lt (Nat.lt_succ_of_lt hb)) (by rw[size_push',hz1];exact Nat.lt_succ_of_lt (Nat.lt_succ_of_lt hb))]
 exact Heap.get?_push_of_some _ (kp b o q)
end
end SR
namespace TL
open PySem PyProof.Rows PySem.W L2 SeqAt SR
theorem ord_map {α:Type}{d:α}{xs:List α}{kf:α→Nat}{o:List Nat}{S:List α}(ho:o.Perm (List.range xs.length)) (ha:Asc (fun i=>kf (xs.getD i d)) o) (hS:S.Pairwise fun a b=>kf a<kf b)(hm:∀ x,x∈S↔x∈xs):o.map (fun i=>xs.getD i d)=S:=by
 refine sorted_uniq (R:=fun a b=>kf a<kf b) (fun a b h1 h2=>by omega) (List.pairwise_map.mpr ha) hS fun x=>?_
 rw[hm,List.mem_map]
 constructor
 ·rintro⟨i,hi,rfl⟩
  have hi:=List.mem_range.mp (ho.mem_iff.mp hi)
  simp [List.getD,hi]
 ·intro hx
  obtain⟨i,hi,e⟩:=List.getElem_of_mem hx
  exact⟨i,ho.mem_iff.mpr (List.mem_range.mpr hi),by simp [List.getD,hi,e]⟩
theorem key_inj {α:Type}{d:α}{xs:List α}{kf:α→Nat}(hnd:xs.Nodup)(hk:∀ a∈xs,∀ b∈xs,kf a=kf b→a=b):∀ i j,i<xs.length→j<xs.length→kf (xs.getD i d)=kf (xs.getD j d)→i=j:=fun i j hi hj e=>by
 have e1:xs.getD i d=xs[i]:=by simp [List.getD,hi]
 have e2:xs.getD j d=xs[j]:=by simp [List.getD,hj]
 rw[e1,e2] at e
 exact nd_at hnd hi hj (hk _ (List.getElem_mem _) _ (List.getElem_mem _) e)
theorem sortR_up (rs:List (List Nat)):(sortR rs).Pairwise fun a b=>rk a<rk b:=by
 unfold sortR
 refine List.Pairwise.imp_of_mem (fun{a b} ha hb h=>?_) (List.Pairwise.filter _ lex_sorted)
 rw[rk_lt (lex_subs _ (List.mem_filter.mp ha).1) (lex_subs _ (List.mem_filter.mp hb).1)] at h
 exact of_decide_eq_true h
theorem sortR_mem {rs:List (List Nat)}(h6:∀ r∈rs,r∈subs6)(x:List Nat):x∈sortR rs↔x∈rs:=by
 rw[sortR,List.mem_filter]
 exact⟨fun q=>by simpa using q.2,fun q=>⟨lex_all _ (h6 _ q),by simpa using q⟩⟩
theorem rk_64 {x:List Nat}(hx:x∈subs6):rk x<64:=List.idxOf_lt_length_of_mem (lex_all x hx)
noncomputable abbrev PR:=List Nat×List Nat
noncomputable def kpR (x:PR):Nat:=rk x.1 * 64+rk x.2
noncomputable def in6 (x:PR):Prop:=x.1∈subs6∧x.2∈subs6
theorem kp_inj {x y:PR}(hx:in6 x)(hy:in6 y)(h:kpR x=kpR y):x=y:=by
 have a1:=rk_64 hx.2
 have a2:=rk_64 hy.2
 unfold kpR at h
 have e1:rk x.1=rk y.1:=by omega
 have e2:rk x.2=rk y.2:=by omega
 exact Prod.ext (rk_inj hx.1 hy.1 e1) (rk_inj hx.2 hy.2 e2)
noncomputable def sortP2 (ps:List PR):List PR:=ps.mergeSort fun a b=>decide (kpR a≤kpR b)
theorem sortP2_mem (ps:List PR)(x:PR):x∈sortP2 ps↔x∈ps:=(List.mergeSort_perm _ _).mem_iff
theorem sortP2_up {ps:List PR}(hnd:ps.Nodup)(h6:∀ x∈ps,in6 x):(sortP2 ps).Pairwise fun a b=>kpR a<kpR b:=by
 have h1:=List.pairwise_mergeSort (le:=fun a b:PR=>decide (kpR a≤kpR b)) (by intro a b c;simp;omega) (by intro a b;simp;omega) ps
 have pm:=List.mergeSort_perm ps (fun a b=>decide (kpR a≤kpR b))
 refine List.Pairwise.imp_of_mem (fun{a b} ha hb q=>?_) (List.pairwise_and_iff.mpr ⟨h1,pm.nodup_iff.mpr hnd⟩)
 have q1:kpR a≤kpR b:=by simpa using q.1
 have q2:kpR a≠kpR b:=fun e=>q.2 (kp_inj (h6 _ (pm.mem_iff.mp ha)) (h6 _ (pm.mem_iff.mp hb)) e)
 omega
theorem sortP2_congr {a b:List PR}(ha:a.Nodup)(hb:b.Nodup)(ha6:∀ x∈a,in6 x)(h:∀ x,x∈a↔x∈b):sortP2 a=sortP2 b :=
 sorted_uniq (R:=fun a b=>kpR a<kpR b) (fun a b h1 h2=>by omega) (sortP2_up ha ha6) (sortP2_up hb fun x hx=>ha6 x ((h x).mpr hx)) fun x=>by rw[sortP2_mem,sortP2_mem,h]
noncomputable def PrAt (h:Heap)(v:Value)(x:PR):Prop :=
 ∃(a:Addr)(o:Obj) (n:Nat)(r1 r2:Addr)(i1 i2:List Value),v=.ref a∧h.get? a=some o∧o.cls=.type "tuple"∧o.data=.seq #[.ref r1,.ref r2] n∧IsTup h r1 i1.toArray∧IntsAre i1 (asInts x.1)∧IsTup h r2 i2.toArray∧IntsAre i2 (asInts x.2)
theorem PrAt.keep {h h':Heap}{v:Value}{x:PR}(k:∀ b o,h.get? b=some o→h'.get? b=some o)(p:PrAt h v x):PrAt h' v x:=by
 obtain⟨a,o,n,r1,r2,i1,i2,e1,e2,e3,e4,e5,e6,e7,e8⟩:=p
 exact⟨a,o,n,r1,r2,i1,i2,e1,k _ _ e2,e3,e4,tup_keep k e5,e6,tup_keep k e7,e8⟩
noncomputable def PrsAt (h:Heap)(vs:List Value)(ps:List PR):Prop:=vs.length=ps.length∧∀(i:Nat)(v:Value)(x:PR),vs[i]?=some v→ps[i]?=some x→PrAt h v x
section
variable {prog:Program}{w:World}{A:Around}{E:Value→Shared→Prop}{s:Shared}
theorem pr_lt {v u:Value}{x y:PR}{Q:Bool→Shared→Prop}(hv:PrAt s.heap v x)(hu:PrAt s.heap u y)(h6:in6 x)(h6':in6 y)(hA:A.units<cLine)(h:Q (decide (kpR x<kpR y)) s):wpAny (model prog w) A (keyLt' (tuples' false) v u) Q E s:=by
 obtain⟨a,o,n,r1,r2,i1,i2,rfl,e2,e3,e4,e5,e6,e7,e8⟩:=hv
 obtain⟨a',o',n',r1',r2',i1',i2',rfl,f2,f3,f4,f5,f6,f7,f8⟩:=hu
 refine kat_lt e2 e4 f2 f4 ?_
 have b1:=rk_64 h6.2
 have b2:=rk_64 h6'.2
 refine kat_cons (eq_tup e5 f5 e6 f6 hA prog w _ _ ?_)
 by_cases h1:x.1=y.1
 ·rw[show decide (x.1=y.1)=true by simp [h1]]
  refine kat_yes (kat_cons (eq_tup e7 f7 e8 f8 hA prog w _ _ ?_))
  by_cases h2:x.2=y.2
  ·rw[show decide (x.2=y.2)=true by simp [h2]]
   have:decide (kpR x<kpR y)=false:=by unfold kpR;rw[h1,h2];simp
   rw[this] at h
   exact kat_yes (kat_nil h)
  ·rw[show decide (x.2=y.2)=false by simp [h2]]
   refine kat_no ?_
   refine kat_one _ _ ?_
   refine tup_lt e7 f7 e8 f8 hA ?_
   have:decide (kpR x<kpR y)=lexN x.2 y.2:=by
    rw[rk_lt h6.2 h6'.2,decide_eq_decide]
    unfold kpR;rw[h1];omega
   rw[this] at h
   exact h
 ·rw[show decide (x.1=y.1)=false by simp [h1]]
  refine kat_no ?_
  refine kat_one _ _ ?_
  refine tup_lt e5 f5 e6 f6 hA ?_
  have:decide (kpR x<kpR y)=lexN x.1 y.1:=by
   rw[rk_lt h6.1 h6'.1,decide_eq_decide]
   have:rk x.1≠rk y.1:=fun e=>h1 (rk_inj h6.1 h6'.1 e)
   unfold kpR;omega
  rw[this] at h
  exact h
theorem pr_tups {h:Heap}:∀{its:List Value},(∀ u∈its,∃ x,PrAt h u x)→∃ fs,KatTups h its fs∧fs.length=its.length∧∀ f∈fs,∃(r:Addr)(i:Array Value),f=.ref r∧IsTup h r i
 | [],_=>⟨[],.nil,rfl,fun f hf=>nomatch hf⟩
 | u::its,hp=>by
   obtain⟨fs,h1,h2,h3⟩:=pr_tups fun v hv=>hp v (List.mem_cons_of_mem _ hv)
   obtain⟨x,a,o,n,r1,r2,i1,i2,rfl,e2,e3,e4,e5,_⟩:=hp u List.mem_cons_self
   refine⟨.ref r1::fs,.cons e2 e3 e4 rfl h1,by simp [h2],fun f hf=>?_⟩
   rcases List.mem_cons.mp hf with rfl|hf
   ·exact⟨_,_,rfl,e5⟩
   ·exact h3 f hf
theorem pr_kind {vs:List Value}{ps:List PR}(h1:1≤vs.length)(x:PrsAt s.heap vs ps){Q:SortKind→Shared→Prop}(h:Q (tuples' false) s):wpAny (model prog w) A (keyKind' vs.toArray) Q E s:=by
 obtain⟨fs,t1,t2,t3⟩:=pr_tups (h:=s.heap) (its:=vs) fun u hu=>by
  obtain⟨i,hi,rfl⟩:=List.getElem_of_mem hu
  have hi':i<ps.length:=by rw[← x.1];exact hi
  exact⟨_,x.2 i _ _ (List.getElem?_eq_getElem hi) (List.getElem?_eq_getElem hi')⟩
 refine kat_kind (T:=.type "tuple") t1 (by omega) (fun v hv=>?_) (by rfl) h
 obtain⟨r,i,rfl,o,e1,e2,_⟩:=t3 v hv
 exact fun A Q E s' k q=>wpAny_typeOf (T:="tuple") ⟨o,k _ _ e1,e2⟩ q
end
section
variable {X:Cx}{z:Z}{e:Expr}{f:FE}{p pos:Pos}
theorem sort_core (hK:z.K=X.K)(hg:Gl X "sorted")(hm:X.mg "sorted"=none)(h:ER X z e f)(hs:starEach [e] X.env=[(false,eval e X.env)]) {pins:List (Addr×Obj)}{s:Shared}{σ:L2.St}{H:Hp}{Q:VK}(I:Inv X pins σ H s){ρ:Rho}{Hq:Hp}{ts:List T}(r:Rn z σ ρ Hq H)
  (et:f ρ=some (.tup ts)∨f ρ=some (.lst ts)) {K:Nat→Nat}{o:List Nat}{κ:SortKind}(h64:ts.length≤64)(inj:∀ i j,i<ts.length→j<ts.length→K i=K j→i=j)(ho:o.Perm (List.range ts.length)) (ha:Asc K o)
  (G:Heap→List Value→Prop)(hG:∀{s1:Shared}{H1 Hq1:Hp}{ws:List V}{its:List Value},Inv X pins σ H1 s1→Same Hq1 H1→RepL X.K Hq1 ts ws→Vals ws its→G s1.heap its) (kpR:∀ h h' its,(∀ b o,h.get? b=some o→h'.get? b=some o)→G h its→G h' its)
  (hk:∀(s':Shared)(its:List Value)(Q:SortKind→Shared→Prop)(E:Value→Shared→Prop),2≤its.length→G s'.heap its→Q κ s'→wpAny (model X.prog X.w) X.A.in1.in1 (keyKind' its.toArray) Q E s')
  (hc:∀(s':Shared)(its:List Value) (i j:Nat)(E:Value→Shared→Prop)(C:Bool→Shared→Prop),G s'.heap its→its.length=ts.length→i<its.length→j<its.length→C (decide (K i<K j)) s'→wpAny (model X.prog X.w) X.A.in1.in1 (keyLt' κ (its.getD i .none) (its.getD j .none)) C E s')
  (k:∀ D vs Hq' H',Ex Hq H Hq' H'→H' D=none→RepL z.K Hq' (o.map fun i=>ts.getD i .non) vs→Q (.ref D) (upd H' D (.lst vs))) :
  wpAny (model X.prog X.w) X.A (eval (.Call (.Name "sorted" p) [e] [] pos) X.env) (EP X pins σ Q) X.xe s:=by
 refine wpAny_Call_Name_kw (ld_blt I hg hm boot_sorted ?_)
 have fin:∀{s1:Shared}{H1 Hq1:Hp}{l:Addr}{ws:List V}{its:List Value},Inv X pins σ H1 s1→Ex Hq H Hq1 H1→RepL X.K Hq1 ts ws→Vals ws its→s1.heap.IsList l its.toArray∨IsTup s1.heap l its.toArray →
   wpAny (model X.prog X.w) X.A (call (.builtin "sorted") [.ref l]) (EP X pins σ Q) X.xe s1:=fun{s1 H1 Hq1 l ws its} I1 x1 q3 v1 hl=>by
  have lits:its.length=ts.length:=by rw[← v1.length,← q3.length]
  have g:=hG I1 x1.sub q3 v1
  rw[← lits] at h64 inj ho
  refine sorted_vals (κ:=κ) hl h64 inj ho ha (fun h2 s' kk Q' hq=>hk s' its Q' _ h2 (kpR _ _ _ kk g) hq) (fun s' kk i j E C hi hj hC=>hc s' its i j E C (kpR _ _ _ kk g) lits hi hj hC) fun D ep h' hD hoD kpD=>?_
  have lt:∀ i∈o,i<its.length:=fun i hi=>List.mem_range.mp (ho.mem_iff.mp hi)
  have at_:∀ i,i<its.length→∃ v u,ws[i]?=some v∧its[i]?=some u∧RelV v u∧Rep X.K Hq1 (ts.getD i .non) v:=fun i hi=>by
   have ht:i<ts.length:=by omega
   obtain⟨v,h1,h2⟩:=q3.get (List.getElem?_eq_getElem ht)
   obtain⟨u,h3,h4⟩:=v1.get h1
   exact⟨v,u,h1,h3,h4,by simpa [List.getD,ht] using h2⟩
  have hv:Vals (o.map fun i=>ws.getD i .non) (o.map fun i=>its.getD i .none):=vals_maps _ fun i hi=>by
   obtain⟨v,u,h1,h2,h3,h4⟩:=at_ i (lt i hi)
   simp only[List.getD,h1,h2,Option.getD_some]
   exact h3
  have hr:RepL z.K Hq1 (o.map fun i=>ts.getD i .non) (o.map fun i=>ws.getD i .non):=by
   rw[hK]
   refine repL_maps _ fun i hi=>?_
   obtain⟨v,u,h1,h2,h3,h4⟩:=at_ i (lt i hi)
   have:ws.getD i .non=v:=by simp only[List.getD,h1,Option.getD_some]
   rw[this]
   exact h4
  have hH:H1 D=none:=I1.hok.fresh hD
  refine⟨.ref D,upd H1 D (.lst (o.map fun i=>ws.getD i .non)),I1.laid (t':=s1.toks) kpD hD ⟨?_,_,ep,hv,hoD⟩,rfl,k D _ Hq1 H1 x1 hH hr⟩
  have:o.length=its.length:=by simpa using ho.length_eq
  rw[List.length_map,this,sizeLine_eq];omega
 rcases et with et|et
 ·refine PyProof.Rows.callWith_builtin1 (thn (ea_r1 h hs pos pins s σ H (fun vs H1=>∃ v Hq1,vs=[v]∧Ex Hq H Hq1 H1∧RepR z.K Hq1 H1 (.tup ts) v) I ⟨ρ,Hq,_,r,et,fun v Hq' H' x q=>⟨v,Hq',rfl,x,q⟩⟩) fun us s1 ⟨vs,H1,I1,r1,v,Hq1,ev,x1,q1⟩=>?_) hs rfl
  subst ev
  obtain⟨l,ws,rfl,q2,q3⟩:=q1.tup x1.sub
  cases r1 with
  | cons r1 rr =>
    cases rr
    cases r1
    rw[hK] at q2 q3
    obtain⟨its,v1,p1,_⟩:=I1.tuple q2
    exact fin I1 x1 q3 v1 (.inr p1)
 ·refine PyProof.Rows.callWith_builtin1 (thn (ea_r1 h hs pos pins s σ H (fun vs H1=>∃ v Hq1,vs=[v]∧Ex Hq H Hq1 H1∧RepR z.K Hq1 H1 (.lst ts) v) I ⟨ρ,Hq,_,r,et,fun v Hq' H' x q=>⟨v,Hq',rfl,x,q⟩⟩) fun us s1 ⟨vs,H1,I1,r1,v,Hq1,ev,x1,q1⟩=>?_) hs rfl
  subst ev
  obtain⟨l,ws,rfl,q2,q3⟩:=q1.lst x1.sub
  cases r1 with
  | cons r1 rr =>
    cases rr
    cases r1
    rw[hK] at q2 q3
    obtain⟨its,v1,p1,_⟩:=I1.list q2
    exact fin I1 x1 q3 v1 (.inl p1.isList)
end
end TL
namespace TL
open PySem PyProof.Rows PySem.W L2 SeqAt SR
theorem rowsT_eq {ts:List T}{rs:List (List Nat)}(h:rowsT ts=some rs):ts=rs.map rowT∧∀ r∈rs,r∈subs6:=by
 obtain⟨l1,l6,lat⟩:=rowsT_at h
 refine⟨List.ext_getElem (by simp [l1]) fun i h1 h2=>?_,l6⟩
 rw[List.getElem_map]
 exact unN_eq (lat i _ _ (List.getElem?_eq_getElem h1) (List.getElem?_eq_getElem (by omega)))
noncomputable def srtR (ts:List T):Option (List T):=match rowsT ts with
 | some rs=>if rs.length≤64∧rs.Nodup then some ((sortR rs).map rowT) else none
 | none=>none
noncomputable def fSortR (f:FE):FA:=fun ρ=>match f ρ with
 | some (.tup ts)=>srtR ts
 | some (.lst ts)=>srtR ts
 | _=>none
noncomputable def prT (x:PR):T:=.tup [rowT x.1,rowT x.2]
noncomputable def unPr:T→Option PR
 | .tup [a,b]=>match unN a,unN b with
   | some r,some q=>if r∈subs6∧q∈subs6 then some (r,q) else none
   | _,_=>none
 | _=>none
theorem unPr_eq {t:T}{x:PR}(h:unPr t=some x):t=prT x∧in6 x:=by
 unfold unPr at h
 split at h
 ·split at h
  ·rename_i e1 e2
   split at h
   ·rename_i h6
    cases h
    exact⟨by rw[unN_eq e1,unN_eq e2];rfl,h6⟩
   ·cases h
  ·cases h
 ·cases h
noncomputable def prsT:List T→Option (List PR)
 | []=>some []
 | t::ts=>match unPr t with
   | some x=>(prsT ts).map (x::·)
   | none=>none
theorem prsT_eq:∀{ts:List T}{ps:List PR},prsT ts=some ps→ts=ps.map prT∧∀ x∈ps,in6 x
 | [],ps,h=>by cases h;exact⟨rfl,fun x hx=>nomatch hx⟩
 | t::ts,ps,h=>by
   unfold prsT at h
   split at h
   ·rename_i x e
    obtain⟨ps',e1,rfl⟩:=Option.map_eq_some_iff.mp h
    obtain⟨a1,a2⟩:=prsT_eq e1
    obtain⟨b1,b2⟩:=unPr_eq e
    refine⟨by rw[a1,b1];rfl,fun y hy=>?_⟩
    rcases List.mem_cons.mp hy with rfl|hy
    ·exact b2
    ·exact a2 y hy
   ·cases h
noncomputable def srtP (ts:List T):Option (List T):=match prsT ts with
 | some ps=>if ps.length≤64∧ps.Nodup then some ((sortP2 ps).map prT) else none
 | none=>none
noncomputable def fSortPr (f:FE):FA:=fun ρ=>match f ρ with
 | some (.tup ts)=>srtP ts
 | some (.lst ts)=>srtP ts
 | _=>none
section
variable {X:Cx}{z:Z}{e:Expr}{f:FE}{p pos:Pos}
theorem rowV_at {pins:List (Addr×Obj)}{σ:L2.St}{H Hq:Hp}{s:Shared}(I:Inv X pins σ H s)(sb:Same Hq H){r:List Nat}{v:V}{u:Value}(h:Rep X.K Hq (rowT r) v) (q:RelV v u):TupR s.heap u r:=by
 have hun:unN (rowT r)=some r:=by
  show unR (r.map fun(i:Nat)=>T.int (i:Int))=some r
  clear h
  induction r with
  | nil=>rfl
  | cons n q ih=>simp only[List.map_cons,unR];rw[if_pos (by omega),ih];simp
 obtain⟨a,rfl,hs⟩:=unN_rep hun h
 cases q
 exact tupR_of (key_at I (sqT_mono sb hs))
theorem ef_sortR (hK:z.K=X.K)(hu:X.A.units+64<cLine)(hm:X.mg "sorted"=none)(h:ER X z e f)(hg:Gl X "sorted":=by rfl)(hs:starEach [e] X.env=[(false,eval e X.env)]:=by rfl):EF X z (.Call (.Name "sorted" p) [e] [] pos) (fSortR f):=by
 intro pins s σ H Q I ⟨ρ,Hq,us,r,e0,k⟩
 have key:∃ ts,(f ρ=some (.tup ts)∨f ρ=some (.lst ts))∧srtR ts=some us:=by
  unfold fSortR at e0
  split at e0
  ·rename_i ts et;exact⟨ts,.inl et,e0⟩
  ·rename_i ts et;exact⟨ts,.inr et,e0⟩
  ·cases e0
 obtain⟨ts,et,e1⟩:=key
 unfold srtR at e1
 split at e1
 ·rename_i rs er
  split at e1
  ·rename_i hb
   obtain⟨h64,hnd⟩:=hb
   cases e1
   obtain⟨rfl,h6⟩:=rowsT_eq er
   have inj:=key_inj (d:=[]) (kf:=rk) hnd fun a ha b hb e=>rk_inj (h6 _ ha) (h6 _ hb) e
   obtain⟨o,ho,ha⟩:=ord_ex _ _ inj
   have lm:(rs.map rowT).length=rs.length:=List.length_map _
   refine sort_core hK hg hm h hs I r et (κ:=rowsK rs) (K:=fun i=>rk (rs.getD i [])) (o:=o) (by rw[lm];exact h64) (by rw[lm];exact inj) (by rw[lm];exact ho) ha (fun hp its=>TupRs hp its rs) ?_ ?_ ?_ ?_ ?_
   ·intro s1 H1 Hq1 ws its I1 sb q3 v1
    refine⟨by rw[← v1.length,← q3.length,lm],fun i v r' h1 h2=>?_⟩
    obtain⟨y,g1,g2⟩:=q3.get (show(rs.map rowT)[i]?=some (rowT r') by rw[List.getElem?_map,h2];rfl)
    obtain⟨u,g3,g4⟩:=v1.get g1
    rw[h1] at g3
    cases g3
    exact rowV_at I1 sb g2 g4
   ·exact fun h h' its kk x=>x.keep kk
   ·exact fun s' its Q E h2 g hq=>row_kind (by omega) g hq
   ·intro s' its i j E C g lits hi hj hC
    rw[getD_val hi,getD_val hj]
    have hi':i<rs.length:=by omega
    have hj':j<rs.length:=by omega
    refine row_lt (rowsK_ok rs) (g.2 i _ _ (List.getElem?_eq_getElem hi) (List.getElem?_eq_getElem hi')) (g.2 j _ _ (List.getElem?_eq_getElem hj) (List.getElem?_eq_getElem hj')) (by show X.A.units+1+1<cLine;omega) ?_
    rw[rk_lt (h6 _ (List.getElem_mem _)) (h6 _ (List.getElem_mem _))]
    rw[getD_at hi',getD_at hj'] at hC
    exact hC
   ·intro D vs Hq' H' x hn hr
    refine k D vs Hq' H' x hn ?_
    have:(o.map fun i=>(rs.map rowT).getD i .non)=(sortR rs).map rowT:=by
     rw[← ord_map (d:=[]) (kf:=rk) ho ha (sortR_up rs) (sortR_mem h6),List.map_map]
     refine List.map_congr_left fun i hi=>?_
     have hi:=List.mem_range.mp (ho.mem_iff.mp hi)
     simp [List.getD,hi]
    rw[this] at hr
    exact hr
  ·cases e1
 ·cases e1
theorem ef_sortPr (hK:z.K=X.K)(hu:X.A.units+64<cLine)(hm:X.mg "sorted"=none)(h:ER X z e f)(hg:Gl X "sorted":=by rfl)(hs:starEach [e] X.env=[(false,eval e X.env)]:=by rfl):EF X z (.Call (.Name "sorted" p) [e] [] pos) (fSortPr f):=by
 intro pins s σ H Q I ⟨ρ,Hq,us,r,e0,k⟩
 have key:∃ ts,(f ρ=some (.tup ts)∨f ρ=some (.lst ts))∧srtP ts=some us:=by
  unfold fSortPr at e0
  split at e0
  ·rename_i ts et;exact⟨ts,.inl et,e0⟩
  ·rename_i ts et;exact⟨ts,.inr et,e0⟩
  ·cases e0
 obtain⟨ts,et,e1⟩:=key
 unfold srtP at e1
 split at e1
 ·rename_i ps er
  split at e1
  ·rename_i hb
   obtain⟨h64,hnd⟩:=hb
   cases e1
   obtain⟨rfl,h6⟩:=prsT_eq er
   have inj:=key_inj (d:=([],[])) (kf:=kpR) hnd fun a ha b hb e=>kp_inj (h6 _ ha) (h6 _ hb) e
   obtain⟨o,ho,ha⟩:=ord_ex _ _ inj
   have lm:(ps.map prT).length=ps.length:=List.length_map _
   refine sort_core hK hg hm h hs I r et (κ:=tuples' false) (K:=fun i=>kpR (ps.getD i ([],[]))) (o:=o) (by rw[lm];exact h64) (by rw[lm];exact inj) (by rw[lm];exact ho) ha (fun hp its=>PrsAt hp its ps) ?_ ?_ ?_ ?_ ?_
   ·intro s1 H1 Hq1 ws its I1 sb q3 v1
    refine⟨by rw[← v1.length,← q3.length,lm],fun i v x h1 h2=>?_⟩
    obtain⟨y,g1,g2⟩:=q3.get (show(ps.map prT)[i]?=some (prT x) by rw[List.getElem?_map,h2];rfl)
    obtain⟨u,g3,g4⟩:=v1.get g1
    rw[h1] at g3
    cases g3
    unfold prT Rep at g2
    obtain⟨a,vs,rfl,k1,k2⟩:=g2
    unfold RepL at k2
    obtain⟨v1,r1,rfl,m1,k3⟩:=k2
    unfold RepL at k3
    obtain⟨v2,r2,rfl,m2,k4⟩:=k3
    unfold RepL at k4
    subst k4
    obtain⟨its',z1,⟨ob,c1,c2,n,c3⟩,_⟩:=I1.tuple (sqT_mono sb k1)
    cases g4
    cases z1 with
    | cons q1 q2 =>
      cases q2 with
      | cons q3 q4 =>
        cases q4
        obtain⟨b1,i1,rfl,t1,j1⟩:=rowV_at I1 sb m1 q1
        obtain⟨b2,i2,rfl,t2,j2⟩:=rowV_at I1 sb m2 q3
        exact⟨a,ob,n,b1,b2,i1,i2,rfl,c1,c2,c3,t1,j1,t2,j2⟩
   ·exact fun h h' its kk x=>⟨x.1,fun i v y h1 h2=>(x.2 i v y h1 h2).keep kk⟩
   ·exact fun s' its Q E h2 g hq=>pr_kind (by omega) g hq
   ·intro s' its i j E C g lits hi hj hC
    rw[getD_val hi,getD_val hj]
    have hi':i<ps.length:=by omega
    have hj':j<ps.length:=by omega
    refine pr_lt (g.2 i _ _ (List.getElem?_eq_getElem hi) (List.getElem?_eq_getElem hi')) (g.2 j _ _ (List.getElem?_eq_getElem hj) (List.getElem?_eq_getElem hj')) (h6 _ (List.getElem_mem _)) (h6 _ (List.getElem_mem _)) (by show X.A.units+1+1<cLine;omega) ?_
    simpa [List.getD,hi',hj'] using hC
   ·intro D vs Hq' H' x hn hr
    refine k D vs Hq' H' x hn ?_
    have:(o.map fun i=>(ps.map prT).getD i .non)=(sortP2 ps).map prT:=by
     rw[← ord_map (d:=([],[])) (kf:=kpR) ho ha (sortP2_up hnd h6) (sortP2_mem ps),List.map_map]
     refine List.map_congr_left fun i hi=>?_
     have hi:=List.mem_range.mp (ho.mem_iff.mp hi)
     simp [List.getD,hi]
    rw[this] at hr
    exact hr
  ·cases e1
 ·cases e1
end
end TL
namespace TL
open PySem PyProof.Rows PySem.W L2 SeqAt SR
section
variable {prog:Program}{w:World}{A:Around}{E:Value→Shared→Prop}{s:Shared}
theorem lsort_rows64 {a:Addr}{vs:List Value}{rs:List (List Nat)}{n:Nat}{P:PySem.Fin→Shared→Prop}{R:Value→List Nat→Prop}(hR:∀(i:Nat)(v:Value)(r:List Nat),vs[i]?=some v→rs[i]?=some r→R v r) (ho:s.heap.get? a=some (seqObj "list" vs.toArray n)) (x:TupRs s.heap vs rs)(hnd:rs.Nodup)(h6:∀ r∈rs,r∈subs6)(h64:vs.length≤64)(hA:A.units<cLine)
  (h:∀ out:List Value,out.length=(sortR rs).length→(∀(i:Nat)(v:Value)(r:List Nat),out[i]?=some v→(sortR rs)[i]?=some r→R v r)→P (.done (.ret .none)) {s with heap:=sortedHeap s.heap a vs out.toArray}):wpAny (model prog w) A (Builtin.«list.sort» ⟨[.ref a],[]⟩) P E s:=by
 have hl:=x.1
 have notA:∀(i:Nat)(v:Value)(r:List Nat),vs[i]?=some v→rs[i]?=some r→v≠.ref a:=fun i v r q1 q2 e=>by
  obtain⟨b,its,rfl,⟨o,e1,e2,_⟩,_⟩:=x.2 i v r q1 q2
  cases e
  rw[ho] at e1
  cases e1
  simp [seqObj] at e2
 have tup:∀(h':Heap),(∀ b o,b≠a→s.heap.get? b=some o→h'.get? b=some o)→TupRs h' vs rs:=fun h' kp=>⟨hl,fun i v r q1 q2=>by
  have na:=notA i v r q1 q2
  obtain⟨b,its,rfl,⟨o,e1,e2⟩,ii⟩:=x.2 i v r q1 q2
  exact⟨b,its,rfl,⟨o,kp b o (fun z=>na (by rw[z])) e1,e2⟩,ii⟩⟩
 have inj:=key_inj (d:=[]) (kf:=rk) hnd fun a ha b hb e=>rk_inj (h6 _ ha) (h6 _ hb) e
 obtain⟨o,hp,ha⟩:=ord_ex _ _ inj
 have om:=ord_map (d:=[]) (kf:=rk) hp ha (sortR_up rs) (sortR_mem h6)
 refine lsort_vals (κ:=rowsK rs) (K:=fun i=>rk (rs.getD i [])) (o:=o) ho h64 (by rw[hl];exact inj) (by rw[hl];exact hp) ha (fun h2 s' kk Q hq=>row_kind (by omega) (tup _ kk) hq) (fun s' kk i j E C hi hj hC=>?_) (h _ ?_ fun i v r q1 q2=>?_)
 ·have g:=tup _ kk
  rw[getD_val hi,getD_val hj]
  have hi':i<rs.length:=by omega
  have hj':j<rs.length:=by omega
  refine row_lt (rowsK_ok rs) (g.2 i _ _ (List.getElem?_eq_getElem hi) (List.getElem?_eq_getElem hi')) (g.2 j _ _ (List.getElem?_eq_getElem hj) (List.getElem?_eq_getElem hj')) hA ?_
  rw[rk_lt (h6 _ (List.getElem_mem _)) (h6 _ (List.getElem_mem _))]
  rw[getD_at hi',getD_at hj'] at hC
  exact hC
 ·rw[← om];simp
 ·rw[← om,List.getElem?_map] at q2
  rw[List.getElem?_map] at q1
  obtain⟨k,e1,e2⟩:=Option.map_eq_some_iff.mp q1
  rw[e1] at q2
  cases q2
  subst e2
  have hk:k<rs.length:=List.mem_range.mp (hp.mem_iff.mp (List.mem_of_getElem? e1))
  have hk':k<vs.length:=by omega
  show R (vs.getD k .none) (rs.getD k [])
  rw[getD_val hk',getD_at hk]
  exact hR _ _ _ (List.getElem?_eq_getElem _) (List.getElem?_eq_getElem _)
theorem sorted_srow64 {S:Addr}{Gd:Addr→List Nat→Prop}{L:List (Nat×List Nat)}{Q:Value→Shared→Prop}(hh:A.handled=none)(hu:A.units+8<cLine)(hS:SRow prog w Gd s.heap S (!byT w) L) (hl:L.length≤64)
  (h:∀(D:Addr)(out:List Value) (n:Nat)(h':Heap) (tk:Nat),s.heap.objs.size≤D→out.length=(sortR (L.map (·.2))).length→(∀(i:Nat)(v:Value)(r:List Nat),out[i]?=some v→(sortR (L.map (·.2)))[i]?=some r→∃ b,v=.ref b∧Gd b r)→h'.get? D=some {cls:=.type "list",data:=.seq out.toArray n}→(∀ b o,s.heap.get? b=some o→h'.get? b=some o)→Q (.ref D) {s with heap:=h',toks:=tk}) :
  wpAny (model prog w) A (call (.builtin "sorted") [.ref S]) Q E s:=by
 obtain⟨o,es,ep,m,mv,R⟩:=hS
 refine Calls.call_function_entry kind_sorted plain_sorted entry_sorted (args_sorted1 _) ?_
 unfold Builtin.«sorted»
 refine wpAny_bind (m:=checkCount "sorted" 1 1 _) (wpAny_pure ?_)
 refine wpAny_bind (collect_ssetG (by simpa using hh) R.recG fun h1 tk hz1 kp=>?_)
 obtain⟨rs,er,pm⟩:=rows_perm (ordS_perm w S ep es) R.er
 have hlen:((ordS w S ep es).toList.map (·.2)).length≤64:=by
  rw[List.length_map,(ordS_perm w S ep es).length_eq,Array.length_toList,R.sz];exact hl
 have gd:∀(i:Nat)(v:Value)(r:List Nat),((ordS w S ep es).toList.map (·.2))[i]?=some v→rs[i]?=some r→∃ b,v=.ref b∧Gd b r:=fun i v r q1 q2=>by
  rw[List.getElem?_map] at q1
  obtain⟨e,e1,e2⟩:=Option.map_eq_some_iff.mp q1
  obtain⟨_,b,e3,e4⟩:=er.2 i e r e1 q2
  exact⟨b,by rw[← e2,e3],e4⟩
 have gl:((ordS w S ep es).toList.map (·.2)).length=rs.length:=by rw[List.length_map];exact er.1
 generalize hvs:(ordS w S ep es).toList.map (·.2)=vs at hlen gd gl ⊢
 refine wpAny_bind (wpAny_newList ?_ (by rw[sizeLine_eq];omega))
 have hoL:(h1.push (seqObj "list" vs.toArray 0)).get? h1.objs.size=some (seqObj "list" vs.toArray 0):=Heap.get?_push_size _ rfl
 have es':sortR rs=sortR (L.map (·.2)):=sortR_congr fun x=>pm.mem_iff
 refine wpAny_bind (wpAny_holding (wpAny_call_entry slot_list_sort ⟨_,hoL,rfl⟩ entry_list_sort (lsort_rows64 (R:=fun v r=>∃ b,v=.ref b∧Gd b r) gd hoL ⟨gl,fun i v r q1 q2=>?_⟩ (pm.nodup_iff.mpr R.ly.nd) (fun r hr=>?_) hlen (by show A.units+1+1<cLine;omega) fun out l1 l2=>⟨_,rfl,?_⟩) (args_list_sort _)))
 ·obtain⟨b,rfl,g⟩:=gd i v r q1 q2
  exact(tupR_of (R.sub b r g)).keep fun b o q=>Heap.get?_push_of_some _ (kp b o q)
 ·obtain⟨x,hx,rfl⟩:=List.mem_map.mp (pm.mem_iff.mp hr)
  exact R.ly.s6 x hx
 ·obtain⟨e,he⟩:=sortedHeap_at (out:=out.toArray) hoL
  refine wpAny_pure ⟨_,rfl,h h1.objs.size out e _ tk hz1 (by rw[← es'];exact l1) (by rw[← es'];exact l2) he fun b ob q=>?_⟩
  have hb:=Heap.lt_size (kp b ob q)
  rw[sortedHeap_old (Nat.ne_of_lt hb) (by rw[size_push'];exact Nat.lt_succ_of_lt hb)]
  exact Heap.get?_push_of_some _ (kp b ob q)
end
noncomputable def fSortS64 (f:FE):FA:=fun ρ=>match f ρ with
 | some (.tup ts)=>(match rowsT ts with|some rs=>if rs.length≤64 then some ((sortR rs).map rowT) else none|none=>none)
 | some (.lst ts)=>(match rowsT ts with|some rs=>if rs.length≤64 then some ((sortR rs).map rowT) else none|none=>none)
 | _=>none
section
variable {X:Cx}{z:Z}{e:Expr}{f:FE}{p p2 pos pos2:Pos}
theorem set_rows64 (hK:z.K=X.K)(hc:X.calm=true)(hu:X.A.units+20<cLine)(hg:Gl X "set")(hm:X.mg "set"=none)(h:ER X z e f)(hs:starEach [e] X.env=[(false,eval e X.env)]) {pins:List (Addr×Obj)}{s:Shared}{σ:L2.St}{H:Hp}(I:Inv X pins σ H s){ρ:Rho}{Hq:Hp}(r:Rn z σ ρ Hq H){ts:List T}{rs:List (List Nat)}
  (et:f ρ=some (.tup ts)∨f ρ=some (.lst ts)) (er:rowsT ts=some rs)(hl:rs.length≤64) :
  wpAny (model X.prog X.w) X.A (eval (.Call (.Name "set" p) [e] [] pos) X.env) (fun u s1=>∃ S L H1 Hq1 Gd,u=.ref S∧SRow X.prog X.w Gd s1.heap S (!byT X.w) L∧(∀ x,x∈L.map (·.2)↔x∈rs)∧L.length≤rs.length∧Inv X pins σ H1 s1∧Ex Hq H Hq1 H1∧∀ b q,Gd b q→Rep z.K Hq1 (rowT q) (.ref b)) X.xe s:=by
 obtain⟨l1,l6,lat⟩:=rowsT_at er
 refine wpAny_Call_Name_kw (ld_blt I hg hm boot_set ?_)
 have fin:∀{s1:Shared}{H1 Hq1:Hp}{ws:List V}{its:List Value}(I1:Inv X pins σ H1 s1)(x1:Ex Hq H Hq1 H1)(q3:RepL z.K Hq1 ts ws)(v1:Vals ws its),its.length=rs.length∧(∀ b q,(∃ i:Nat,its[i]?=some (.ref b)∧rs[i]?=some q)→Rep z.K Hq1 (rowT q) (.ref b))∧∀(i:Nat)(v:Value)(k:List Nat),its[i]?=some v→rs[i]?=some k→∃ c,v=.ref c∧∃ i:Nat,its[i]?=some (.ref c)∧rs[i]?=some k:=fun{s1 H1 Hq1 ws its} I1 x1 q3 v1=>by
  have ln:its.length=rs.length:=by rw[← v1.length,← q3.length,l1]
  have at_:∀(i:Nat)(v:Value)(k:List Nat),its[i]?=some v→rs[i]?=some k→∃ c,v=.ref c∧Rep z.K Hq1 (rowT k) (.ref c):=fun i v k q1 q2=>by
   have hi:i<ts.length:=by rw[l1];exact(List.getElem?_eq_some_iff.mp q2).1
   obtain⟨y,g1,g2⟩:=q3.get (List.getElem?_eq_getElem hi)
   obtain⟨u,g3,g4⟩:=v1.get g1
   rw[q1] at g3
   cases g3
   have eq:=unN_eq (lat i _ k (List.getElem?_eq_getElem hi) q2)
   rw[eq] at g2
   have g2':=g2
   unfold rowT Rep at g2
   obtain⟨c,_,rfl,_⟩:=g2
   cases g4
   exact⟨c,rfl,g2'⟩
  refine⟨ln,fun b q ⟨i,q1,q2⟩=>?_,fun i v k q1 q2=>?_⟩
  ·obtain⟨c,e1,e2⟩:=at_ i _ q q1 q2
   cases e1
   exact e2
  ·obtain⟨c,e1,e2⟩:=at_ i v k q1 q2
   exact⟨c,e1,i,by rw[q1,e1],q2⟩
 have isA:∀{s1:Shared}{H1 Hq1:Hp}(I1:Inv X pins σ H1 s1)(x1:Ex Hq H Hq1 H1)(b:Addr)(q:List Nat),Rep z.K Hq1 (rowT q) (.ref b)→(tkd X.prog X.w).is s1.heap (asInts q) b:=fun{s1 H1 Hq1} I1 x1 b q g=>by
  have hun:unN (rowT q)=some q:=by
   show unR (q.map fun(i:Nat)=>T.int (i:Int))=some q
   clear g
   induction q with
   | nil=>rfl
   | cons n q ih=>simp only[List.map_cons,unR];rw[if_pos (by omega),ih];simp
  obtain⟨a,ea,hs⟩:=unN_rep hun g
  cases ea
  rw[hK] at hs
  exact key_at I1 (sqT_mono x1.sub hs)
 rcases et with et|et
 ·refine PyProof.Rows.callWith_type1 (thn (ea_r1 h hs pos pins s σ H (fun vs H1=>∃ v Hq1,vs=[v]∧Ex Hq H Hq1 H1∧RepR z.K Hq1 H1 (.tup ts) v) I ⟨ρ,Hq,_,r,et,fun v Hq' H' x q=>⟨v,Hq',rfl,x,q⟩⟩) fun us s1 ⟨vs,H1,I1,r1,v,Hq1,ev,x1,q1⟩=>?_) hs rfl
  subst ev
  obtain⟨l,ws,rfl,q2,q3⟩:=q1.tup x1.sub
  cases r1 with
  | cons r1 rr =>
    cases rr
    cases r1
    rw[hK] at q2
    obtain⟨its,v1,p1,_⟩:=I1.tuple q2
    obtain⟨ln,g1,g2⟩:=fin I1 x1 q3 v1
    refine call_setTR (I.ok.hd hc) (items:=its.toArray) (ks:=rs) p1 (by simpa using ln) (fun b q=>∃ i:Nat,its[i]?=some (.ref b)∧rs[i]?=some q) (fun b q hq=>isA I1 x1 b q (g1 b q hq)) (fun i v k q1 q2=>g2 i v k (by simpa using q1) q2) l6 (by omega) (by omega) fun h' tk L hS mm hsz kp=>?_
    exact⟨_,L,H1,Hq1,_,rfl,hS,mm,(by obtain⟨o,es,ep,m,mv,R⟩:=hS;have:=sub_len R.ly.nd (fun x hx=>(mm x).mp hx);simpa using this),I1.kept (t':=tk) kp,x1,g1⟩
 ·refine PyProof.Rows.callWith_type1 (thn (ea_r1 h hs pos pins s σ H (fun vs H1=>∃ v Hq1,vs=[v]∧Ex Hq H Hq1 H1∧RepR z.K Hq1 H1 (.lst ts) v) I ⟨ρ,Hq,_,r,et,fun v Hq' H' x q=>⟨v,Hq',rfl,x,q⟩⟩) fun us s1 ⟨vs,H1,I1,r1,v,Hq1,ev,x1,q1⟩=>?_) hs rfl
  subst ev
  obtain⟨l,ws,rfl,q2,q3⟩:=q1.lst x1.sub
  cases r1 with
  | cons r1 rr =>
    cases rr
    cases r1
    rw[hK] at q2
    obtain⟨its,v1,p1,_⟩:=I1.list q2
    obtain⟨ln,g1,g2⟩:=fin I1 x1 q3 v1
    refine call_setLR (I.ok.hd hc) (items:=its.toArray) (ks:=rs) p1.isList (by simpa using ln) (fun b q=>∃ i:Nat,its[i]?=some (.ref b)∧rs[i]?=some q) (fun b q hq=>isA I1 x1 b q (g1 b q hq)) (fun i v k q1 q2=>g2 i v k (by simpa using q1) q2) l6 (by omega) (by omega) fun h' tk L hS mm hsz kp=>?_
    exact⟨_,L,H1,Hq1,_,rfl,hS,mm,(by obtain⟨o,es,ep,m,mv,R⟩:=hS;have:=sub_len R.ly.nd (fun x hx=>(mm x).mp hx);simpa using this),I1.kept (t':=tk) kp,x1,g1⟩
theorem ef_sortSet64 (hK:z.K=X.K)(hc:X.calm=true)(hu:X.A.units+64<cLine)(hm:X.mg "sorted"=none)(hm2:X.mg "set"=none)(h:ER X z e f)(hg:Gl X "sorted":=by rfl)(hg2:Gl X "set":=by rfl)(hs:starEach [e] X.env=[(false,eval e X.env)]:=by rfl)
  (hs2:starEach [.Call (.Name "set" p2) [e] [] pos2] X.env=[(false,eval (.Call (.Name "set" p2) [e] [] pos2) X.env)]:=by rfl):EF X z (.Call (.Name "sorted" p) [.Call (.Name "set" p2) [e] [] pos2] [] pos) (fSortS64 f):=by
 intro pins s σ H Q I ⟨ρ,Hq,us,r,e0,k⟩
 have key:∃ ts rs,(f ρ=some (.tup ts)∨f ρ=some (.lst ts))∧rowsT ts=some rs∧rs.length≤64∧us=(sortR rs).map rowT:=by
  unfold fSortS64 at e0
  split at e0
  ·rename_i ts et
   split at e0
   ·rename_i rs er
    split at e0
    ·rename_i hl
     cases e0
     exact⟨ts,rs,.inl et,er,hl,rfl⟩
    ·cases e0
   ·cases e0
  ·rename_i ts et
   split at e0
   ·rename_i rs er
    split at e0
    ·rename_i hl
     cases e0
     exact⟨ts,rs,.inr et,er,hl,rfl⟩
    ·cases e0
   ·cases e0
  ·cases e0
 obtain⟨ts,rs,et,er,hl,rfl⟩:=key
 refine wpAny_Call_Name_kw (ld_blt I hg hm boot_sorted ?_)
 refine PyProof.Rows.callWith_builtin1 ?_ hs2 rfl
 rw[hs2]
 show wpAny _ _ (spliced ((false,eval _ X.env)::[])) _ _ s
 refine Calls.spliced_cons (thn (set_rows64 hK hc (by omega) hg2 hm2 h hs I r et er hl) fun u s1 ⟨S,L,H1,Hq1,Gd,eu,hS,mm,ll,I1,x1,gd⟩=>?_)
 subst eu
 refine Calls.spliced_nil ?_
 refine sorted_srow64 (I.ok.hd hc) (by omega) hS (by omega) fun D out n h' tk hD l1 l2 ho kp=>?_
 have es:sortR (L.map (·.2))=sortR rs:=sortR_congr mm
 rw[es] at l1 l2
 obtain⟨vs,hv,hr⟩:=repL_of (K:=z.K) (H:=Hq1) l1 fun i v q q1 q2=>by
  obtain⟨b,e1,e2⟩:=l2 i v q q1 q2
  exact⟨b,e1,gd b q e2⟩
 have hH:H1 D=none:=I1.hok.fresh hD
 refine⟨.ref D,upd H1 D (.lst vs),I1.laid (t':=tk) kp hD ⟨?_,out,n,hv,ho⟩,rfl,k D _ Hq1 H1 x1 hH hr⟩
 rw[hv.length,l1,sizeLine_eq]
 have:(sortR rs).length≤64:=Nat.le_trans (List.length_filter_le _ _) (by decide)
 omega
end
end TL
namespace TL
open PySem L2
mutual
noncomputable def nol:T→Bool
 | .lst _=>false
 | .dct _=>false
 | .tup ts=>nolL ts
 | _=>true
noncomputable def nolL:List T→Bool
 | []=>true
 | t::ts=>nol t&&nolL ts
end
noncomputable def delL (H:Hp)(as:List Addr):Hp:=fun b=>if b∈as then none else H b
inductive RepA (K:PySem.W.Frag)(Hq H:Hp):List T→List V→List Addr→Prop
 | nil:RepA K Hq H [] [] []
 | pu {t:T}{v:V}{ts:List T}{vs:List V}{as:List Addr}:Rep K Hq t v→RepA K Hq H ts vs as→RepA K Hq H (t::ts) (v::vs) as
 | ow {a:Addr}{us:List T}{ws:List V}{ts:List T}{vs:List V}{as:List Addr}:Hq a=none→H a=some (.lst ws)→RepL K Hq us ws→RepA K Hq H ts vs as→RepA K Hq H (.lst us::ts) (.ref a::vs) (a::as)
noncomputable def tAo (z:Z)(f:FA):TA:=fun σ H Q=>∃ ρ Hq ts,Rn z σ ρ Hq H∧f ρ=some ts∧∀ vs Hq' H',Ex Hq H Hq' H'→(∃ as,RepA z.K Hq' H' ts vs as)→Q vs H'
noncomputable abbrev EAo (X:Cx)(z:Z)(es:List Expr)(f:FA):Prop:=PA X es (tAo z f)
section
variable {X:Cx}{z:Z}{e:Expr}{es:List Expr}{f:FE}{fa:FA}{pos:Pos}
end
end TL
namespace TL
open PySem L2
noncomputable abbrev FM:=Rho→Option (T×Rho)
noncomputable abbrev FMT:=Rho→Option (Bool×Rho)
noncomputable def tM (z:Z)(f:FM):TE:=fun σ H Q=>∃ ρ Hq t ρ',Rn z σ ρ Hq H∧f ρ=some (t,ρ')∧∀ v Hq' H',Rn z σ ρ' Hq' H'→Same Hq Hq'→Rep z.K Hq' t v→Q v H'
noncomputable def tMT (z:Z)(f:FMT):TT:=fun σ H Q=>∃ ρ Hq b ρ',Rn z σ ρ Hq H∧f ρ=some (b,ρ')∧∀ Hq' H',Rn z σ ρ' Hq' H'→Same Hq Hq'→Q b H'
noncomputable abbrev EM (X:Cx)(z:Z)(e:Expr)(f:FM):Prop:=PE X e (tM z f)
noncomputable abbrev EMT (X:Cx)(z:Z)(e:Expr)(f:FMT):Prop:=PT X e (tMT z f)
noncomputable abbrev EMW (X:Cx)(z:Z)(e:Expr)(f:FMT):Prop:=PW X e (tMT z f)
noncomputable def mOf (f:FE):FM:=fun ρ=>(f ρ).map fun t=>(t,ρ)
noncomputable def m1 (fn:T→Option T)(f:FM):FM:=fun ρ=>(f ρ).bind fun p=>(fn p.1).map fun u=>(u,p.2)
section
variable {X:Cx}{z:Z}{e a b:Expr}{f:FE}{g:FM}{fa:FA}{pos:Pos}
end
end TL
namespace TL
open PySem L2
section
variable {X:Cx}{pins:List (Addr×Obj)}{z:Z}{kx:Addr→L2.St→Hp→Prop}{e a b:Expr}{f:FE}{G:Rho→Option Str}{pos:Pos}
end
section
variable {X:Cx}{pins:List (Addr×Obj)}{z:Z}{kx:Addr→L2.St→Hp→Prop}{pos:Pos}
end
section
variable {P:Program}{w:World}{K:PySem.W.Frag}{mg:Str→Option Value}{base:Heap}
end
inductive OutW where
 | nx (ρ:Rho)|rt (ρ:Rho)(t:T)|xc (ρ:Rho) (c:Str)
noncomputable abbrev FW:=Rho→Option OutW
noncomputable def FinW (z:Z)(kx:Addr→L2.St→Hp→Prop)(Hq:Hp)(D:Ends):OutW→Prop
 | .nx ρ=>∀ σ Hq' H',Rn z σ ρ Hq' H'→Same Hq Hq'→D.nx σ H'
 | .rt ρ t=>∀ v σ Hq' H',Rn z σ ρ Hq' H'→Same Hq Hq'→Rep z.K Hq' t v→D.rt v H'
 | .xc ρ c=>∀ σ Hq' H',Rn z σ ρ Hq' H'→Same Hq Hq'→kx (clsAt z.K c) σ H'
noncomputable def tW (z:Z)(F:FW)(kx:Addr→L2.St→Hp→Prop):TS:=fun D σ H=>∃ ρ Hq o,Rn z σ ρ Hq H∧F ρ=some o∧FinW z kx Hq D o
noncomputable def WV (X:Cx)(pins:List (Addr×Obj)) (kx:Addr→L2.St→Hp→Prop)(z:Z)(st:Stmt)(F:FW):Prop:=∀ s σ H D,Inv X pins σ H s→tW z F kx D σ H→wpAny (model X.prog X.w) X.A (exec st X.env) (SP X pins D) X.xe s
noncomputable def WVs (X:Cx)(pins:List (Addr×Obj)) (kx:Addr→L2.St→Hp→Prop)(z:Z)(st:List Stmt)(F:FW):Prop:=∀ s σ H D,Inv X pins σ H s→tW z F kx D σ H→wpAny (model X.prog X.w) X.A (execs st X.env) (SP X pins D) X.xe s
section
variable {X:Cx}{pins:List (Addr×Obj)}{z:Z}{kx:Addr→L2.St→Hp→Prop}{pos:Pos}
noncomputable abbrev kNo:Addr→L2.St→Hp→Prop:=fun _ _ _=>False
noncomputable def HW (X:Cx)(z:Z)(hs:List ExceptHandler)(F:Str→FW):Prop:=∀ pins σ H D (s':Shared)(h:Heap) ea c ρ Hq o,Landed X pins σ H s' h ea (clsAt z.K c)→Rn z σ ρ Hq H→F c ρ=some o→FinW z kNo Hq D o →
 wpAny (model X.prog X.w) X.A (handleBy (.ref ea) X.env hs) (SP X pins D) X.xe {s' with heap:=h}
end
section
variable {P:Program}{w:World}{K:PySem.W.Frag}{mg:Str→Option Value}{base:Heap}
end
section
variable {X:Cx}{z:Z}{fa:FA}{pos:Pos}
end
end TL
namespace TL
open PySem L2
section
variable {ρ ρ':Rho}{i n:Nat}{c m:Str}{fl fl':List (Str×T)}{t u w:T}{ts:List T}{a:Addr}{r:Rho}{f:FE}{g:FM}{fa:FA}
end
end TL
set_option autoImplicit true
set_option relaxedAutoImplicit true
namespace TL.W
open PySem L2 TL
structure eZ (X:Cx)(z:Z)(e:Expr)(f:FZ):Prop where
 p:EZ X z e f
structure eV (X:Cx)(z:Z)(e:Expr)(f:FE):Prop where
 p:EV X z e f
structure eR (X:Cx)(z:Z)(e:Expr)(f:FE):Prop where
 p:ER X z e f
structure eF (X:Cx)(z:Z)(e:Expr)(f:FA):Prop where
 p:EF X z e f
structure eA (X:Cx)(z:Z)(e:List Expr)(f:FA):Prop where
 p:EA X z e f
structure eT (X:Cx)(z:Z)(e:Expr)(f:FT):Prop where
 p:ET X z e f
structure eW (X:Cx)(z:Z)(e:Expr)(f:FT):Prop where
 p:EW X z e f
structure sV (X:Cx)(z:Z)(e:Stmt)(f:FS):Prop where
 p:SV X z e f
structure sVs (X:Cx)(z:Z)(e:List Stmt)(f:FS):Prop where
 p:SVs X z e f
structure xV (X:Cx)(pins:List (Addr×Obj)) (kx:Addr→L2.St→Hp→Prop)(z:Z)(e:Stmt)(f:FX):Prop where
 p:XV X pins kx z e f
structure xVs (X:Cx)(pins:List (Addr×Obj)) (kx:Addr→L2.St→Hp→Prop)(z:Z)(e:List Stmt)(f:FX):Prop where
 p:XVs X pins kx z e f
structure hJ (X:Cx)(z:Z)(e:List ExceptHandler)(f:Str→FS):Prop where
 p:HJ X z e f
structure xR (X:Cx)(pins:List (Addr×Obj)) (kx:Addr→L2.St→Hp→Prop)(z:Z)(e:Expr)(G:Rho→Option Str):Prop where
 p:XR X pins kx z e G
structure eAo (X:Cx)(z:Z)(e:List Expr)(f:FA):Prop where
 p:EAo X z e f
structure eM (X:Cx)(z:Z)(e:Expr)(f:FM):Prop where
 p:EM X z e f
structure eMT (X:Cx)(z:Z)(e:Expr)(f:FMT):Prop where
 p:EMT X z e f
structure eMW (X:Cx)(z:Z)(e:Expr)(f:FMT):Prop where
 p:EMW X z e f
structure hW (X:Cx)(z:Z)(e:List ExceptHandler)(f:Str→FW):Prop where
 p:HW X z e f
structure wV (X:Cx)(pins:List (Addr×Obj)) (kx:Addr→L2.St→Hp→Prop)(z:Z)(e:Stmt)(f:FW):Prop where
 p:WV X pins kx z e f
structure wVs (X:Cx)(pins:List (Addr×Obj)) (kx:Addr→L2.St→Hp→Prop)(z:Z)(e:List Stmt)(f:FW):Prop where
 p:WVs X pins kx z e f
structure sW (X:Cx)(z:Z)(e:Stmt)(f:FW):Prop where
 p:PS X e (tW z f kNo)
structure J (t:Prop):Prop where
 p:t
theorem er_of (h:eV X z e f):eR X z e f:=⟨TL.er_of h.p⟩
theorem ev_new {f:FA}(h:eF X z e f):eV X z e (fNew f):=⟨TL.ev_new h.p⟩
theorem ev_var (i:Nat){x:Str}{pos:Pos}(hN:X.N[i]?=some x:=by rfl)(hv:Vis X.env.scope x:=by first|exact Or.inl rfl|exact Or.inr (Or.inl rfl)|exact Or.inr (Or.inr rfl)) (hd:(x==("__debug__":Str))=false:=by decide) (hcd:(x==("__classdict__":Str))=false:=by decide):eV X z (.Name x pos) (gv i):=⟨TL.ev_var i hN hv hd hcd⟩
theorem er_own (i:Nat){x:Str}{pos:Pos}(hN:X.N[i]?=some x:=by rfl)(hv:Vis X.env.scope x:=by first|exact Or.inl rfl|exact Or.inr (Or.inl rfl)|exact Or.inr (Or.inr rfl)) (hd:(x==("__debug__":Str))=false:=by decide) (hcd:(x==("__classdict__":Str))=false:=by decide):eR X z (.Name x pos) (go i):=⟨TL.er_own i hN hv hd hcd⟩
theorem ev_int {i:Int} {j pos}:eV X z (.Constant (.int i) j pos) (kc (.int i)):=⟨TL.ev_int⟩
theorem ev_bl {b j pos}:eV X z (.Constant (.bool b) j pos) (kc (.bl b)):=⟨TL.ev_bl⟩
theorem ev_globI {x:Str}{i:Int}{tk:Tok}{pos:Pos}(hg:Gl X x)(hm:X.mg x=some (.int i tk)) (hd:(x==("__debug__":Str))=false:=by decide):eV X z (.Name x pos) (kc (.int i)):=⟨TL.ev_globI hg hm hd⟩
theorem ea_nil  : eA X z [] fNil:=⟨TL.ea_nil⟩
theorem ea_cons (h:eV X z e f)(hr:eA X z es fa)(hs:starEach (e::es) X.env=(false,eval e X.env)::starEach es X.env:=by rfl):eA X z (e::es) (fCons f fa):=⟨TL.ea_cons h.p hr.p hs⟩
theorem ev_tup {x1 pos}(h:eA X z es fa):eV X z (.Tuple es x1 pos) (fTup fa):=⟨TL.ev_tup h.p⟩
theorem ef_lst {pos}(h:eA X z es fa):eF X z (.List es pos) (fLst fa):=⟨TL.ef_lst h.p⟩
theorem ev_op (hK:z.K=X.K){op:Operator}(ho:Op2 X (binaryOp op) fn) (ha:eR X z a f)(hb:eR X z b g):eV X z (.BinOp a op b pos) (f2 fn f g):=⟨TL.ev_op hK ho ha.p hb.p⟩
theorem ev_cmp (hK:z.K=X.K){op:CmpOp}(ho:Op2 X (compareOp op) fn) (ha:eR X z a f)(hb:eR X z b g)(hm:behindInMarks op b=false):eV X z (.Compare a [op] [b] pos) (f2 fn f g):=⟨TL.ev_cmp hK ho ha.p hb.p hm⟩
theorem et_val (h:eV X z e f)(he:∀ whole,isTrue e X.env whole=(do let v ← whole;standAt e.pos;holding [v] (truthy v)):=by intro _;rfl):eT X z e (fB f):=⟨TL.et_val h.p he⟩
theorem et_cmp (hK:z.K=X.K){fn:T→T→Option T}{op:CmpOp}(ho:Op2 X (compareOp op) fn) (ha:eR X z a f)(hb:eR X z b g)(hm:behindInMarks op b=false):eT X z (.Compare a [op] [b] pos) (fB (f2 fn f g)):=⟨TL.et_cmp hK ho ha.p hb.p hm⟩
theorem et_not (h:eT X z a ft):eT X z (.UnaryOp .Not a pos) (fNot ft):=⟨TL.et_not h.p⟩
theorem ew_or1 (h:eT X z a ft):eW X z (.BoolOp .Or [a] pos) ft:=⟨TL.ew_or1 h.p⟩
theorem ew_or (h:eT X z a ft)(hb:eW X z (.BoolOp .Or (b::rst) pos) gt):eW X z (.BoolOp .Or (a::b::rst) pos) (fOr ft gt):=⟨TL.ew_or h.p hb.p⟩
theorem et_w (h:eW X z e ft):eT X z e ft:=⟨TL.et_w h.p⟩
theorem ev_ifExp {c:Expr}(hc:eT X z c ft)(ha:eV X z a f)(hb:eV X z b g):eV X z (.IfExp c a b pos) (fIf ft f g):=⟨TL.ev_ifExp hc.p ha.p hb.p⟩
theorem et_chain (hK:z.K=X.K){op op':CmpOp}(ho:Op2 X (compareOp op) fn) (ho':Op2 X (compareOp op') fn') (ha:eR X z a f)(hb:eR X z b g)(hc:eR X z c h)(hm:lastMarks [op,op'] [b,c]=false:=by with_unfolding_all rfl):eT X z (.Compare a [op,op'] [b,c] pos) (fB (fChain fn fn' f g h)):=⟨TL.et_chain hK ho ho' ha.p hb.p hc.p hm⟩
theorem ev_neg (h:eV X z a f):eV X z (.UnaryOp .USub a pos) (f1 tNeg f):=⟨TL.ev_neg h.p⟩
theorem ev_ix (hK:z.K=X.K)(ha:eR X z a f)(hb:eV X z b g)(hs:PlainIx b):eV X z (.Subscript a b pos) (f2 tIx f g):=⟨TL.ev_ix hK ha.p hb.p hs⟩
theorem eo_none  : J (PO X none (tO z foN)):=⟨TL.eo_none⟩
theorem eo_some (h:eV X z e f):J (PO X (some e) (tO z (foS f))):=⟨TL.eo_some h.p⟩
theorem ev_slice (hK:z.K=X.K){lo hi:Option Expr}{fl fh:FO}{p2:Pos}(he:eR X z e f)(hl:J (PO X lo (tO z fl))) (hh:J (PO X hi (tO z fh))):eV X z (.Subscript e (.Slice lo hi none p2) pos) (fCut f fl fh):=⟨TL.ev_slice hK he.p hl.p hh.p⟩
theorem ev_b1 (hK:z.K=X.K){fn:T→Option T}{x:Str}{id:String}(hb:Bi1 X (.builtin id) fn) (hg:Gl X x)(hm:X.mg x=none)(hv:bootBuiltins x=some (.builtin id)) (he:eR X z e f)(hn:x≠"__name__":=by decide)(hdb:(x==("__debug__":Str))=false:=by decide) (hs:starEach [e] X.env=[(false,eval e X.env)]:=by rfl):eV X z (.Call (.Name x p) [e] [] pos) (f1 fn f):=⟨TL.ev_b1 hK hb hg hm hv he.p hn hdb hs⟩
theorem ev_y1 (hK:z.K=X.K){fn:T→Option T}{x:Str}{id:String}(hb:Bi1 X (.type id) fn) (hg:Gl X x)(hm:X.mg x=none)(hv:bootBuiltins x=some (.type id)) (he:eR X z e f)(hn:x≠"__name__":=by decide)(hdb:(x==("__debug__":Str))=false:=by decide) (hs:starEach [e] X.env=[(false,eval e X.env)]:=by rfl):eV X z (.Call (.Name x p) [e] [] pos) (f1 fn f):=⟨TL.ev_y1 hK hb hg hm hv he.p hn hdb hs⟩
theorem ev_min (hc:X.calm=true){a b:Expr}(hg:Gl X "min")(hm:X.mg "min"=none)(ha:eV X z a f)(hb:eV X z b g)(hs:starEach [a,b] X.env=[(false,eval a X.env),(false,eval b X.env)]:=by rfl) (hs2:starEach [b] X.env=[(false,eval b X.env)]:=by rfl):eV X z (.Call (.Name "min" p) [a,b] [] pos) (f2 tMin f g):=⟨TL.ev_min hc hg hm ha.p hb.p hs hs2⟩
theorem ir_seq (hK:z.K=X.K)(h:eR X z e f):J (PI X tg e (iR z (fIt f))):=⟨TL.ir_seq hK h.p⟩
theorem ip_seq (hK:z.K=X.K)(h:eV X z e f):J (PI X tg e (iP z (fIt f))):=⟨TL.ip_seq hK h.p⟩
theorem ip_range (hg:Gl X "range")(hm:X.mg "range"=none)(h:eV X z e f)(hs:starEach [e] X.env=[(false,eval e X.env)]:=by rfl):J (PI X tg (.Call (.Name "range" p) [e] [] pos) (iP z (fRng f))):=⟨TL.ip_range hg hm h.p hs⟩
theorem ip_range2 {a:Expr}(hg:Gl X "range")(hm:X.mg "range"=none)(ha:eV X z a f)(h:eV X z e g)(hs:starEach [a,e] X.env=[(false,eval a X.env),(false,eval e X.env)]:=by rfl) (hs2:starEach [e] X.env=[(false,eval e X.env)]:=by rfl):J (PI X tg (.Call (.Name "range" p) [a,e] [] pos) (iP z (fRng2 f g))):=⟨TL.ip_range2 hg hm ha.p h.p hs hs2⟩
theorem ir_of {f:FA}(h:J (PI X tg e (iP z f))):J (PI X tg e (iR z f)):=⟨TL.ir_of h.p⟩
theorem eg_name (i:Nat){x:Str}(hN:X.N.Nodup)(hi:X.N[i]?=some x:=by rfl)(hx:Loc X.env.scope x:=by first|exact Or.inl rfl|exact Or.inr rfl)(hf:X.fn x=true∨X.env.scope.names.lookup x=some .local:=by first|exact .inl rfl|exact .inr rfl):J (PG X (.Name x pos) (tG z [i] (gNm i))):=⟨TL.eg_name i hN hi hx hf⟩
theorem eg_tup2 (hK:z.K=X.K)(hc:X.calm=true) (i j:Nat){x y:Str}{px py:Pos}{kd:Nat}(hN:X.N.Nodup)(hi:X.N[i]?=some x:=by rfl)(hj:X.N[j]?=some y:=by rfl)(hx:Loc X.env.scope x:=by first|exact Or.inl rfl|exact Or.inr rfl)(hy:Loc X.env.scope y:=by first|exact Or.inl rfl|exact Or.inr rfl)(hf:X.fn x=true∨X.env.scope.names.lookup x=some .local:=by first|exact .inl rfl|exact .inr rfl)(hf2:X.fn y=true∨X.env.scope.names.lookup y=some .local:=by first|exact .inl rfl|exact .inr rfl):J (PG X (.Tuple [.Name x px,.Name y py] kd pos) (tG z [i,j] (gTp2 i j))):=⟨TL.eg_tup2 hK hc i j hN hi hj hx hy hf hf2⟩
theorem ss_nil  : sVs X z [] sNil:=⟨TL.ss_nil⟩
theorem ss_cons (h1:sV X z st F)(h2:sVs X z rst G):sVs X z (st::rst) (sSeq F G):=⟨TL.ss_cons h1.p h2.p⟩
theorem ss_one (h1:sV X z st F):sVs X z [st] F:=⟨TL.ss_one h1.p⟩
theorem s_ret (h:eV X z e f):sV X z (.Return (some e) pos) (sRet f):=⟨TL.s_ret h.p⟩
theorem s_retO (i:Nat){x:Str}{p:Pos}(hN:X.N[i]?=some x:=by rfl)(hv:Vis X.env.scope x:=by first|exact Or.inl rfl|exact Or.inr (Or.inl rfl)|exact Or.inr (Or.inr rfl)) (hd:(x==("__debug__":Str))=false:=by decide) (hcd:(x==("__classdict__":Str))=false:=by decide):sV X z (.Return (some (.Name x p)) pos) (sRetO i):=⟨TL.s_retO i hN hv hd hcd⟩
theorem s_set (i:Nat){x:Str}{pos':Pos}(hN:X.N.Nodup)(h:eV X z e f)(hi:X.N[i]?=some x:=by rfl)(hx:Loc X.env.scope x:=by first|exact Or.inl rfl|exact Or.inr rfl)(hs:swapsWith e (some (.Name x pos')) pos.line X.env=pure false:=by rfl) (hf:X.fn x=true∨X.env.scope.names.lookup x=some .local:=by first|exact .inl rfl|exact .inr rfl):sV X z (.Assign [.Name x pos'] e pos) (sSet i f):=⟨TL.s_set i hN h.p hi hx hs hf⟩
theorem s_own (i:Nat){x:Str}{pos':Pos}(hN:X.N.Nodup)(h:eF X z e fa)(hi:X.N[i]?=some x:=by rfl)(hx:Loc X.env.scope x:=by first|exact Or.inl rfl|exact Or.inr rfl)(hs:swapsWith e (some (.Name x pos')) pos.line X.env=pure false:=by rfl) (hf:X.fn x=true∨X.env.scope.names.lookup x=some .local:=by first|exact .inl rfl|exact .inr rfl):sV X z (.Assign [.Name x pos'] e pos) (sOwn i fa):=⟨TL.s_own i hN h.p hi hx hs hf⟩
theorem s_app (i:Nat){x:Str}{p1 p2 p3:Pos}(hb:PE X (.Call (.Attribute (.Name x p1) "append" p2) [e] [] p3) (tBM X.K "list" rAppend (tVar i) (tCons (tT z f) tNil))):sV X z (.Expr (.Call (.Attribute (.Name x p1) "append" p2) [e] [] p3) pos) (sApp i f):=⟨TL.s_app i hb⟩
theorem s_if {c:Expr}{a b:List Stmt}{ft:FT}(hc:eT X z c ft)(ha:sVs X z a F)(hb:sVs X z b G):sV X z (.If c a b pos) (sIf ft F G):=⟨TL.s_if hc.p ha.p hb.p⟩
theorem s_for {iter tg:Expr}{body:List Stmt}{g:FG}{tc:List Nat}(hp:PassesOwn (model X.prog X.w) X.A X.env X.xe) (hc:X.calm=true)(hi:J (PI X tg iter (iP z fa))) (hg:J (PG X tg (tG z tc g))) (hb:sVs X z body F)(hs:∀ x,foldedSetIterable iter X.env x=pure x:=by intro _;rfl):sV X z (.For tg iter body [] pos) (sFor fa g F):=⟨TL.s_for hp hc hi.p hg.p hb.p hs⟩
theorem s_while (n:Nat){c:Expr}{body:List Stmt}{ft:FT}(hp:PassesOwn (model X.prog X.w) X.A X.env X.xe) (hc:eT X z c ft)(hb:sVs X z body F):sV X z (.While c body [] pos) (sWhile n ft F):=⟨TL.s_while n hp hc.p hb.p⟩
theorem ev_has {X:Cx}{z:Z}{k n:Nat}{x:Str}{p pos:Pos}{e:Expr}{es:List Expr}{fa:FA}{F:List T→Option T}(hK:z.K=X.K)(h:Has X.prog X.w X.K X.mg X.base x k n F)(hr:Room k X.A)(ha:eA X z (e::es) fa) (hg:Gl X x:=by rfl)(hd:(x==("__debug__":Str))=false:=by decide) (hs:starEach (e::es) X.env=(false,eval e X.env)::starEach es X.env:=by rfl) (hpl:(backTo pos (starEach es X.env)).any (·.1)=false:=by rfl):eV X z (.Call (.Name x p) (e::es) [] pos) (fCall n F fa):=⟨TL.ev_has hK h hr ha.p hg hd hs hpl⟩
theorem ef_comp' {X:Cx}{z:Z}{elt iter tg:Expr}{ifs:List Expr}{scope:Scope}{pos:Pos}{fi:FA}{g:FG}{c:FT}{fe:FE}(N:List Str)(sc:Scope)(N':List Str)(ix:List (Option Nat)) (tc:List Nat)(ok:compOk N sc scope N' ix tc=true)(hK:z.K=X.K)(hi:J (PI X tg iter (iR z fi))) (hg:∀ C s H fp z',z'.K=X.K→J (PG (compCx X scope N' C s H fp) tg (tG z' tc g))) (ht:∀ C s H fp z',z'.K=X.K→J (PIfs (compCx X scope N' C s H fp) ifs (tB2 z' c))) (he:∀ C s H fp z',z'.K=X.K→eV (compCx X scope N' C s H fp) z' elt fe) (hN:X.N=N:=by rfl)(hsc:X.env.scope=sc:=by rfl)(hc:X.calm=true:=by rfl)(hs:∀ x,foldedSetIterable iter X.env x=pure x:=by intro _;rfl):eF X z (.ListComp elt [⟨tg,iter,ifs,0⟩] scope pos) (fComp ix fi g c fe):=⟨TL.ef_comp' N sc N' ix tc ok hK hi.p (fun C s H fp z' hz=>(hg C s H fp z' hz).p) (fun C s H fp z' hz=>(ht C s H fp z' hz).p) (fun C s H fp z' hz=>(he C s H fp z' hz).p) hN hsc hc hs⟩
theorem et_ifs1 {X:Cx}{z:Z}{c:Expr}{f:FT}(h:eT X z c f):J (PIfs X [c] (tB2 z f)):=⟨TL.et_ifs1 h.p⟩
theorem et_ifs0 {X:Cx}{z:Z}:J (PIfs X [] (tB2 z fYes)):=⟨TL.et_ifs0⟩
theorem ir_enum (hK:z.K=X.K)(hg:Gl X "enumerate")(hm:X.mg "enumerate"=none)(h:eR X z e f)(hs:starEach [e] X.env=[(false,eval e X.env)]:=by rfl):J (PI X (.Tuple elts kd ps) (.Call (.Name "enumerate" p) [e] [] pos) (iR z (fEnum f))):=⟨TL.ir_enum hK hg hm h.p hs⟩
theorem ef_compN {X:Cx}{z:Z}{elt iter tg:Expr}{ifs:List Expr}{scope:Scope}{pos:Pos}{fi:FA}{g:FG}{c:FT}{fe:FE}(N':List Str)(ix:List (Option Nat)) (tc:List Nat)(ok:compOk X.N X.env.scope scope N' ix tc=true)(hK:z.K=X.K)(hi:J (PI X tg iter (iR z fi))) (hg:∀ C s H fp z',z'.K=X.K→J (PG (compCx X scope N' C s H fp) tg (tG z' tc g))) (ht:∀ C s H fp z',z'.K=X.K→J (PIfs (compCx X scope N' C s H fp) ifs (tB2 z' c))) (he:∀ C s H fp z',z'.K=X.K→eV (compCx X scope N' C s H fp) z' elt fe) (hc:X.calm=true:=by rfl)(hs:∀ x,foldedSetIterable iter X.env x=pure x:=by intro _;rfl):eF X z (.ListComp elt [⟨tg,iter,ifs,0⟩] scope pos) (fComp ix fi g c fe):=⟨TL.ef_compN N' ix tc ok hK hi.p (fun C s H fp z' hz=>(hg C s H fp z' hz).p) (fun C s H fp z' hz=>(ht C s H fp z' hz).p) (fun C s H fp z' hz=>(he C s H fp z' hz).p) hc hs⟩
theorem et_tru (hK:z.K=X.K)(h:eR X z e f)(he:∀ whole,isTrue e X.env whole=(do let v ← whole;standAt e.pos;holding [v] (truthy v)):=by intro _;rfl):eT X z e (fTru f):=⟨TL.et_tru hK h.p he⟩
theorem s_extend (hK:z.K=X.K) (i:Nat){x:Str}(h:eR X z e f)(hN:X.N[i]?=some x:=by rfl)(hv:Vis X.env.scope x:=by first|exact Or.inl rfl|exact Or.inr (Or.inl rfl)|exact Or.inr (Or.inr rfl)) (hd:(x==("__debug__":Str))=false:=by decide) (hcd:(x==("__classdict__":Str))=false:=by decide) (hbase:attributeBase (.Name x p1) "extend" X.env (eval (.Name x p1) X.env)=eval (.Name x p1) X.env:=by rfl) (hline:(p2.endLine==p3.line)=true:=by rfl) (hs:starEach [e] X.env=[(false,eval e X.env)]:=by rfl):sV X z (.Expr (.Call (.Attribute (.Name x p1) "extend" p2) [e] [] p3) pos) (sExt i f):=⟨TL.s_extend hK i h.p hN hv hd hcd hbase hline hs⟩
theorem s_no {st:Stmt}:sV X z st sNo:=⟨TL.s_no⟩
theorem ef_sortLen (hK:z.K=X.K)(hm:X.mg "sorted"=none)(hm2:X.mg "len"=none)(h:eR X z e f)(hg:Gl X "sorted":=by rfl)(hg2:Gl X "len":=by rfl)(hs:starEach [e] X.env=[(false,eval e X.env)]:=by rfl):eF X z (.Call (.Name "sorted" p) [e] [⟨some "key",.Name "len" p2,kp⟩] pos) (fSortLen f):=⟨TL.ef_sortLen hK hm hm2 h.p hg hg2 hs⟩
theorem ef_sortSet64 (hK:z.K=X.K)(hc:X.calm=true)(hu:X.A.units+64<cLine)(hm:X.mg "sorted"=none)(hm2:X.mg "set"=none)(h:eR X z e f)(hg:Gl X "sorted":=by rfl)(hg2:Gl X "set":=by rfl)(hs:starEach [e] X.env=[(false,eval e X.env)]:=by rfl) (hs2:starEach [.Call (.Name "set" p2) [e] [] pos2] X.env=[(false,eval (.Call (.Name "set" p2) [e] [] pos2) X.env)]:=by rfl):eF X z (.Call (.Name "sorted" p) [.Call (.Name "set" p2) [e] [] pos2] [] pos) (fSortS64 f):=⟨TL.ef_sortSet64 hK hc hu hm hm2 h.p hg hg2 hs hs2⟩
theorem ef_sortR (hK:z.K=X.K)(hu:X.A.units+64<cLine)(hm:X.mg "sorted"=none)(h:eR X z e f)(hg:Gl X "sorted":=by rfl)(hs:starEach [e] X.env=[(false,eval e X.env)]:=by rfl):eF X z (.Call (.Name "sorted" p) [e] [] pos) (fSortR f):=⟨TL.ef_sortR hK hu hm h.p hg hs⟩
theorem ef_sortPr (hK:z.K=X.K)(hu:X.A.units+64<cLine)(hm:X.mg "sorted"=none)(h:eR X z e f)(hg:Gl X "sorted":=by rfl)(hs:starEach [e] X.env=[(false,eval e X.env)]:=by rfl):eF X z (.Call (.Name "sorted" p) [e] [] pos) (fSortPr f):=⟨TL.ef_sortPr hK hu hm h.p hg hs⟩
theorem has_of'' {P:Program}{w:World}{K:PySem.W.Frag}{mg:Str→Option Value}{base:Heap}{x:Str}{st:Stmt}{N ps:List Str}{k n m:Nat}{F:FS}(hn:ps.length=n)(hm:N.length=m)(G:Src K mg x st ps)(S:FnScope N ps (defScope st))
  (hbody:∀(f:Addr)(cdv:Value)(A:Around)(outer:List Env)(s:Shared)(H:Hp)(E:XK)(z:Z),Room k (A.deeper (PyProof.Rows.envOfC x (defScope st) s.heap.objs.size f cdv))→z.K=K →
   sVs (cxOf CX0 P w K mg base N x (defScope st) f cdv A outer s H E).nox z (defBody st) F):Has P w K mg base x (k+1) n (run m F) :=
 has_of' hn hm G S fun f cdv A outer s H E z hr hz=>(hbody f cdv A outer s H E z hr hz).p
theorem fn_ok'' {P:Program}{w:World}{K:PySem.W.Frag}{mg:Str→Option Value}{base:Heap}{x qual:Str}{st:Stmt}{f:Addr}{fd:FuncData}{N ps:List Str}{k n m:Nat}{F:FS}(hn:ps.length=n)(hm:N.length=m)(G:Fun K x qual st f fd)(S:FnScope N ps (defScope st))
  (hbody:∀(cdv:Value)(A:Around)(outer:List Env)(s:Shared)(H:Hp)(E:XK)(z:Z),Room k (A.deeper (PyProof.Rows.envOfC qual (defScope st) s.heap.objs.size f cdv))→z.K=K →
   sVs (cxOf CX0 P w K mg base N qual (defScope st) f cdv A outer s H E).nox z (defBody st) F):FnOk P w K mg base CX0 (k+1) f fd ps (spT K n (run m F)) :=
 fn_ok' hn hm G S fun cdv A outer s H E z hr hz=>(hbody cdv A outer s H E z hr hz).p
end TL.W
namespace TL
open PySem L2
section
variable {ρ:Rho}{f g h:FE}{fa:FA}{ft gt:FT}{fn fn':T→T→Option T}{F G:FS}
@[simp] theorem f1_ev {fn:T→Option T}:f1 fn f ρ=(f ρ).bind fn:=by unfold f1;cases f ρ<;>rfl
@[simp] theorem f2_ev:f2 fn f g ρ=(f ρ).bind fun t=>(g ρ).bind fun u=>fn t u:=by
 unfold f2
 cases f ρ with
 | none=>rfl
 | some t=>cases g ρ<;>rfl
@[simp] theorem kc_ev {t:T}:kc t ρ=some t:=rfl
@[simp] theorem gv_ev {i:Nat}:gv i ρ=match ρ[i]? with|some (some (.pu t))=>some t|_=>none:=rfl
@[simp] theorem go_ev {i:Nat}:go i ρ=match ρ[i]? with|some (some (.ow ts))=>some (.lst ts)|_=>none:=rfl
@[simp] theorem fNil_ev:fNil ρ=some []:=rfl
@[simp] theorem fCons_ev:fCons f fa ρ=(f ρ).bind fun t=>(fa ρ).bind fun ts=>some (t::ts):=by
 unfold fCons
 cases f ρ with
 | none=>rfl
 | some t=>cases fa ρ<;>rfl
@[simp] theorem fTup_ev:fTup fa ρ=(fa ρ).bind fun ts=>if ts.length≤sizeLine then some (.tup ts) else none:=by
 unfold fTup
 cases fa ρ<;>rfl
@[simp] theorem fLst_ev:fLst fa ρ=(fa ρ).bind fun ts=>if ts.length≤sizeLine then some ts else none:=by
 unfold fLst
 cases fa ρ<;>rfl
@[simp] theorem fNew_ev:fNew fa ρ=(fa ρ).map T.lst:=rfl
@[simp] theorem fB_ev:fB f ρ=(f ρ).bind fun t=>match t with|.bl b=>some b|_=>none:=by
 unfold fB
 cases f ρ with
 | none=>rfl
 | some t=>cases t<;>rfl
@[simp] theorem fNot_ev:fNot ft ρ=(ft ρ).map (!·):=rfl
@[simp] theorem fAnd_ev:fAnd ft gt ρ=(ft ρ).bind fun b=>if b=true then gt ρ else some false:=by
 unfold fAnd
 cases ft ρ with
 | none=>rfl
 | some b=>cases b<;>rfl
@[simp] theorem fOr_ev:fOr ft gt ρ=(ft ρ).bind fun b=>if b=true then some true else gt ρ:=by
 unfold fOr
 cases ft ρ with
 | none=>rfl
 | some b=>cases b<;>rfl
@[simp] theorem fAndV_ev:fAndV f g ρ=match f ρ with|some (.bl true)=>g ρ|some (.bl false)=>some (.bl false)|_=>none:=rfl
@[simp] theorem fOrV_ev:fOrV f g ρ=match f ρ with|some (.bl false)=>g ρ|some (.bl true)=>some (.bl true)|_=>none:=rfl
@[simp] theorem fNotV_ev:fNotV f ρ=match f ρ with|some (.bl b)=>some (.bl (!b))|_=>none:=rfl
@[simp] theorem fIf_ev:fIf ft f g ρ=(ft ρ).bind fun b=>if b=true then f ρ else g ρ:=by
 unfold fIf
 cases ft ρ with
 | none=>rfl
 | some b=>cases b<;>rfl
@[simp] theorem fChain_ev:fChain fn fn' f g h ρ=match f ρ with|some t=>(match g ρ with|some u=>(match fn t u with|some (.bl true)=>(match h ρ with|some w=>fn' u w|none=>none)|some (.bl false)=>some (.bl false)|_=>none)|none=>none)|none=>none:=rfl
@[simp] theorem fCall_ev {n:Nat}{M:List T→Option T}:fCall n M fa ρ=(fa ρ).bind fun ts=>if ts.length=n then M ts else none:=by
 unfold fCall
 cases fa ρ<;>rfl
@[simp] theorem fYes_ev:fYes ρ=some true:=rfl
@[simp] theorem foN_ev:foN ρ=some none:=rfl
@[simp] theorem foS_ev:foS f ρ=match f ρ with|some (.int i)=>some (some i)|_=>none:=rfl
@[simp] theorem fCut_ev {lo hi:FO}:fCut f lo hi ρ=(f ρ).bind fun t=>(lo ρ).bind fun l=>(hi ρ).bind fun h=>tCut t l h:=by
 unfold fCut
 cases f ρ with
 | none=>rfl
 | some t =>
   cases lo ρ with
   | none=>rfl
   | some l=>cases hi ρ<;>rfl
@[simp] theorem sNil_ev:sNil ρ=some (.nx ρ):=rfl
@[simp] theorem sSeq_ev:sSeq F G ρ=match F ρ with|some (.nx ρ')=>G ρ'|o=>o:=rfl
@[simp] theorem sRet_ev:sRet f ρ=(f ρ).map .rt:=rfl
@[simp] theorem sRetO_ev {i:Nat}:sRetO i ρ=match ρ[i]? with|some (some (.ow ts))=>some (.rt (.lst ts))|_=>none:=rfl
@[simp] theorem sSet_ev {i:Nat}:sSet i f ρ=(f ρ).map fun t=>.nx (ρ.set i (some (.pu t))):=rfl
@[simp] theorem sOwn_ev {i:Nat}:sOwn i fa ρ=(fa ρ).map fun ts=>.nx (ρ.set i (some (.ow ts))):=rfl
@[simp] theorem sApp_ev {i:Nat}:sApp i f ρ=match ρ[i]? with
 | some (some (.ow ts))=>(match f ρ with|some t=>if ts.length<sizeLine then some (.nx (ρ.set i (some (.ow (ts++[t]))))) else none|none=>none)
 | _=>none:=rfl
@[simp] theorem sIf_ev:sIf ft F G ρ=(ft ρ).bind fun b=>if b=true then F ρ else G ρ:=by
 unfold sIf
 cases ft ρ with
 | none=>rfl
 | some b=>cases b<;>rfl
@[simp] theorem sFor_ev {fg:FG}:sFor fa fg F ρ=(fa ρ).bind fun ts=>loopF fg F ts ρ:=by
 unfold sFor
 cases fa ρ<;>rfl
@[simp] theorem sDrop_ev:sDrop f ρ=(f ρ).map fun _=>.nx ρ:=rfl
@[simp] theorem gNm_ev {i:Nat}{t:T}:gNm i t ρ=some (ρ.set i (some (.pu t))):=rfl
@[simp] theorem gTp2_ev {i j:Nat}{a b:T}:gTp2 i j (.tup [a,b]) ρ=some ((ρ.set i (some (.pu a))).set j (some (.pu b))):=rfl
@[simp] theorem fRng_ev:fRng f ρ=(f ρ).bind fun t=>match t with|.int j=>if -(2 ^ 62)≤j∧j<2 ^ 62 then some (rangeT 0 j.toNat) else none|_=>none:=by
 unfold fRng
 cases f ρ with
 | none=>rfl
 | some t=>cases t<;>rfl
@[simp] theorem fRng2_ev:fRng2 f g ρ=(f ρ).bind fun t=>(g ρ).bind fun u=>match t,u with|.int i,.int j=>if -(2 ^ 62)≤i∧i<2 ^ 62 ∧ -(2 ^ 62)≤j∧j<2 ^ 62 then some (rangeT i (j - i).toNat) else none|_,_=>none:=by
 unfold fRng2
 cases f ρ with
 | none=>rfl
 | some t =>
   cases t<;>cases g ρ<;>first|rfl|(rename_i u;cases u<;>rfl)
@[simp] theorem fIt_ev:fIt f ρ=(f ρ).bind fun t=>match t with|.tup ts=>some ts|.lst ts=>some ts|_=>none:=by
 unfold fIt
 cases f ρ with
 | none=>rfl
 | some t=>cases t<;>rfl
@[simp] theorem fComp_ev {ix:List (Option Nat)}{fg:FG}:fComp ix fa fg ft f ρ=(fa ρ).bind fun ts=>if ts.length≤sizeLine then compL fg ft f (subR ix ρ) ts else none:=by
 unfold fComp
 cases fa ρ<;>rfl
@[simp] theorem subR_ev {ix:List (Option Nat)}:subR ix ρ=ix.map fun o=>o.bind fun i=>match ρ[i]? with|some (some (.pu t))=>some (.pu t)|_=>none:=rfl
end
section
variable {i j:Int}
@[simp] theorem tAdd_i:tAdd (.int i) (.int j)=some (.int (i+j)):=rfl
@[simp] theorem tSub_i:tSub (.int i) (.int j)=some (.int (i - j)):=rfl
@[simp] theorem tNeg_i:tNeg (.int i)=some (.int (-i)):=rfl
theorem tMul_i (h:mulOk i j=true):tMul (.int i) (.int j)=some (.int (i * j)):=if_pos h
theorem mulOk_l (h0 : -(2 ^ 64)<i) (h1:i<2 ^ 64):mulOk i j=true:=by simp [mulOk];omega
theorem mulOk_r (h0 : -(2 ^ 64)<j) (h1:j<2 ^ 64):mulOk i j=true:=by simp [mulOk];omega
theorem tMul_l (h0 : -18446744073709551616<i)(h1:i<18446744073709551616):tMul (.int i) (.int j)=some (.int (i * j)):=tMul_i (mulOk_l h0 h1)
theorem tMul_r (h0 : -18446744073709551616<j)(h1:j<18446744073709551616):tMul (.int i) (.int j)=some (.int (i * j)):=tMul_i (mulOk_r h0 h1)
theorem tMd_i (h:0<j):tMd (.int i) (.int j)=some (.int (i % j)):=if_pos h
theorem tFd_i (h:0<j)(h2:j<1073741824):tFd (.int i) (.int j)=some (.int (i / j)):=if_pos ⟨h,h2⟩
@[simp] theorem tLtI_i:tLtI (.int i) (.int j)=some (.bl (decide (i<j))):=rfl
@[simp] theorem tLeI_i:tLeI (.int i) (.int j)=some (.bl (decide (i≤j))):=rfl
@[simp] theorem tGtI_i:tGtI (.int i) (.int j)=some (.bl (decide (j<i))):=rfl
@[simp] theorem tGeI_i:tGeI (.int i) (.int j)=some (.bl (decide (j≤i))):=rfl
theorem dep_int:dep (.int i)=0:=by simp [dep]
theorem dep_bl {b:Bool}:dep (.bl b)=0:=by simp [dep]
@[simp] theorem tEqq_i {u:T}:tEqq (.int i) u=some (.bl (teq (.int i) u)):=if_pos (by rw[dep_int];decide)
@[simp] theorem tEqq_b {b:Bool}{u:T}:tEqq (.bl b) u=some (.bl (teq (.bl b) u)):=if_pos (by rw[dep_bl];decide)
@[simp] theorem tNee_i {u:T}:tNee (.int i) u=some (.bl (!teq (.int i) u)):=if_pos (by rw[dep_int];decide)
@[simp] theorem teq_ii:teq (.int i) (.int j)=(i==j):=by simp [teq]
@[simp] theorem teq_bb {a b:Bool}:teq (.bl a) (.bl b)=(a==b):=by simp [teq]
@[simp] theorem tLen_t {ts:List T}:tLen (.tup ts)=some (.int ts.length):=rfl
@[simp] theorem tLen_l {ts:List T}:tLen (.lst ts)=some (.int ts.length):=rfl
@[simp] theorem tTupOf_t {ts:List T}:tTupOf (.tup ts)=some (.tup ts):=rfl
@[simp] theorem tTupOf_l {ts:List T}:tTupOf (.lst ts)=some (.tup ts):=rfl
@[simp] theorem tLstOf_t {ts:List T}:tLstOf (.tup ts)=some (.lst ts):=rfl
@[simp] theorem tLstOf_l {ts:List T}:tLstOf (.lst ts)=some (.lst ts):=rfl
@[simp] theorem tMin_i:tMin (.int i) (.int j)=some (.int (if j<i then j else i)):=rfl
@[simp] theorem tIx_t {ts:List T}:tIx (.tup ts) (.int i)=atI ts i:=rfl
@[simp] theorem tIx_l {ts:List T}:tIx (.lst ts) (.int i)=atI ts i:=rfl
@[simp] theorem tIs_ev {c:String}{t:T}:tIs c t=some (.bl (isT c t)):=rfl
@[simp] theorem tCut_t {ts:List T}{l h:Option Int}:tCut (.tup ts) l h=some (.tup (cutT ts l h)):=rfl
@[simp] theorem tCut_l {ts:List T}{l h:Option Int}:tCut (.lst ts) l h=some (.lst (cutT ts l h)):=rfl
@[simp] theorem tRev_t {ts:List T}:tRev (.tup ts)=some (.tup ts.reverse):=rfl
end
theorem atI_nat' {α:Type}{xs:List α}{i:Int}{x:α}(h0:0≤i)(h:xs[i.toNat]?=some x):atI xs i=some x:=by
 have hl:i.toNat<xs.length:=(List.getElem?_eq_some_iff.mp h).1
 unfold atI ixN
 rw[if_pos h0,if_pos (by omega)]
 exact h
theorem sizeLine_ge {n:Nat}(h:n≤1000000):n≤sizeLine:=Nat.le_trans h (by decide)
theorem sizeLine_gt {n:Nat}(h:n<1000000):n<sizeLine:=Nat.lt_of_lt_of_le h (by decide)
end TL
namespace TL
open PySem L2
section
variable {ρ ρ' ρ1:Rho}{f g h:FE}{fa:FA}{ft gt:FT}{fn fn':T→T→Option T}{F G R:FS}{t u w:T}{ts us:List T}{a b c:Bool}{i n:Nat}{o:Out}
theorem b_gv (h:ρ[i]?=some (some (.pu t))):gv i ρ=some t:=by unfold gv;rw[h]
theorem b_go (h:ρ[i]?=some (some (.ow ts))):go i ρ=some (.lst ts):=by unfold go;rw[h]
theorem b_kc:kc t ρ=some t:=rfl
theorem b_f1 {fn:T→Option T}(h1:f ρ=some t)(h2:fn t=some u):f1 fn f ρ=some u:=by rw[f1_ev,h1];exact h2
theorem b_f2 (h1:f ρ=some t)(h2:g ρ=some u)(h3:fn t u=some w):f2 fn f g ρ=some w:=by rw[f2_ev,h1,Option.bind_some,h2];exact h3
theorem b_nil:fNil ρ=some []:=rfl
theorem b_cons (h1:f ρ=some t)(h2:fa ρ=some ts):fCons f fa ρ=some (t::ts):=by rw[fCons_ev,h1,Option.bind_some,h2];rfl
theorem b_tup (h1:fa ρ=some ts)(h2:ts.length≤sizeLine):fTup fa ρ=some (.tup ts):=by rw[fTup_ev,h1,Option.bind_some,if_pos h2]
theorem b_lst (h1:fa ρ=some ts)(h2:ts.length≤sizeLine):fLst fa ρ=some ts:=by rw[fLst_ev,h1,Option.bind_some,if_pos h2]
theorem b_new (h1:fa ρ=some ts):fNew fa ρ=some (.lst ts):=by rw[fNew_ev,h1];rfl
theorem b_B (h1:f ρ=some (.bl b)):fB f ρ=some b:=by rw[fB_ev,h1];rfl
theorem b_not (h1:ft ρ=some b):fNot ft ρ=some (!b):=by rw[fNot_ev,h1];rfl
theorem b_and (h1:ft ρ=some a)(h2:a=true→gt ρ=some b):fAnd ft gt ρ=some (a&&b):=by
 rw[fAnd_ev,h1,Option.bind_some]
 cases a with
 | true=>rw[if_pos rfl,h2 rfl];rfl
 | false=>rw[if_neg Bool.false_ne_true];rfl
theorem b_or (h1:ft ρ=some a)(h2:a=false→gt ρ=some b):fOr ft gt ρ=some (a||b):=by
 rw[fOr_ev,h1,Option.bind_some]
 cases a with
 | true=>rw[if_pos rfl];rfl
 | false=>rw[if_neg Bool.false_ne_true,h2 rfl];rfl
theorem b_andV (h1:f ρ=some (.bl a)) (h2:a=true→g ρ=some (.bl b)):fAndV f g ρ=some (.bl (a&&b)):=by
 rw[fAndV_ev,h1]
 cases a with
 | true=>exact h2 rfl
 | false=>rfl
theorem b_orV (h1:f ρ=some (.bl a)) (h2:a=false→g ρ=some (.bl b)):fOrV f g ρ=some (.bl (a||b)):=by
 rw[fOrV_ev,h1]
 cases a with
 | true=>rfl
 | false=>exact h2 rfl
theorem b_notV (h1:f ρ=some (.bl a)):fNotV f ρ=some (.bl (!a)):=by rw[fNotV_ev,h1]
theorem b_if (h1:ft ρ=some b)(h2:b=true→f ρ=some t)(h3:b=false→g ρ=some u):fIf ft f g ρ=some (if b=true then t else u):=by
 rw[fIf_ev,h1,Option.bind_some]
 cases b with
 | true=>exact h2 rfl
 | false=>exact h3 rfl
theorem b_chain (h1:f ρ=some t)(h2:g ρ=some u)(h3:fn t u=some (.bl a)) (h4:a=true→h ρ=some w)(h5:a=true→fn' u w=some (.bl b)):fChain fn fn' f g h ρ=some (.bl (a&&b)):=by
 rw[fChain_ev,h1]
 dsimp only
 rw[h2]
 dsimp only
 rw[h3]
 cases a with
 | true=>dsimp only;rw[h4 rfl];exact h5 rfl
 | false=>rfl
theorem b_call {M:List T→Option T}(h1:fa ρ=some ts)(h2:ts.length=n)(h3:M ts=some t):fCall n M fa ρ=some t:=by rw[fCall_ev,h1,Option.bind_some,if_pos h2];exact h3
theorem b_oN:foN ρ=some none:=rfl
theorem b_oS {i:Int}(h1:f ρ=some (.int i)):foS f ρ=some (some i):=by rw[foS_ev,h1]
theorem b_cut {lo hi:FO}{l h:Option Int}(h1:f ρ=some t)(h2:lo ρ=some l)(h3:hi ρ=some h)(h4:tCut t l h=some u):fCut f lo hi ρ=some u:=by rw[fCut_ev,h1,Option.bind_some,h2,Option.bind_some,h3];exact h4
theorem b_rng {j:Int}(h1:f ρ=some (.int j)) (h2 : -(2 ^ 62)≤j) (h3:j<2 ^ 62):fRng f ρ=some (rangeT 0 j.toNat):=by
 rw[fRng_ev,h1,Option.bind_some]
 exact if_pos ⟨h2,h3⟩
theorem b_rng2 {i j:Int}(h1:f ρ=some (.int i)) (h2:g ρ=some (.int j)) (h3 : -(2 ^ 62)≤i) (h4:i<2 ^ 62)(h5 : -(2 ^ 62)≤j) (h6:j<2 ^ 62):fRng2 f g ρ=some (rangeT i (j - i).toNat):=by
 rw[fRng2_ev,h1,Option.bind_some,h2,Option.bind_some]
 exact if_pos ⟨h3,h4,h5,h6⟩
theorem b_itT (h1:f ρ=some (.tup ts)):fIt f ρ=some ts:=by rw[fIt_ev,h1];rfl
theorem b_itL (h1:f ρ=some (.lst ts)):fIt f ρ=some ts:=by rw[fIt_ev,h1];rfl
theorem b_comp {ix:List (Option Nat)}{fg:FG}(h1:fa ρ=some ts)(h2:ts.length≤sizeLine)(h3:subR ix ρ=ρ1)(h4:compL fg ft f ρ1 ts=some us):fComp ix fa fg ft f ρ=some us:=by
 rw[fComp_ev,h1,Option.bind_some,if_pos h2,h3];exact h4
theorem b_yes:fYes ρ=some true:=rfl
theorem b_set (h1:f ρ=some t)(h2:ρ.set i (some (.pu t))=ρ'):sSet i f ρ=some (.nx ρ'):=by rw[sSet_ev,h1,← h2];rfl
theorem b_own (h1:fa ρ=some ts)(h2:ρ.set i (some (.ow ts))=ρ'):sOwn i fa ρ=some (.nx ρ'):=by rw[sOwn_ev,h1,← h2];rfl
theorem b_app (h1:ρ[i]?=some (some (.ow ts))) (h2:f ρ=some t)(h3:ts.length<sizeLine)(h4:ρ.set i (some (.ow (ts++[t])))=ρ'):sApp i f ρ=some (.nx ρ'):=by
 rw[sApp_ev,h1]
 dsimp only
 rw[h2]
 dsimp only
 rw[if_pos h3,h4]
theorem b_drop (h1:f ρ=some t):sDrop f ρ=some (.nx ρ):=by rw[sDrop_ev,h1];rfl
theorem b_snil:sNil ρ=some (.nx ρ):=rfl
theorem b_ret (h1:f ρ=some t)(h2:t=u):sRet f ρ=some (.rt u):=by rw[sRet_ev,h1,h2];rfl
theorem b_retO (h1:ρ[i]?=some (some (.ow ts))) (h2:ts=us):sRetO i ρ=some (.rt (.lst us)):=by rw[sRetO_ev,h1,h2]
theorem b_seq (h1:F ρ=some (.nx ρ')) (h2:G ρ'=some o):sSeq F G ρ=some o:=by rw[sSeq_ev,h1];exact h2
theorem b_sif (h1:ft ρ=some b)(h2:b=true→F ρ=some o)(h3:b=false→G ρ=some o):sIf ft F G ρ=some o:=by
 rw[sIf_ev,h1,Option.bind_some]
 cases b with
 | true=>exact h2 rfl
 | false=>exact h3 rfl
theorem b_seqIf (h1:ft ρ=some b)(h2:b=true→sSeq F R ρ=some o)(h3:b=false→sSeq G R ρ=some o):sSeq (sIf ft F G) R ρ=some o:=by
 have e:sSeq (sIf ft F G) R ρ=if b=true then sSeq F R ρ else sSeq G R ρ:=by
  simp only[sSeq_ev,sIf_ev,h1,Option.bind_some]
  cases b<;>rfl
 rw[e]
 cases b with
 | true=>exact h2 rfl
 | false=>exact h3 rfl
theorem b_seqSeq {S:FS}(h:sSeq F (sSeq G S) ρ=some o):sSeq (sSeq F G) S ρ=some o:=by
 rw[← h]
 simp only[sSeq_ev]
 cases F ρ with
 | none=>rfl
 | some q=>cases q<;>rfl
theorem b_seqRet (h:sRet f ρ=some o):sSeq (sRet f) R ρ=some o:=by
 rw[← h]
 simp only[sSeq_ev,sRet_ev]
 cases f ρ<;>rfl
theorem b_seqNil (h:R ρ=some o):sSeq sNil R ρ=some o:=h
theorem b_for {fg:FG}(h1:fa ρ=some ts)(h2:loopF fg F ts ρ=some o):sFor fa fg F ρ=some o:=by rw[sFor_ev,h1];exact h2
theorem b_run {N:Nat}(h1:F (ts.map (fun t=>some (.pu t))++List.replicate (N - ts.length) none)=some (.rt t)):TL.run N F ts=some t:=by unfold TL.run;rw[h1]
end
noncomputable def thenO (G:FS):Out→Option Out
 | .nx ρ=>G ρ
 | o=>some o
theorem b_seqFor {fg:FG}{fa:FA}{F G:FS}{ρ:Rho}{ts:List T}{o1 o:Out}(h1:fa ρ=some ts)(h2:loopF fg F ts ρ=some o1)(h3:thenO G o1=some o):sSeq (sFor fa fg F) G ρ=some o:=by
 rw[sSeq_ev,sFor_ev,h1,Option.bind_some,h2,← h3]
 cases o1<;>rfl
theorem b_thenN {G:FS}{ρ:Rho}{o:Out}(h:G ρ=some o):thenO G (.nx ρ)=some o:=h
theorem b_thenR {G:FS}{t u:T}(h:t=u):thenO G (.rt t)=some (.rt u):=by rw[h];rfl
theorem vacB {p:Prop}{x:Option T}(h:p→False):p→x=some (.bl false):=fun q=>(h q).elim
theorem vacT {p:Prop}{x:Option Bool}(h:p→False):p→x=some false:=fun q=>(h q).elim
theorem vacE {p:Prop}{x:Option T}(h:p→False):p→x=some .non:=fun q=>(h q).elim
theorem vacO {p:Prop}{x:Option Out}{o:Out}(h:p→False):p→x=some o:=fun q=>(h q).elim
theorem set_z {x y:Option Sl}{r:Rho}:(x::r).set 0 y=y::r:=rfl
theorem set_s {x y:Option Sl}{r r':Rho}{i:Nat}(h:r.set i y=r'):(x::r).set (i+1) y=x::r':=by rw[← h];rfl
theorem get_z {x:Option Sl}{r:Rho}:(x::r)[0]?=some x:=rfl
theorem get_s {x y:Option Sl}{r:Rho}{i:Nat}(h:r[i]?=some x):(y::r)[i+1]?=some x:=h
theorem sub_z {r:Rho}:subR [] r=[]:=rfl
theorem sub_n {ix:List (Option Nat)}{r r':Rho}(h:subR ix r=r'):subR (none::ix) r=none::r':=by rw[← h];rfl
theorem sub_s {ix:List (Option Nat)}{r r':Rho}{i:Nat}{t:T}(h0:r[i]?=some (some (.pu t))) (h:subR ix r=r'):subR (some i::ix) r=some (.pu t)::r':=by
 rw[← h]
 show(match r[i]? with|some (some (.pu t))=>some (Sl.pu t)|_=>none)::_=_
 rw[h0]
 rfl
theorem len_z:([]:List T).length=0:=rfl
theorem len_s {t:T}{ts:List T}{n:Nat}(h:ts.length=n):(t::ts).length=n+1:=by rw[← h];rfl
theorem b_gNm {i:Nat}{t:T}{ρ ρ':Rho}(h:ρ.set i (some (.pu t))=ρ'):gNm i t ρ=some ρ':=by rw[← h];rfl
theorem b_gTp2 {i j:Nat}{a b:T}{ρ ρ1 ρ':Rho}(h1:ρ.set i (some (.pu a))=ρ1) (h2:ρ1.set j (some (.pu b))=ρ'):gTp2 i j (.tup [a,b]) ρ=some ρ':=by rw[← h2,← h1];rfl
@[simp] theorem rangeT_length {lo:Int}{n:Nat}:(rangeT lo n).length=n:=by unfold rangeT;simp
theorem ev_eq {α:Type}{x:Option α}{a b:α}(h:x=some a)(e:a=b):x=some b:=by rw[h,e]
theorem loopF_ixR {g:FG}{b:FS}(R:Nat→Rho→Prop)(Q:T→Prop):∀(ts:List T) (k:Nat)(ρ:Rho),
  (∀(i:Nat)(t:T)(ρ:Rho),ts[i]?=some t→R (k+i) ρ→∃ ρ1,g t ρ=some ρ1∧((∃ ρ2,(b ρ1=some (.nx ρ2)∨b ρ1=some (.ct ρ2))∧R (k+i+1) ρ2)∨(∃ v,b ρ1=some (.rt v)∧Q v)))→R k ρ →
  (∃ ρ2,loopF g b ts ρ=some (.nx ρ2)∧R (k+ts.length) ρ2)∨(∃ v,loopF g b ts ρ=some (.rt v)∧Q v)
 | [],k,ρ,_,r=>.inl ⟨ρ,rfl,r⟩
 | t::ts,k,ρ,h,r=>by
   obtain⟨ρ1,h1,h2⟩:=h 0 t ρ rfl r
   unfold loopF
   rw[h1]
   dsimp only
   rcases h2 with⟨ρ2,h2,h3⟩|⟨v,h2,h3⟩
   ·have ih:=loopF_ixR (g:=g) (b:=b) R Q ts (k+1) ρ2 (fun i t ρ e r=>by
     have:=h (i+1) t ρ e (by rw[show k+(i+1)=k+1+i by omega];exact r)
     rw[show k+(i+1)=k+1+i by omega] at this
     exact this) h3
    rw[show k+(t::ts).length=k+1+ts.length by simp;omega]
    rcases h2 with h2|h2<;>(rw[h2];exact ih)
   ·rw[h2]
    exact .inr ⟨v,rfl,h3⟩
theorem loopF_ix {g:FG}{b:FS}(R:Nat→Rho→Prop)(ts:List T)(ρ:Rho)
  (h:∀(i:Nat)(t:T)(ρ:Rho),ts[i]?=some t→R i ρ→∃ ρ1 ρ2,g t ρ=some ρ1∧b ρ1=some (.nx ρ2)∧R (i+1) ρ2) (r:R 0 ρ):∃ ρ2,loopF g b ts ρ=some (.nx ρ2)∧R ts.length ρ2:=by
 have:=loopF_ixR (g:=g) (b:=b) R (fun _=>False) ts 0 ρ (fun i t ρ e r=>by
  rw[Nat.zero_add] at r ⊢
  obtain⟨ρ1,ρ2,h1,h2,h3⟩:=h i t ρ e r
  exact⟨ρ1,h1,.inl ⟨ρ2,.inl h2,h3⟩⟩) r
 rw[Nat.zero_add] at this
 rcases this with h|⟨_,_,z⟩
 ·exact h
 ·exact z.elim
theorem loopF_range {g:FG}{b:FS}(R:Nat→Rho→Prop) (n:Nat)(ρ:Rho)
  (h:∀(i:Nat)(ρ:Rho),i<n→R i ρ→∃ ρ1 ρ2,g (.int (i:Int)) ρ=some ρ1∧b ρ1=some (.nx ρ2)∧R (i+1) ρ2) (r:R 0 ρ):∃ ρ2,loopF g b (rangeT 0 n) ρ=some (.nx ρ2)∧R n ρ2:=by
 have:=loopF_ix (g:=g) (b:=b) R (rangeT 0 n) ρ (fun i t ρ e r=>by
  have hi:i<n:=by
   have:=(List.getElem?_eq_some_iff.mp e).1
   rw[rangeT_length] at this;exact this
  unfold rangeT at e
  rw[List.getElem?_map,List.getElem?_range hi] at e
  simp at e
  subst e
  exact h i ρ hi r) r
 rw[rangeT_length] at this
 exact this
@[simp] theorem isT_non {c:String}:isT c .non=false:=rfl
@[simp] theorem isT_bl {c:String}{b:Bool}:isT c (.bl b)=(c=="bool"||c=="int"):=rfl
@[simp] theorem isT_int {c:String}{i:Int}:isT c (.int i)=(c=="int"):=rfl
@[simp] theorem isT_str {c:String}{x:Str}:isT c (.str x)=(c=="str"):=rfl
@[simp] theorem isT_tup {c:String}{ts:List T}:isT c (.tup ts)=(c=="tuple"):=rfl
@[simp] theorem isT_lst {c:String}{ts:List T}:isT c (.lst ts)=(c=="list"):=rfl
@[simp] theorem isT_dct {c:String}{d:List (List Nat×List Nat)}:isT c (.dct d)=(c=="dict"):=rfl
theorem tAll_map {α:Type}{f:α→Bool}{xs:List α}:tAll (.lst (xs.map fun x=>T.bl (f x)))=some (.bl (xs.all f)):=by
 unfold tAll
 dsimp only
 rw[if_pos (by rw[List.all_map];simp [List.all_eq_true])]
 rw[List.all_map]
 rfl
theorem tAny_map {α:Type}{f:α→Bool}{xs:List α}:tAny (.lst (xs.map fun x=>T.bl (f x)))=some (.bl (xs.any f)):=by
 unfold tAny
 dsimp only
 rw[if_pos (by rw[List.all_map];simp [List.all_eq_true])]
 rw[List.any_map]
 rfl
theorem tEqq_d {t u:T}(h:dep t≤60):tEqq t u=some (.bl (teq t u)):=if_pos h
theorem tNee_d {t u:T}(h:dep t≤60):tNee t u=some (.bl (!teq t u)):=if_pos h
theorem tInn_t {t:T}{ts:List T}(h:∀ y∈ts,dep y≤60):tInn false t (.tup ts)=some (.bl (ts.any fun y=>teq y t)):=if_pos (List.all_eq_true.mpr fun y hy=>decide_eq_true (h y hy))
theorem tInn_l {t:T}{ts:List T}(h:∀ y∈ts,dep y≤60):tInn false t (.lst ts)=some (.bl (ts.any fun y=>teq y t)):=if_pos (List.all_eq_true.mpr fun y hy=>decide_eq_true (h y hy))
theorem tNin_t {t:T}{ts:List T}(h:∀ y∈ts,dep y≤60):tInn true t (.tup ts)=some (.bl (!ts.any fun y=>teq y t)):=if_pos (List.all_eq_true.mpr fun y hy=>decide_eq_true (h y hy))
theorem tNin_l {t:T}{ts:List T}(h:∀ y∈ts,dep y≤60):tInn true t (.lst ts)=some (.bl (!ts.any fun y=>teq y t)):=if_pos (List.all_eq_true.mpr fun y hy=>decide_eq_true (h y hy))
theorem tAdd_t {as bs:List T}(h:as.length+bs.length≤sizeLine):tAdd (.tup as) (.tup bs)=some (.tup (as++bs)):=if_pos h
theorem tAdd_l {as bs:List T}(h:as.length+bs.length≤sizeLine):tAdd (.lst as) (.lst bs)=some (.lst (as++bs)):=if_pos h
theorem tMul_t {as:List T}{k:Int}(h:0≤k∧k<1000000∧as.length * k.toNat≤sizeLine):tMul (.tup as) (.int k)=some (.tup (List.replicate k.toNat as).flatten):=if_pos h
theorem tIx_t' {ts:List T}{i:Int}{x:T}(h:atI ts i=some x):tIx (.tup ts) (.int i)=some x:=h
theorem tIx_l' {ts:List T}{i:Int}{x:T}(h:atI ts i=some x):tIx (.lst ts) (.int i)=some x:=h
theorem tIs_i {c:String}{t:T}:tIs c t=some (.bl (isT c t)):=rfl
theorem tStr_i {i:Int}(h:i.natAbs.log2<1920):tStrOf (.int i)=some (.str (toString i)):=if_pos h
end TL
namespace TL
open PySem L2
section
variable {f g:FE}{fz gz:FZ}{ρ:Rho}{t:T}{ts us:List T}{ms ns:List Nat}
noncomputable def itOf:T→Option (List T)
 | .tup ts=>some ts
 | .lst ts=>some ts
 | _=>none
theorem itOf_t:itOf (.tup ts)=some ts:=rfl
theorem itOf_l:itOf (.lst ts)=some ts:=rfl
theorem b_it (h1:f ρ=some t)(h2:itOf t=some ts):fIt f ρ=some ts:=by
 cases t with
 | tup us=>cases h2;exact b_itT h1
 | lst us=>cases h2;exact b_itL h1
 | _=>cases h2
theorem b_enum (h1:f ρ=some t)(h2:itOf t=some ts)(h3:enumT ts=us):fEnum f ρ=some us:=by
 subst h3
 unfold fEnum
 rw[h1]
 cases t with
 | tup us=>cases h2;rfl
 | lst us=>cases h2;rfl
 | _=>cases h2
theorem b_lrng {j:Int}(h1:f ρ=some (.int j)) (h2:0≤j)(h3:j≤1000000):fLRng f ρ=some (rangeT 0 j.toNat):=by
 unfold fLRng
 rw[h1]
 dsimp only
 rw[if_pos ⟨h2,by omega⟩]
 unfold rangeT;simp
theorem b_sorted (h1:fz ρ=some ms):fSorted fz ρ=some (ms.map fun(i:Nat)=>T.int (i:Int)):=by unfold fSorted;rw[h1];rfl
theorem b_setOf (h1:f ρ=some (.tup ts)) (h2:natsOf ts=some ms):fSetOf f ρ=some (insAll [] ms):=by unfold fSetOf;rw[h1];dsimp only;rw[h2];rfl
theorem b_setOr (h1:fz ρ=some ms)(h2:gz ρ=some ns):fSetOr fz gz ρ=some (insAll ms ns):=by unfold fSetOr;rw[h1];dsimp only;rw[h2]
theorem b_ext {i:Nat}{ρ':Rho}(h1:ρ[i]?=some (some (.ow ts))) (h2:f ρ=some (.lst us)) (h3:ts.length+us.length≤sizeLine)(h4:ρ.set i (some (.ow (ts++us)))=ρ'):sExt i f ρ=some (.nx ρ'):=by
 unfold sExt
 rw[h1]
 dsimp only
 rw[h2]
 dsimp only
 rw[if_pos h3,h4]
noncomputable def truOf:T→Option Bool
 | .tup ts=>some !ts.isEmpty
 | .lst ts=>some !ts.isEmpty
 | .bl b=>some b
 | _=>none
theorem truOf_t:truOf (.tup ts)=some !ts.isEmpty:=rfl
theorem truOf_l:truOf (.lst ts)=some !ts.isEmpty:=rfl
theorem truOf_b {b:Bool}:truOf (.bl b)=some b:=rfl
theorem b_tru {b:Bool}(h1:f ρ=some t)(h2:truOf t=some b):fTru f ρ=some b:=by
 unfold fTru
 rw[h1]
 cases t<;>first|exact h2|cases h2
theorem tIndex_l {u:T}(h1:∀ y∈ts,dep y≤60)(h2:idxT ts u<ts.length):tIndex (.lst ts) u=some (.int (idxT ts u:Int)):=if_pos ⟨List.all_eq_true.mpr fun y hy=>decide_eq_true (h1 y hy),h2⟩
theorem unR_map:∀ ks:List Nat,unR (ks.map fun(i:Nat)=>T.int (i:Int))=some ks
 | []=>rfl
 | k::ks=>by
   rw[List.map_cons]
   unfold unR
   rw[if_pos (by omega),unR_map ks]
   simp
theorem b_pick {lo hi st:FO}{l h:Option Int}{k:Int}(h1:f ρ=some (.lst ts)) (h2:lo ρ=some l)(h3:hi ρ=some h)(h4:st ρ=some (some k)) (h5:k≠0)(h6:(pickT ts l h (some k)).length≤sizeLine):fPick f lo hi st ρ=some (pickT ts l h (some k)):=by
 unfold fPick
 rw[h1];dsimp only
 rw[h2];dsimp only
 rw[h3];dsimp only
 rw[h4];dsimp only
 rw[if_pos ⟨h5,h6⟩]
theorem b_sortI {ks:List Nat}(h1:f ρ=some (.lst ts)) (h2:unR ts=some ks)(h3:ks.length<64):fSortI f ρ=some ((srt ks).map fun(i:Nat)=>T.int (i:Int)):=by
 unfold fSortI
 rw[h1];dsimp only
 rw[h2];dsimp only
 rw[if_pos h3]
theorem unN_tup (ks:List Nat):unN (.tup (ks.map fun(i:Nat)=>T.int (i:Int)))=some ks:=unR_map ks
theorem loopW_fold {c:FT}{b:FS}(R:Nat→Rho→Prop)(D:Rho→Prop)(h:∀ k ρ,R k ρ→(c ρ=some false∧D ρ)∨(c ρ=some true∧∃ ρ' k',b ρ=some (.nx ρ')∧k'<k∧R k' ρ')) :
  ∀(k n:Nat)(ρ:Rho),k<n→R k ρ→∃ ρ',loopW c b n ρ=some (.nx ρ')∧D ρ':=by
 intro k
 induction k using Nat.strongRecOn with
 | _ k ih =>
   intro n ρ hn hr
   obtain⟨n,rfl⟩:∃ m,n=m+1:=⟨n - 1,by omega⟩
   unfold loopW
   rcases h k ρ hr with⟨h1,h2⟩|⟨h1,ρ',k',h2,h3,h4⟩
   ·rw[h1];exact⟨ρ,rfl,h2⟩
   ·rw[h1]
    dsimp only
    rw[h2]
    exact ih k' h3 n ρ' (by omega) h4
theorem b_while {n:Nat}{c:FT}{b:FS}{o:Out}(h:loopW c b n ρ=some o):sWhile n c b ρ=some o:=h
end
end TL
namespace G
open PySem L2 TL
noncomputable def F__law_drawn:FS :=
  (sSeq (sSet 2 (f2 tMd (f2 tMul (f2 tAdd (f2 tAdd (gv 0) (f2 tMul (kc (.int 104729)) (gv 1))) (kc (.int 17))) (kc (.int 69621))) (kc (.int 2147483647))))
  (sRet (f2 tMd (f2 tAdd (f2 tAdd (f2 tMul (gv 2) (gv 2)) (f2 tMul (kc (.int 3)) (gv 2))) (gv 1)) (kc (.int 2147483629)))))
noncomputable def M__law_drawn:List T→Option T:=run 3 F__law_drawn
theorem I__law_drawn {a0 a1 t:T}(h:F__law_drawn [some (.pu a0),some (.pu a1),none]=some (.rt t)):M__law_drawn [a0,a1]=some t:=b_run (F:=F__law_drawn) h
noncomputable def C1__law_marks:FT :=
  (fB (f2 tEqq (f2 tMd (fCall 2 M__law_drawn (fCons (gv 1) (fCons (gv 0) fNil))) (gv 2)) (kc (.int 0))))
noncomputable def F__law_marks:FS :=
  (sSeq (sSet 2 (f2 tAdd (kc (.int 2)) (f2 tMd (gv 0) (kc (.int 3)))))
  (sRet (f1 tTupOf (fNew (fComp [none,some 0,some 2] (fRng (gv 1)) (gNm 0) C1__law_marks (gv 0))))))
noncomputable def M__law_marks:List T→Option T:=run 3 F__law_marks
theorem I__law_marks {a0 a1 t:T}(h:F__law_marks [some (.pu a0),some (.pu a1),none]=some (.rt t)):M__law_marks [a0,a1]=some t:=b_run (F:=F__law_marks) h
noncomputable def F__law_cell_at:FS :=
  (sSeq (sIf (fB (f2 tLtI (gv 1) (f1 tLen (gv 0))))
   (sRet (f2 tIx (gv 0) (gv 1)))
   sNil)
  (sRet (kc (.int 0))))
noncomputable def M__law_cell_at:List T→Option T:=run 2 F__law_cell_at
theorem I__law_cell_at {a0 a1 t:T}(h:F__law_cell_at [some (.pu a0),some (.pu a1)]=some (.rt t)):M__law_cell_at [a0,a1]=some t:=b_run (F:=F__law_cell_at) h
noncomputable def F__law_mixed:FS :=
  (sSeq (sSet 2 (f2 tMd (f2 tMul (f2 tAdd (f2 tAdd (fCall 2 M__law_cell_at (fCons (gv 0) (fCons (gv 1) fNil))) (f2 tMul (kc (.int 7919)) (gv 1))) (kc (.int 1))) (kc (.int 48271))) (kc (.int 2147483647))))
  (sRet (f2 tMd (f2 tAdd (f2 tAdd (f2 tMul (gv 2) (gv 2)) (f2 tMul (kc (.int 7)) (gv 2))) (gv 1)) (kc (.int 2147483629)))))
noncomputable def M__law_mixed:List T→Option T:=run 3 F__law_mixed
theorem I__law_mixed {a0 a1 t:T}(h:F__law_mixed [some (.pu a0),some (.pu a1),none]=some (.rt t)):M__law_mixed [a0,a1]=some t:=b_run (F:=F__law_mixed) h
noncomputable def C1__law_table:FT :=
  (fB (f2 (tInn true) (gv 0) (gv 1)))
noncomputable def B1__law_table:FS :=
  (sSeq (sSet 5 (fCall 2 M__law_marks (fCons (fCall 2 M__law_mixed (fCons (gv 0) (fCons (f2 tAdd (kc (.int 3)) (gv 4)) fNil))) (fCons (gv 2) fNil))))
   (sSeq (sIf (fB (f2 tEqq (f2 tMd (f2 tFd (fCall 2 M__law_mixed (fCons (gv 0) (fCons (kc (.int 0)) fNil))) (kc (.int 54))) (kc (.int 2))) (kc (.int 1))))
    (sSet 5 (f1 tTupOf (fNew (fComp [none,some 5] (fRng (gv 2)) (gNm 0) C1__law_table (gv 0)))))
    sNil)
   (sApp 3 (gv 5))))
noncomputable def F__law_table:FS :=
  (sSeq (sSet 2 (f2 tAdd (kc (.int 1)) (f2 tMd (fCall 2 M__law_mixed (fCons (gv 0) (fCons (kc (.int 0)) fNil))) (gv 1))))
  (sSeq (sOwn 3 (fLst fNil))
  (sSeq (sFor (fRng (f2 tMin (f2 tMd (f2 tFd (fCall 2 M__law_mixed (fCons (gv 0) (fCons (kc (.int 0)) fNil))) (kc (.int 6))) (kc (.int 9))) (f2 tAdd (kc (.int 1)) (f1 tLen (gv 0))))) (gNm 4)
   B1__law_table)
  (sRet (fTup (fCons (gv 2) (fCons (f1 tTupOf (go 3)) fNil)))))))
noncomputable def M__law_table:List T→Option T:=run 6 F__law_table
theorem I__law_table {a0 a1 t:T}(h:F__law_table [some (.pu a0),some (.pu a1),none,none,none,none]=some (.rt t)):M__law_table [a0,a1]=some t:=b_run (F:=F__law_table) h
noncomputable def E1_shared:FE :=
  (f2 tIx (f2 tIx (gv 1) (kc (.int 1))) (gv 0))
noncomputable def E2_shared:FE :=
  (f2 (tInn false) (gv 1) (gv 0))
noncomputable def C1_shared:FT :=
  (fB (f1 tAll (fNew (fComp [none,some 0] (fIt (gv 1)) (gNm 0) fYes E2_shared))))
noncomputable def F_shared:FS :=
  (sSeq (sSet 2 (fNew (fComp [none,some 0] (fIt (gv 1)) (gNm 0) fYes E1_shared)))
  (sRet (f1 tTupOf (fNew (fComp [none,some 2] (fRng (f2 tIx (gv 0) (kc (.int 0)))) (gNm 0) C1_shared (gv 0))))))
noncomputable def M_shared:List T→Option T:=run 3 F_shared
theorem I_shared {a0 a1 t:T}(h:F_shared [some (.pu a0),some (.pu a1),none]=some (.rt t)):M_shared [a0,a1]=some t:=b_run (F:=F_shared) h
noncomputable def E1_are_among:FE :=
  (f2 (tInn false) (gv 0) (gv 1))
noncomputable def F_are_among:FS :=
  (sRet (f1 tAll (fNew (fComp [none,some 1] (fIt (gv 0)) (gNm 0) fYes E1_are_among))))
noncomputable def M_are_among:List T→Option T:=run 2 F_are_among
theorem I_are_among {a0 a1 t:T}(h:F_are_among [some (.pu a0),some (.pu a1)]=some (.rt t)):M_are_among [a0,a1]=some t:=b_run (F:=F_are_among) h
noncomputable def C1_having:FT :=
  (fB (fCall 2 M_are_among (fCons (gv 2) (fCons (gv 1) fNil))))
noncomputable def F_having:FS :=
  (sRet (f1 tTupOf (fNew (fComp [none,none,some 1] (fEnum (f2 tIx (gv 0) (kc (.int 1)))) (gTp2 0 1) C1_having (gv 0)))))
noncomputable def M_having:List T→Option T:=run 2 F_having
theorem I_having {a0 a1 t:T}(h:F_having [some (.pu a0),some (.pu a1)]=some (.rt t)):M_having [a0,a1]=some t:=b_run (F:=F_having) h
noncomputable def C1_things_above:FT :=
  (fB (f2 tNee (f2 tIx (f2 tIx (gv 1) (kc (.int 1))) (gv 0)) (gv 2)))
noncomputable def F_things_above:FS :=
  (sRet (fNew (fComp [none,some 0,some 1] (fIt (fCall 2 M_having (fCons (gv 0) (fCons (gv 1) fNil)))) (gNm 0) C1_things_above (gv 0))))
noncomputable def M_things_above:List T→Option T:=run 2 F_things_above
theorem I_things_above {a0 a1 t:T}(h:F_things_above [some (.pu a0),some (.pu a1)]=some (.rt t)):M_things_above [a0,a1]=some t:=b_run (F:=F_things_above) h
noncomputable def F_is_spared:FS :=
  (sRet (f2 tEqq (fCall 2 M_shared (fCons (gv 0) (fCons (fCall 2 M_things_above (fCons (gv 0) (fCons (gv 1) fNil))) fNil))) (gv 1)))
noncomputable def M_is_spared:List T→Option T:=run 2 F_is_spared
theorem I_is_spared {a0 a1 t:T}(h:F_is_spared [some (.pu a0),some (.pu a1)]=some (.rt t)):M_is_spared [a0,a1]=some t:=b_run (F:=F_is_spared) h
noncomputable def C1_plain:FT :=
  (fNot (fB (fCall 2 M_is_spared (fCons (gv 1) (fCons (gv 0) fNil)))))
noncomputable def F_plain:FS :=
  (sSeq (sSet 1 (fNew (fSortLen (fNew (fSortS64 (f2 tIx (gv 0) (kc (.int 1))))))))
  (sRet (fTup (fCons (f2 tIx (gv 0) (kc (.int 0))) (fCons (f1 tTupOf (fNew (fComp [none,some 0] (fIt (gv 1)) (gNm 0) C1_plain (gv 0)))) fNil)))))
noncomputable def M_plain:List T→Option T:=run 2 F_plain
theorem I_plain {a0 t:T}(h:F_plain [some (.pu a0),none]=some (.rt t)):M_plain [a0]=some t:=b_run (F:=F_plain) h
noncomputable def E1_one_more:FE :=
  (f2 tAdd (gv 1) (fTup (fCons (gv 0) fNil)))
noncomputable def B1_one_more:FS :=
  (sSeq (sSet 4 (fIf (fTru (gv 3)) (f2 tAdd (f2 tIx (gv 3) (f1 tNeg (kc (.int 1)))) (kc (.int 1))) (kc (.int 0))))
   (sExt 2 (fNew (fComp [none,some 3] (fRng2 (gv 4) (gv 1)) (gNm 0) fYes E1_one_more))))
noncomputable def F_one_more:FS :=
  (sSeq (sOwn 2 (fLst fNil))
  (sSeq (sFor (fIt (gv 0)) (gNm 3)
   B1_one_more)
  (sRetO 2)))
noncomputable def M_one_more:List T→Option T:=run 5 F_one_more
theorem I_one_more {a0 a1 t:T}(h:F_one_more [some (.pu a0),some (.pu a1),none,none,none]=some (.rt t)):M_one_more [a0,a1]=some t:=b_run (F:=F_one_more) h
noncomputable def C1_all_marks:FT :=
  (fTru (gv 2))
noncomputable def B1_all_marks:FS :=
  (sSeq (sExt 1 (gv 2))
   (sSet 2 (fCall 2 M_one_more (fCons (gv 2) (fCons (gv 0) fNil)))))
noncomputable def F_all_marks:FS :=
  (sSeq (sOwn 1 (fLst fNil))
  (sSeq (sSet 2 (fNew (fLst (fCons (fTup fNil) fNil))))
  (sSeq (sWhile 100000 C1_all_marks
   B1_all_marks)
  (sRet (f1 tTupOf (go 1))))))
noncomputable def M_all_marks:List T→Option T:=run 3 F_all_marks
theorem I_all_marks {a0 t:T}(h:F_all_marks [some (.pu a0),none,none]=some (.rt t)):M_all_marks [a0]=some t:=b_run (F:=F_all_marks) h
noncomputable def F_closed:FS :=
  (sRet (fCall 2 M_shared (fCons (gv 0) (fCons (fCall 2 M_having (fCons (gv 0) (fCons (gv 1) fNil))) fNil))))
noncomputable def M_closed:List T→Option T:=run 2 F_closed
theorem I_closed {a0 a1 t:T}(h:F_closed [some (.pu a0),some (.pu a1)]=some (.rt t)):M_closed [a0,a1]=some t:=b_run (F:=F_closed) h
noncomputable def C1_closed_marks:FT :=
  (fB (f2 tEqq (fCall 2 M_closed (fCons (gv 1) (fCons (gv 0) fNil))) (gv 0)))
noncomputable def F_closed_marks:FS :=
  (sRet (fNew (fComp [none,some 0] (fIt (fCall 1 M_all_marks (fCons (f2 tIx (gv 0) (kc (.int 0))) fNil))) (gNm 0) C1_closed_marks (gv 0))))
noncomputable def M_closed_marks:List T→Option T:=run 1 F_closed_marks
theorem I_closed_marks {a0 t:T}(h:F_closed_marks [some (.pu a0)]=some (.rt t)):M_closed_marks [a0]=some t:=b_run (F:=F_closed_marks) h
noncomputable def E1_notions:FE :=
  (fTup (fCons (fCall 2 M_having (fCons (gv 1) (fCons (gv 0) fNil))) (fCons (gv 0) fNil)))
noncomputable def F_notions:FS :=
  (sRet (f1 tTupOf (fNew (fComp [none,some 0] (fIt (fCall 1 M_closed_marks (fCons (gv 0) fNil))) (gNm 0) fYes E1_notions))))
noncomputable def M_notions:List T→Option T:=run 1 F_notions
theorem I_notions {a0 t:T}(h:F_notions [some (.pu a0)]=some (.rt t)):M_notions [a0]=some t:=b_run (F:=F_notions) h
noncomputable def E1__law_marks_of:FE :=
  (f2 tIx (gv 0) (kc (.int 1)))
noncomputable def F__law_marks_of:FS :=
  (sRet (fNew (fComp [none] (fIt (fCall 1 M_notions (fCons (gv 0) fNil))) (gNm 0) fYes E1__law_marks_of)))
noncomputable def M__law_marks_of:List T→Option T:=run 1 F__law_marks_of
theorem I__law_marks_of {a0 t:T}(h:F__law_marks_of [some (.pu a0)]=some (.rt t)):M__law_marks_of [a0]=some t:=b_run (F:=F__law_marks_of) h
noncomputable def E1_about:FE :=
  (fCall 2 M_having (fCons (gv 1) (fCons (fTup (fCons (gv 0) fNil)) fNil)))
noncomputable def F_about:FS :=
  (sSeq (sSet 1 (f1 tLen (f2 tIx (gv 0) (kc (.int 1)))))
  (sSeq (sIf (fNot (fB (fChain tLeI tLeI (kc (.int 1)) (gv 1) (kc (.int 6)))))
   sNo
   sNil)
  (sRet (fTup (fCons (gv 1) (fCons (f1 tTupOf (fNew (fComp [none,some 0] (fRng (f2 tIx (gv 0) (kc (.int 0)))) (gNm 0) fYes E1_about))) fNil))))))
noncomputable def M_about:List T→Option T:=run 2 F_about
theorem I_about {a0 t:T}(h:F_about [some (.pu a0),none]=some (.rt t)):M_about [a0]=some t:=b_run (F:=F_about) h
noncomputable def F_beside:FS :=
  (sSeq (sIf (fB (f2 tNee (f2 tIx (gv 0) (kc (.int 0))) (f2 tIx (gv 1) (kc (.int 0)))))
   sNo
   sNil)
  (sSeq (sSet 2 (f2 tAdd (f2 tIx (gv 0) (kc (.int 1))) (f2 tIx (gv 1) (kc (.int 1)))))
  (sSeq (sIf (fB (f2 tGtI (f1 tLen (gv 2)) (kc (.int 64))))
   sNo
   sNil)
  (sRet (fTup (fCons (f2 tIx (gv 0) (kc (.int 0))) (fCons (gv 2) fNil)))))))
noncomputable def M_beside:List T→Option T:=run 3 F_beside
theorem I_beside {a0 a1 t:T}(h:F_beside [some (.pu a0),some (.pu a1),none]=some (.rt t)):M_beside [a0,a1]=some t:=b_run (F:=F_beside) h
noncomputable def C1_places_in:FT :=
  (fB (f2 (tInn false) (gv 1) (gv 2)))
noncomputable def F_places_in:FS :=
  (sRet (f1 tTupOf (fNew (fComp [none,none,some 0] (fEnum (gv 1)) (gTp2 0 1) C1_places_in (gv 0)))))
noncomputable def M_places_in:List T→Option T:=run 2 F_places_in
theorem I_places_in {a0 a1 t:T}(h:F_places_in [some (.pu a0),some (.pu a1)]=some (.rt t)):M_places_in [a0,a1]=some t:=b_run (F:=F_places_in) h
noncomputable def E1_only:FE :=
  (fCall 2 M_places_in (fCons (gv 0) (fCons (gv 1) fNil)))
noncomputable def F_only:FS :=
  (sSeq (sIf (fNot (fTru (gv 1)))
   sNo
   sNil)
  (sRet (fTup (fCons (f1 tLen (gv 1)) (fCons (f1 tTupOf (fNew (fComp [none,some 1] (fIt (f2 tIx (gv 0) (kc (.int 1)))) (gNm 0) fYes E1_only))) fNil)))))
noncomputable def M_only:List T→Option T:=run 2 F_only
theorem I_only {a0 a1 t:T}(h:F_only [some (.pu a0),some (.pu a1)]=some (.rt t)):M_only [a0,a1]=some t:=b_run (F:=F_only) h
noncomputable def E1_law:FE :=
  (fTup (fCons (gv 1) (fCons (gv 0) fNil)))
noncomputable def B1_law:FS :=
  (sIf (fB (f2 tEqq (fCall 1 M__law_marks_of (fCons (fTup (fCons (gv 2) (fCons (f2 tAdd (fCut (f2 tIx (gv 4) (kc (.int 1))) foN (foS (gv 6))) (fCut (f2 tIx (gv 4) (kc (.int 1))) (foS (f2 tAdd (gv 6) (kc (.int 1)))) foN)) fNil))) fNil)) (gv 5)))
    (sRet (kc (.bl false)))
    sNil)
noncomputable def C1_law:FT :=
  (fB (f2 (tInn false) (f2 tIx (gv 1) (gv 0)) (gv 2)))
noncomputable def B2_law:FS :=
  (sApp 8 (f1 tTupOf (fNew (fComp [none,some 7,some 9] (fRng (f1 tLen (gv 7))) (gNm 0) C1_law (gv 0)))))
noncomputable def R11_law:FS :=
  (sRet (f2 tEqq (fNew (fSortR (fCall 1 M__law_marks_of (fCons (fCall 2 M_only (fCons (gv 1) (fCons (gv 7) fNil))) fNil)))) (fNew (fSortS64 (go 8)))))
noncomputable def R10_law:FS :=
  (sSeq (sFor (fIt (gv 5)) (gNm 9)
   B2_law)
  R11_law)
noncomputable def R9_law:FS :=
  (sSeq (sOwn 8 (fLst fNil))
  R10_law)
noncomputable def R8_law:FS :=
  (sSeq (sIf (fB (f2 tEqq (gv 7) (fTup fNil)))
   (sRet (kc (.bl true)))
   sNil)
  R9_law)
noncomputable def R7_law:FS :=
  (sSeq (sSet 7 (fCall 2 M__law_marks (fCons (fCall 2 M__law_mixed (fCons (gv 0) (fCons (kc (.int 12)) fNil))) (fCons (gv 2) fNil))))
  R8_law)
noncomputable def R6_law:FS :=
  (sSeq (sFor (fRng (f1 tLen (f2 tIx (gv 4) (kc (.int 1))))) (gNm 6)
   B1_law)
  R7_law)
noncomputable def R5_law:FS :=
  (sSeq (sIf (fOr (fB (f2 tNee (fCall 1 M__law_marks_of (fCons (gv 4) fNil)) (gv 5))) (fB (f2 tNee (fCall 1 M__law_marks_of (fCons (fCall 2 M_beside (fCons (gv 1) (fCons (gv 1) fNil))) fNil)) (gv 5))))
   (sRet (kc (.bl false)))
   sNil)
  R6_law)
noncomputable def R4_law:FS :=
  (sSeq (sSet 5 (fCall 1 M__law_marks_of (fCons (gv 1) fNil)))
  R5_law)
noncomputable def R3_law:FS :=
  (sSeq (sSet 4 (fCall 1 M_plain (fCons (gv 1) fNil)))
  R4_law)
noncomputable def R2_law:FS :=
  (sSeq (sIf (fB (fChain tLtI tLtI (kc (.int 0)) (f1 tLen (f2 tIx (gv 1) (kc (.int 1)))) (kc (.int 7))))
   (sSeq (sSet 3 (fCall 1 M_about (fCons (gv 1) fNil)))
   (sSeq (sIf (fB (f2 tNee (fCall 1 M_about (fCons (gv 3) fNil)) (gv 1)))
    (sRet (kc (.bl false)))
    sNil)
   (sIf (fB (f2 tNee (fNew (fSortPr (fCall 1 M_notions (fCons (gv 3) fNil)))) (fNew (fSortPr (fNew (fComp [none,none] (fIt (fCall 1 M_notions (fCons (gv 1) fNil))) (gTp2 0 1) fYes E1_law))))))
    (sRet (kc (.bl false)))
    sNil)))
   sNil)
  R3_law)
noncomputable def R1_law:FS :=
  (sSeq (sSet 2 (f2 tIx (gv 1) (kc (.int 0))))
  R2_law)
noncomputable def F_law:FS :=
  (sSeq (sSet 1 (fCall 2 M__law_table (fCons (gv 0) (fCons (kc (.int 6)) fNil))))
  R1_law)
noncomputable def M_law:List T→Option T:=run 10 F_law
theorem I_law {a0 t:T}(h:F_law [some (.pu a0),none,none,none,none,none,none,none,none,none]=some (.rt t)):M_law [a0]=some t:=b_run (F:=F_law) h
end G
namespace G
set_option maxHeartbeats 4000000
open PySem L2 TL
local macro_rules|`(tactic| walk_at "tl call")=>`(tactic| fail "no call")
local macro_rules|`(tactic| walk_at "tl op")=>`(tactic| first
 | with_reducible exact tAdd_i|with_reducible exact tSub_i|with_reducible exact tLtI_i|with_reducible exact tLeI_i|with_reducible exact tGtI_i|with_reducible exact tGeI_i|with_reducible exact tEqq_i|with_reducible exact tEqq_b|with_reducible exact tNee_i|with_reducible exact tLen_t|with_reducible exact tLen_l|with_reducible exact tTupOf_l|with_reducible exact tTupOf_t|with_reducible exact tLstOf_t|with_reducible exact tLstOf_l|with_reducible exact tMin_i|with_reducible exact tIs_i|with_reducible exact tCut_t|with_reducible exact tCut_l|with_reducible exact tRev_t|with_reducible exact tNeg_i|with_reducible exact tAll_map|with_reducible exact tAny_map
 | with_reducible refine tMul_l (by omega) (by omega)|with_reducible refine tMul_r (by omega) (by omega)|with_reducible refine tMd_i (by omega)|with_reducible refine tFd_i (by omega) (by omega)
 | with_reducible apply tIndex_l|with_reducible apply tIx_t'|with_reducible apply tIx_l'|with_reducible apply tEqq_d|with_reducible apply tNee_d|with_reducible apply tInn_t|with_reducible apply tInn_l|with_reducible apply tNin_t|with_reducible apply tNin_l|with_reducible apply tAdd_t|with_reducible apply tAdd_l|with_reducible apply tMul_t|with_reducible apply tStr_i)
local macro_rules|`(tactic| walk_at "tl E")=>`(tactic| first
 | ((with_reducible apply b_gv);exact rfl)|((with_reducible apply b_go);exact rfl)|with_reducible exact b_kc|with_reducible apply b_f2|with_reducible apply b_f1|with_reducible apply b_call|with_reducible apply b_tup|with_reducible apply b_new|with_reducible apply b_andV|with_reducible apply b_orV|with_reducible apply b_notV|with_reducible apply b_if|with_reducible apply b_chain|with_reducible apply b_cut|with_reducible assumption|walk_at "tl op"|walk_at "tl call")
local macro_rules|`(tactic| walk_at "tl T")=>`(tactic| first|with_reducible exact b_yes|with_reducible exact truOf_t|with_reducible exact truOf_l|with_reducible exact truOf_b|with_reducible apply b_B|with_reducible apply b_not|with_reducible apply b_and|with_reducible apply b_or|with_reducible apply b_tru|with_reducible assumption)
local macro_rules|`(tactic| walk_at "tl A")=>`(tactic| first|with_reducible exact b_nil|with_reducible exact itOf_t|with_reducible exact itOf_l|with_reducible apply b_cons|with_reducible apply b_comp|with_reducible apply b_rng|with_reducible apply b_rng2|with_reducible apply b_it|with_reducible apply b_enum|with_reducible apply b_lrng|with_reducible apply b_sorted|with_reducible apply b_sortI|with_reducible apply b_pick|with_reducible apply b_lst|with_reducible assumption)
local macro_rules|`(tactic| walk_at "tl S")=>`(tactic| first|with_reducible exact b_snil|with_reducible apply b_set|with_reducible apply b_ret|with_reducible apply b_seqIf|with_reducible apply b_seqFor|with_reducible apply b_seqSeq|with_reducible apply b_seqRet|with_reducible apply b_seqNil|with_reducible apply b_seq|with_reducible apply b_sif|with_reducible apply b_for|with_reducible apply b_own|with_reducible apply b_drop|with_reducible apply b_thenN|with_reducible apply b_thenR|with_reducible apply b_while|((with_reducible apply b_app);exact rfl)|((with_reducible apply b_ext);exact rfl)|((with_reducible apply b_retO);exact rfl)|with_reducible assumption|walk_at "tl loop")
local macro_rules|`(tactic| walk_at "tl loop")=>`(tactic| fail "no loop")
local macro_rules|`(tactic| walk_at "tl1")=>`(tactic| first
 | ((with_reducible show(_:Option T)=_);walk_at "tl E")
 | ((with_reducible show(_:Option Bool)=_);walk_at "tl T")
 | ((with_reducible show(_:Option Out)=_);walk_at "tl S")
 | ((with_reducible show(_:Option (List T))=_);walk_at "tl A")
 | ((with_reducible show(_:Option (List Nat))=_);first|with_reducible apply b_setOf|with_reducible apply b_setOr|with_reducible assumption)
 | ((repeat (with_reducible apply set_s));with_reducible exact set_z)
 | ((with_reducible show(_:Option (Option Int))=_);first|with_reducible exact b_oN|with_reducible apply b_oS)
 | with_reducible exact sub_z|with_reducible apply sub_n|((with_reducible apply sub_s);exact rfl)
 | with_reducible exact len_z|with_reducible apply len_s
 | ((with_reducible show dep _≤60);with_reducible assumption)
 | with_reducible rfl|((with_reducible show T.bl _=T.bl _);rfl)
 | ((with_reducible show(_:Int)≤_);omega)|((with_reducible show(_:Int)<_);omega)
 | ((with_reducible show List.length _≤sizeLine);first|with_reducible assumption|(refine sizeLine_ge ?_;first|omega|(simp<;>omega)))|((with_reducible show List.length _<sizeLine);refine sizeLine_gt ?_;first|omega|(simp<;>omega))
 | ((with_reducible show _+_≤sizeLine);refine sizeLine_ge ?_;first|omega|(simp<;>omega))
 | ((with_reducible show(_=true)→_);first|((with_reducible first|refine vacB ?_|refine vacT ?_|refine vacE ?_|refine vacO ?_);(intro htl;simp at htl<;>omega))|intro htl)|((with_reducible show(_=false)→_);first|((with_reducible first|refine vacB ?_|refine vacT ?_|refine vacE ?_|refine vacO ?_);(intro htl;simp at htl<;>omega))|intro htl)
 | walk_at "tl call")
local macro_rules|`(tactic| walk_at "tl")=>`(tactic| ((repeat' walk_at "tl1");all_goals (try exact true)))
noncomputable abbrev scr (ns:List Int):T:=.lst (ns.map T.int)
theorem cell_ev (ns:List Int) (k:Int)(hk:0≤k):M__law_cell_at [scr ns,.int k]=some (.int (ns.getD k.toNat 0)):=by
 refine I__law_cell_at ?_
 unfold F__law_cell_at
 by_cases h:k.toNat<ns.length
 ·have h2:=atI_nat' (xs:=ns.map T.int) (i:=k) (x:=T.int (ns.getD k.toNat 0)) (by omega) (by simp [h])
  walk_at "tl"
 ·walk_at "tl"
  simp [h]
local macro_rules|`(tactic| walk_at "tl call")=>`(tactic| with_reducible refine cell_ev _ _ (by omega))
noncomputable def mx (ns:List Int) (k:Int):Int :=
 ((ns.getD k.toNat 0+7919 * k+1) * 48271 % 2147483647 * ((ns.getD k.toNat 0+7919 * k+1) * 48271 % 2147483647)+7 * ((ns.getD k.toNat 0+7919 * k+1) * 48271 % 2147483647)+k) % 2147483629
theorem mixed_ev (ns:List Int) (k:Int)(hk:0≤k):M__law_mixed [scr ns,.int k]=some (.int (mx ns k)):=by
 refine I__law_mixed ?_
 unfold F__law_mixed
 walk_at "tl"
 rfl
local macro_rules|`(tactic| walk_at "tl call")=>`(tactic| with_reducible refine mixed_ev _ _ (by omega))
noncomputable def dr (n k:Int):Int :=
 ((n+104729 * k+17) * 69621 % 2147483647 * ((n+104729 * k+17) * 69621 % 2147483647)+3 * ((n+104729 * k+17) * 69621 % 2147483647)+k) % 2147483629
theorem drawn_ev (n k:Int):M__law_drawn [.int n,.int k]=some (.int (dr n k)):=by
 refine I__law_drawn ?_
 unfold F__law_drawn
 walk_at "tl"
 rfl
local macro_rules|`(tactic| walk_at "tl call")=>`(tactic| with_reducible exact drawn_ev _ _)
noncomputable abbrev tN (i:Nat):T:=T.int (i:Int)
noncomputable abbrev tupN (ms:List Nat):T:=.tup (ms.map tN)
theorem rangeT_map (n:Nat):rangeT 0 n=(List.range n).map tN:=by
 unfold rangeT;simp
theorem compL_nat {g:FG}{c:FT}{e:FE}{ρ:Rho}(p:Nat→Bool)(ms:List Nat)(h:∀ j,j∈ms→∃ ρ1,g (tN j) ρ=some ρ1∧c ρ1=some (p j)∧(p j=true→e ρ1=some (tN j))) :
  compL g c e ρ (ms.map tN)=some ((ms.filter p).map tN):=by
 induction ms with
 | nil=>rfl
 | cons a r ih =>
   have ih:=ih fun j hj=>h j (List.mem_cons_of_mem _ hj)
   obtain⟨ρ1,h1,h2,h3⟩:=h a List.mem_cons_self
   rw[List.map_cons]
   unfold compL
   rw[h1]
   dsimp only
   rw[h2]
   cases hp:p a with
   | false =>
     dsimp only
     rw[ih,List.filter_cons_of_neg (by rw[hp];exact Bool.false_ne_true)]
   | true =>
     dsimp only
     rw[h3 hp,ih,List.filter_cons_of_pos hp]
     rfl
noncomputable def mk (n:Int) (m:Nat):List Nat:=(List.range m).filter fun j=>dr n (j:Int) % (2+n % 3)==0
theorem marks_ev (n m:Int)(h0:0≤m)(hm:m≤1000):M__law_marks [.int n,.int m]=some (tupN (mk n m.toNat)):=by
 have key:compL (gNm 0) C1__law_marks (gv 0) [none,some (Sl.pu (T.int n)),some (Sl.pu (T.int (2+n % 3)))] (rangeT 0 m.toNat)=some ((mk n m.toNat).map tN):=by
  rw[rangeT_map]
  refine compL_nat _ _ fun j hj=>⟨_,b_gNm set_z,?_,fun _=>rfl⟩
  unfold C1__law_marks
  apply ev_eq
  walk_at "tl"
  simp
 refine I__law_marks ?_
 unfold F__law_marks
 walk_at "tl"
local macro_rules|`(tactic| walk_at "tl call")=>`(tactic| with_reducible refine marks_ev _ _ (by omega) (by omega))
structure Mks (m:Nat)(ms:List Nat):Prop where
 lt:∀ j∈ms,j<m
 up:ms.Pairwise (·<·)
theorem Mks.filter {m:Nat}(p:Nat→Bool):Mks m ((List.range m).filter p):=⟨fun j hj=>List.mem_range.mp (List.mem_filter.mp hj).1,(List.pairwise_lt_range).filter _⟩
theorem mk_ok (n:Int) (m:Nat):Mks m (mk n m):=.filter _
theorem Mks.len {m:Nat}{ms:List Nat}(h:Mks m ms):ms.length≤m:=by
 have:=h.up
 have key:∀(l:List Nat) (k:Nat),l.Pairwise (·<·)→(∀ j∈l,k≤j∧j<m)→k≤m→l.length+k≤m:=by
  intro l
  induction l with
  | nil=>intro k _ _ h;simpa using h
  | cons a r ih =>
    intro k hp hb hk
    rw[List.pairwise_cons] at hp
    have ha:=hb a List.mem_cons_self
    have:=ih (a+1) hp.2 (fun j hj=>⟨hp.1 j hj,(hb j (List.mem_cons_of_mem _ hj)).2⟩) ha.2
    simp only[List.length_cons];omega
 simpa using key ms 0 h.up (fun j hj=>⟨Nat.zero_le _,h.lt j hj⟩) (Nat.zero_le _)
theorem in_tupN (ms:List Nat) (j:Nat):((ms.map tN).any fun y=>teq y (tN j))=ms.contains j:=by
 rw[List.any_map]
 induction ms with
 | nil=>rfl
 | cons a r ih =>
   simp only[List.any_cons,Function.comp,teq_ii,List.contains_cons] at ih ⊢
   rw[ih]
   congr 1
   rw[Bool.eq_iff_iff]
   simp
   omega
theorem dep_tN (ms:List Nat):∀ y∈ms.map tN,dep y≤60:=by
 intro y hy
 obtain⟨j,_,rfl⟩:=List.mem_map.mp hy
 rw[dep_int];decide
local macro_rules|`(tactic| walk_at "tl call")=>`(tactic| with_reducible exact dep_tN _)
noncomputable def rowOf (ns:List Int) (m j:Nat):List Nat :=
 if mx ns 0 / 54 % 2=1 then (List.range m).filter fun i=>!(mk (mx ns (3+(j:Int))) m).contains i else mk (mx ns (3+(j:Int))) m
theorem rowOf_ok (ns:List Int) (m j:Nat):Mks m (rowOf ns m j):=by
 unfold rowOf
 split
 ·exact .filter _
 ·exact mk_ok _ _
theorem table_turn (ns:List Int) (most m:Int) (j:Nat)(rs:List T)(o5:Option Sl)(h0:0≤m)(hm:m≤1000)(hr:rs.length<1000) :
  B1__law_table [some (.pu (scr ns)),some (.pu (.int most)),some (.pu (.int m)),some (.ow rs),some (.pu (tN j)),o5]=some (.nx [some (.pu (scr ns)),some (.pu (.int most)),some (.pu (.int m)),some (.ow (rs++[tupN (rowOf ns m.toNat j)])),some (.pu (tN j)),some (.pu (tupN (rowOf ns m.toNat j)))]):=by
 unfold B1__law_table rowOf
 have key:compL (gNm 0) C1__law_table (gv 0) [none,some (Sl.pu (tupN (mk (mx ns (3+(j:Int))) m.toNat)))] (rangeT 0 m.toNat)=some (((List.range m.toNat).filter fun i=>!(mk (mx ns (3+(j:Int))) m.toNat).contains i).map tN):=by
  rw[rangeT_map]
  refine compL_nat _ _ fun i hi=>⟨_,b_gNm set_z,?_,fun _=>rfl⟩
  unfold C1__law_table
  apply ev_eq
  walk_at "tl"
  rw[in_tupN]
 by_cases hc:mx ns 0 / 54 % 2=1
 ·rw[if_pos hc]
  walk_at "tl"
 ·rw[if_neg hc]
  walk_at "tl"
noncomputable def mOf (ns:List Int) (most:Int):Nat:=(1+mx ns 0 % most).toNat
noncomputable def thOf (ns:List Int):Nat:=(if 1+((ns.map T.int).length:Int)<mx ns 0 / 6 % 9 then 1+((ns.map T.int).length:Int) else mx ns 0 / 6 % 9).toNat
noncomputable def rowsOf (ns:List Int) (m:Nat):List (List Nat):=(List.range (thOf ns)).map (rowOf ns m)
theorem rowsOf_ok (ns:List Int) (m:Nat):∀ r∈rowsOf ns m,Mks m r:=by
 intro r hr
 obtain⟨j,_,rfl⟩:=List.mem_map.mp hr
 exact rowOf_ok _ _ _
theorem rowsOf_len (ns:List Int) (m:Nat):(rowsOf ns m).length≤8:=by
 unfold rowsOf thOf
 simp
 omega
theorem mOf_eq (ns:List Int) (most:Int)(h:0<most):(mOf ns most:Int)=1+mx ns 0 % most:=by
 unfold mOf
 have:=Int.emod_nonneg (mx ns 0) (show most≠0 by omega)
 omega
theorem mOf_ok (ns:List Int) (most:Int)(h:0<most):1≤mOf ns most∧(mOf ns most:Int)≤most:=by
 have e:=mOf_eq ns most h
 have a:=Int.emod_nonneg (mx ns 0) (show most≠0 by omega)
 have b:=Int.emod_lt_of_pos (mx ns 0) h
 omega
theorem table_ev (ns:List Int) (most:Int)(h0:0<most)(h1:most≤6):M__law_table [scr ns,.int most]=some (.tup [tN (mOf ns most),.tup ((rowsOf ns (mOf ns most)).map tupN)]):=by
 have hm:=mOf_ok ns most h0
 have em:=mOf_eq ns most h0
 obtain⟨ρ2,hl,o4,o5,e⟩:=loopF_range (g:=gNm 4) (b:=B1__law_table) (fun i ρ=>∃ o4 o5,ρ=[some (.pu (scr ns)),some (.pu (.int most)),some (.pu (.int (1+mx ns 0 % most))),some (.ow (((List.range i).map (rowOf ns (mOf ns most))).map tupN)),o4,o5]) (thOf ns)
  [some (.pu (scr ns)),some (.pu (.int most)),some (.pu (.int (1+mx ns 0 % most))),some (.ow []),none,none] (fun i ρ hi ⟨o4,o5,e⟩=>by
   subst e
   refine⟨_,_,b_gNm (set_s (set_s (set_s (set_s set_z)))),table_turn ns most (1+mx ns 0 % most) i _ o5 (by omega) (by omega) ?_,some (.pu (tN i)),some (.pu (tupN (rowOf ns (1+mx ns 0 % most).toNat i))),?_⟩
   ·simp;unfold thOf at hi;omega
   ·rw[List.range_succ,List.map_append,List.map_append];rfl) ⟨none,none,rfl⟩
 subst e
 unfold thOf at hl
 refine I__law_table ?_
 unfold F__law_table
 walk_at "tl"
 rw[← em];rfl
local macro_rules|`(tactic| walk_at "tl call")=>`(tactic| with_reducible refine table_ev _ _ (by omega) (by omega))
noncomputable def sub (a b:List Nat):Bool:=a.all fun j=>b.contains j
theorem sub_iff {a b:List Nat}:sub a b=true↔∀ j∈a,j∈b:=by simp [sub]
theorem compL_allN {g:FG}{c:FT}{e:FE}{ρ:Rho}{α:Type}(k:α→T)(p:α→Bool)(as:List α)(h:∀ a∈as,∃ ρ1,g (k a) ρ=some ρ1∧c ρ1=some true∧e ρ1=some (.bl (p a))) :
  compL g c e ρ (as.map k)=some (as.map fun a=>T.bl (p a)):=by
 induction as with
 | nil=>rfl
 | cons a r ih =>
   have ih:=ih fun j hj=>h j (List.mem_cons_of_mem _ hj)
   obtain⟨ρ1,h1,h2,h3⟩:=h a List.mem_cons_self
   rw[List.map_cons]
   unfold compL
   rw[h1]
   dsimp only
   rw[h2]
   dsimp only
   rw[h3,ih]
   rfl
theorem compL_to {g:FG}{c:FT}{e:FE}{ρ:Rho}{α:Type}(k k':α→T)(p:α→Bool)(as:List α)(h:∀ a∈as,∃ ρ1,g (k a) ρ=some ρ1∧c ρ1=some (p a)∧(p a=true→e ρ1=some (k' a))) :
  compL g c e ρ (as.map k)=some ((as.filter p).map k'):=by
 induction as with
 | nil=>rfl
 | cons a r ih =>
   have ih:=ih fun j hj=>h j (List.mem_cons_of_mem _ hj)
   obtain⟨ρ1,h1,h2,h3⟩:=h a List.mem_cons_self
   rw[List.map_cons]
   unfold compL
   rw[h1]
   dsimp only
   rw[h2]
   cases hp:p a with
   | false =>
     dsimp only
     rw[ih,List.filter_cons_of_neg (by rw[hp];exact Bool.false_ne_true)]
   | true =>
     dsimp only
     rw[h3 hp,ih,List.filter_cons_of_pos hp]
     rfl
theorem among_ev (a b:List Nat)(ha:a.length≤1000):M_are_among [tupN a,tupN b]=some (.bl (sub a b)):=by
 have key:compL (gNm 0) fYes E1_are_among [none,some (Sl.pu (tupN b))] (a.map tN)=some (a.map fun j=>T.bl (b.contains j)):=by
  refine compL_allN tN _ _ fun j hj=>⟨_,b_gNm set_z,rfl,?_⟩
  unfold E1_are_among
  apply ev_eq
  walk_at "tl"
  rw[in_tupN]
 refine I_are_among ?_
 unfold F_are_among
 walk_at "tl"
local macro_rules|`(tactic| walk_at "tl call")=>`(tactic| with_reducible refine among_ev _ _ (by first|assumption|omega))
noncomputable abbrev tbl (m:Nat)(rows:List (List Nat)):T:=.tup [tN m,.tup (rows.map tupN)]
noncomputable def row (rows:List (List Nat)) (i:Nat):List Nat:=rows.getD i []
theorem row_at {rows:List (List Nat)}{i:Nat}(h:i<rows.length):rows[i]?=some (row rows i):=by simp [row,h]
theorem row_mem {rows:List (List Nat)}{i:Nat}(h:i<rows.length):row rows i∈rows:=List.mem_of_getElem? (row_at h)
theorem row_atI {rows:List (List Nat)}{i:Nat}(h:i<rows.length):atI (rows.map tupN) (i:Int)=some (tupN (row rows i)) :=
 atI_nat' (by omega) (by rw[Int.toNat_natCast,List.getElem?_map,row_at h];rfl)
noncomputable def hav (rows:List (List Nat)) (ms:List Nat):List Nat:=(List.range rows.length).filter fun i=>sub ms (row rows i)
theorem hav_lt {rows:List (List Nat)}{ms:List Nat}{i:Nat}(h:i∈hav rows ms):i<rows.length:=List.mem_range.mp (List.mem_filter.mp h).1
theorem enum_rows (rows:List (List Nat)):enumT (rows.map tupN)=(List.range rows.length).map fun i=>T.tup [tN i,tupN (row rows i)]:=by
 unfold enumT
 rw[List.length_map]
 refine List.map_congr_left fun i hi=>?_
 have:=List.mem_range.mp hi
 simp [row,this]
theorem atI2_0 {a b:T}:atI [a,b] (0:Int)=some a:=rfl
theorem atI2_1 {a b:T}:atI [a,b] (1:Int)=some b:=rfl
local macro_rules|`(tactic| walk_at "tl call")=>`(tactic| with_reducible exact atI2_0)
local macro_rules|`(tactic| walk_at "tl call")=>`(tactic| with_reducible exact atI2_1)
theorem having_ev (m:Nat)(rows:List (List Nat)) (ms:List Nat)(hr:rows.length≤1000)(hm:ms.length≤1000):M_having [tbl m rows,tupN ms]=some (tupN (hav rows ms)):=by
 have key:compL (gTp2 0 1) C1_having (gv 0) [none,none,some (Sl.pu (tupN ms))] (enumT (rows.map tupN))=some ((hav rows ms).map tN):=by
  rw[enum_rows]
  refine compL_to (fun i=>T.tup [tN i,tupN (row rows i)]) tN (fun i=>sub ms (row rows i)) (List.range rows.length) fun i hi=>?_
  refine⟨_,b_gTp2 set_z (set_s set_z),?_,fun _=>rfl⟩
  unfold C1_having
  walk_at "tl"
 have e:(enumT (rows.map tupN)).length≤sizeLine:=by rw[enum_rows,List.length_map,List.length_range];exact sizeLine_ge (by omega)
 refine I_having ?_
 unfold F_having
 walk_at "tl"
local macro_rules|`(tactic| walk_at "tl call")=>`(tactic| with_reducible refine having_ev _ _ _ (by assumption) (by first|assumption|omega))
noncomputable def shr (m:Nat)(rows:List (List Nat)) (ts:List Nat):List Nat:=(List.range m).filter fun j=>ts.all fun i=>(row rows i).contains j
theorem shared_ev (m:Nat)(rows:List (List Nat)) (ts:List Nat)(hm:m≤1000)(ht:ts.length≤1000)(hi:∀ i∈ts,i<rows.length):M_shared [tbl m rows,tupN ts]=some (tupN (shr m rows ts)):=by
 have key1:compL (gNm 0) fYes E1_shared [none,some (Sl.pu (tbl m rows))] (ts.map tN)=some (ts.map fun i=>tupN (row rows i)):=by
  have:=compL_to (g:=gNm 0) (c:=fYes) (e:=E1_shared) (ρ:=[none,some (Sl.pu (tbl m rows))]) tN (fun i=>tupN (row rows i)) (fun _=>true) ts fun i h=>by
   refine⟨_,b_gNm set_z,rfl,fun _=>?_⟩
   have:=row_atI (hi i h)
   unfold E1_shared
   walk_at "tl"
  rw[List.filter_eq_self.mpr (fun _ _=>rfl)] at this
  exact this
 have key2:∀ j,compL (gNm 0) fYes E2_shared [none,some (Sl.pu (tN j))] (ts.map fun i=>tupN (row rows i))=some (ts.map fun i=>T.bl ((row rows i).contains j)):=fun j=>by
  refine compL_allN (fun i=>tupN (row rows i)) _ _ fun i h=>⟨_,b_gNm set_z,rfl,?_⟩
  unfold E2_shared
  apply ev_eq
  walk_at "tl"
  rw[in_tupN]
 have key3:compL (gNm 0) C1_shared (gv 0) [none,some (Sl.pu (T.lst (ts.map fun i=>tupN (row rows i))))] (rangeT 0 (m:Int).toNat)=some ((shr m rows ts).map tN):=by
  rw[Int.toNat_natCast,rangeT_map]
  refine compL_nat _ _ fun j hj=>⟨_,b_gNm set_z,?_,fun _=>rfl⟩
  have key2:=key2 j
  unfold C1_shared
  walk_at "tl"
 refine I_shared ?_
 unfold F_shared
 walk_at "tl"
local macro_rules|`(tactic| walk_at "tl call")=>`(tactic| with_reducible refine shared_ev _ _ _ (by assumption) (by first|assumption|omega) (by assumption))
noncomputable def cls (m:Nat)(rows:List (List Nat)) (ms:List Nat):List Nat:=shr m rows (hav rows ms)
theorem hav_len (rows:List (List Nat)) (ms:List Nat):(hav rows ms).length≤rows.length:=by
 unfold hav
 have:=List.length_filter_le (fun i=>sub ms (row rows i)) (List.range rows.length)
 simpa using this
theorem closed_ev (m:Nat)(rows:List (List Nat)) (ms:List Nat)(hm:m≤1000)(hr:rows.length≤1000)(hs:ms.length≤1000):M_closed [tbl m rows,tupN ms]=some (tupN (cls m rows ms)):=by
 have h1:=hav_len rows ms
 have h2:∀ i∈hav rows ms,i<rows.length:=fun i hi=>hav_lt hi
 refine I_closed ?_
 unfold F_closed
 walk_at "tl"
 rfl
local macro_rules|`(tactic| walk_at "tl call")=>`(tactic| with_reducible refine closed_ev _ _ _ (by assumption) (by assumption) (by first|assumption|omega))
theorem mem_cls {m:Nat}{rows:List (List Nat)}{ms:List Nat}{j:Nat}:j∈cls m rows ms↔j<m∧∀ r∈rows,(∀ x∈ms,x∈r)→j∈r:=by
 unfold cls shr
 rw[List.mem_filter,List.mem_range,List.all_eq_true]
 refine and_congr_right fun _=>⟨fun h r hr hs=>?_,fun h i hi=>?_⟩
 ·obtain⟨i,hi,e⟩:=List.getElem_of_mem hr
  have e':row rows i=r:=by simp [row,hi,e]
  have:=h i (List.mem_filter.mpr ⟨List.mem_range.mpr hi,by rw[e'];exact sub_iff.mpr hs⟩)
  rw[e'] at this
  simpa using this
 ·have hi':=List.mem_filter.mp hi
  have:=h (row rows i) (row_mem (hav_lt hi)) (sub_iff.mp hi'.2)
  simpa using this
theorem cls_ok (m:Nat)(rows:List (List Nat)) (ms:List Nat):Mks m (cls m rows ms):=.filter _
theorem cls_has {m:Nat}{rows:List (List Nat)}{ms:List Nat}(h:Mks m ms):∀ j∈ms,j∈cls m rows ms:=fun j hj=>mem_cls.mpr ⟨h.lt j hj,fun r _ hs=>hs j hj⟩
theorem Mks.ext {m:Nat}{a b:List Nat}(ha:Mks m a)(hb:Mks m b)(h:∀ x,x∈a↔x∈b):a=b:=sorted_ext ha.up hb.up h
theorem cls_idem {m:Nat}{rows:List (List Nat)}{ms:List Nat}(h:Mks m ms):cls m rows (cls m rows ms)=cls m rows ms:=by
 refine(cls_ok _ _ _).ext (cls_ok _ _ _) fun j=>?_
 rw[mem_cls,mem_cls]
 refine and_congr_right fun _=>⟨fun q r hr hs=>q r hr fun x hx=>(mem_cls.mp hx).2 r hr hs,fun q r hr hs=>q r hr fun x hx=>hs x (cls_has h x hx)⟩
theorem depL_le {ts:List T}{d:Nat}(h:∀ t∈ts,dep t≤d):depL ts≤d:=by
 induction ts with
 | nil=>simp [depL]
 | cons a r ih =>
   have h1:=h a List.mem_cons_self
   have h2:=ih fun t ht=>h t (List.mem_cons_of_mem _ ht)
   simp only[depL]
   omega
theorem dep_tup_le {ts:List T}{d:Nat}(h:∀ t∈ts,dep t≤d):dep (.tup ts)≤d+1:=by
 have:=depL_le h
 simp only[dep];omega
theorem dep_lst_le {ts:List T}{d:Nat}(h:∀ t∈ts,dep t≤d):dep (.lst ts)≤d+1:=by
 have:=depL_le h
 simp only[dep];omega
theorem dep_tN1 (j:Nat):dep (tN j)≤0:=by rw[dep_int];exact Nat.le_refl _
theorem dep_tupN1 (ms:List Nat):dep (tupN ms)≤1:=dep_tup_le fun t ht=>by
 obtain⟨j,_,rfl⟩:=List.mem_map.mp ht
 exact dep_tN1 j
theorem dep_lstN1 (ms:List Nat):dep (.lst (ms.map tN))≤1:=dep_lst_le fun t ht=>by
 obtain⟨j,_,rfl⟩:=List.mem_map.mp ht
 exact dep_tN1 j
theorem dep_tupN (ms:List Nat):dep (tupN ms)≤60:=Nat.le_trans (dep_tupN1 ms) (by decide)
theorem dep_lstN (ms:List Nat):dep (.lst (ms.map tN))≤60:=Nat.le_trans (dep_lstN1 ms) (by decide)
local macro_rules|`(tactic| walk_at "tl call")=>`(tactic| with_reducible exact dep_lstN _)
local macro_rules|`(tactic| walk_at "tl call")=>`(tactic| with_reducible exact dep_tupN _)
theorem teq_tupN (a b:List Nat):teq (tupN a) (tupN b)=decide (a=b):=by
 have:∀ a b:List Nat,teqL (a.map tN) (b.map tN)=decide (a=b):=by
  intro a
  induction a with
  | nil=>intro b;cases b<;>simp [teqL]
  | cons x r ih =>
    intro b
    cases b with
    | nil=>simp [teqL]
    | cons y s =>
      simp only[List.map_cons,teqL,teq_ii,ih]
      rw[Bool.eq_iff_iff]
      simp
      omega
 rw[← this];rfl
theorem teqL_map {α:Type} [DecidableEq α] {k:α→T}(hk:∀ a b,teq (k a) (k b)=decide (a=b)):∀(xs ys:List α),teqL (xs.map k) (ys.map k)=decide (xs=ys)
 | [],[]=>rfl
 | [],_::_=>rfl
 | _::_,[]=>rfl
 | x::xs,y::ys=>by
   simp only[List.map_cons,teqL,hk,teqL_map hk xs ys]
   rw[Bool.eq_iff_iff]
   simp
theorem any_map {α:Type} [DecidableEq α] {k:α→T}(hk:∀ a b,teq (k a) (k b)=decide (a=b)) (xs:List α)(x:α):((xs.map k).any fun y=>teq y (k x))=decide (x∈xs):=by
 rw[List.any_map,Bool.eq_iff_iff,List.any_eq_true]
 simp only[Function.comp,hk,decide_eq_true_eq]
 exact⟨fun⟨y,h1,h2⟩=>h2▸h1,fun h=>⟨x,h,rfl⟩⟩
noncomputable abbrev tP (p:Nat×Nat):T:=.tup [tN p.1,tN p.2]
theorem dep_tP (p:Nat×Nat):dep (tP p)≤1:=dep_tup_le fun t ht=>by
 simp only[List.mem_cons,List.not_mem_nil,or_false] at ht
 rcases ht with rfl|rfl<;>exact dep_tN1 _
theorem dep_prs (ps:List (Nat×Nat)):∀ y∈ps.map tP,dep y≤60:=by
 intro y hy
 obtain⟨p,_,rfl⟩:=List.mem_map.mp hy
 exact Nat.le_trans (dep_tP p) (by decide)
local macro_rules|`(tactic| walk_at "tl call")=>`(tactic| with_reducible exact dep_prs _)
theorem compL_keep {g:FG}{c:FT}{e:FE}{ρ:Rho}{α:Type}(k:α→T)(p:α→Bool)(as:List α)(h:∀ a∈as,∃ ρ1,g (k a) ρ=some ρ1∧c ρ1=some (p a)∧(p a=true→e ρ1=some (k a))) :
  compL g c e ρ (as.map k)=some ((as.filter p).map k):=compL_to k k p as h
theorem compL_each {g:FG}{e:FE}{ρ:Rho}{α:Type}(k k':α→T)(as:List α)(h:∀ a∈as,∃ ρ1,g (k a) ρ=some ρ1∧e ρ1=some (k' a)) :
  compL g fYes e ρ (as.map k)=some (as.map k'):=by
 have:=compL_to (g:=g) (c:=fYes) (e:=e) (ρ:=ρ) k k' (fun _=>true) as fun a ha=>let ⟨r,h1,h2⟩:=h a ha;⟨r,h1,rfl,fun _=>h2⟩
 rw[List.filter_eq_self.mpr (fun _ _=>rfl)] at this
 exact this
theorem loopF_cons {g:FG}{b:FS}{t:T}{ts:List T}{ρ ρ1 ρ2:Rho}{o:Option Out}(h1:g t ρ=some ρ1)(h2:b ρ1=some (.nx ρ2)) (h3:loopF g b ts ρ2=o):loopF g b (t::ts) ρ=o:=by
 unfold loopF
 rw[h1]
 dsimp only
 rw[h2]
 exact h3
noncomputable def nxt (ms:List Nat):Nat:=match ms.getLast? with|some l=>l+1|none=>0
noncomputable def ones (m:Nat)(ms:List Nat):List (List Nat):=(List.range (m - nxt ms)).map fun k=>ms++[nxt ms+k]
noncomputable def more (m:Nat)(lv:List (List Nat)):List (List Nat):=lv.flatMap (ones m)
noncomputable def lvs (m:Nat):Nat→List (List Nat)
 | 0=>[[]]
 | j+1=>more m (lvs m j)
noncomputable def allM (m:Nat):List (List Nat):=(List.range (m+1)).flatMap (lvs m)
theorem lvs_end:∀ m∈List.range 7,lvs m (m+1)=[]:=by decide +kernel
theorem lvs_facts:∀ m∈List.range 7,∀ j∈List.range (m+1),(lvs m j).isEmpty=false∧(lvs m j).length≤64∧(more m (lvs m j)).length≤64∧∀ ms∈lvs m j,ms.length≤6∧nxt ms≤6:=by decide +kernel
theorem allM_len:∀ m∈List.range 7,(allM m).length≤64:=by decide +kernel
theorem allM_nodup:∀ m∈List.range 7,(allM m).Nodup:=by decide +kernel
theorem allM_in:∀ m∈List.range 7,∀ ms∈allM m,ms∈subs6∧(ms.all fun j=>decide (j<m))=true:=by decide +kernel
theorem allM_has:∀ m∈List.range 7,∀ ms∈subs6,(ms.all fun j=>decide (j<m))=true→ms∈allM m:=by decide +kernel
theorem flat_le (m:Nat):∀ j,j≤m+1→((List.range j).flatMap (lvs m)).length≤(allM m).length:=by
 intro j hj
 unfold allM
 have:List.range (m+1)=List.range j++(List.range (m+1 - j)).map (j+·):=by
  rw[← List.range_add];congr 1;omega
 rw[this,List.flatMap_append,List.length_append]
 omega
theorem mks_sub {m:Nat}{ms:List Nat}(h:Mks m ms)(hm:m≤6):ms∈subs6:=by
 have hl:∀ k∈ms,k<6:=fun k hk=>by have:=h.lt k hk;omega
 obtain⟨h1,h2⟩:=insAll_mem ms subs_nil hl
 have:insAll [] ms=ms:=sorted_ext (subs_sorted _ h1) h.up fun x=>by rw[h2];simp
 rw[this] at h1;exact h1
theorem mem_allM {m:Nat}(hm:m≤6){ms:List Nat}:ms∈allM m↔Mks m ms:=by
 have hm7:m∈List.range 7:=List.mem_range.mpr (by omega)
 constructor
 ·intro h
  obtain⟨h1,h2⟩:=allM_in m hm7 ms h
  exact⟨fun j hj=>by simpa using List.all_eq_true.mp h2 j hj,subs_sorted _ h1⟩
 ·intro h
  exact allM_has m hm7 ms (mks_sub h hm) (List.all_eq_true.mpr fun j hj=>decide_eq_true (h.lt j hj))
theorem last_ev {ms:List Nat}{l:Nat}(h:ms.getLast?=some l):atI (ms.map tN) (-1)=some (tN l):=by
 obtain⟨r,rfl⟩:∃ r,ms=r++[l]:=List.getLast?_eq_some_iff.mp h
 have e:ixN ((r++[l]).map tN).length (-1)=some r.length:=by
  unfold ixN
  rw[if_neg (by decide),List.length_map,List.length_append]
  rw[if_pos (by simp;omega)]
  congr 1
  simp
  omega
 unfold atI
 rw[e]
 simp
theorem one_more_turn (t:T) (m:Nat)(ms:List Nat)(rs:List T)(o4:Option Sl)(hm:m≤1000)(hs:ms.length≤1000)(hn:nxt ms≤1000)(hr:rs.length+(ones m ms).length≤100000) :
  ∃ o4',B1_one_more [some (.pu t),some (.pu (tN m)),some (.ow rs),some (.pu (tupN ms)),o4]=some (.nx [some (.pu t),some (.pu (tN m)),some (.ow (rs++(ones m ms).map tupN)),some (.pu (tupN ms)),o4']):=by
 have key:compL (gNm 0) fYes E1_one_more [none,some (Sl.pu (tupN ms))] (rangeT (nxt ms:Int) ((m:Int) - (nxt ms:Int)).toNat)=some ((ones m ms).map tupN):=by
  have e:rangeT (nxt ms:Int) ((m:Int) - (nxt ms:Int)).toNat=(List.range (m - nxt ms)).map fun(k:Nat)=>tN (nxt ms+k):=by
   unfold rangeT
   rw[show((m:Int) - (nxt ms:Int)).toNat=m - nxt ms by omega]
   refine List.map_congr_left fun k _=>?_
   show T.int _=T.int _
   congr 1
  rw[e]
  have:=compL_to (g:=gNm 0) (c:=fYes) (e:=E1_one_more) (ρ:=[none,some (Sl.pu (tupN ms))]) (fun(k:Nat)=>tN (nxt ms+k)) (fun k=>tupN (ms++[nxt ms+k])) (fun _=>true) (List.range (m - nxt ms)) fun k _=>by
   refine⟨_,b_gNm set_z,rfl,fun _=>?_⟩
   unfold E1_one_more
   apply ev_eq
   walk_at "tl"
   show T.tup _=T.tup _
   rw[List.map_append];rfl
  rw[List.filter_eq_self.mpr (fun _ _=>rfl)] at this
  rw[this]
  unfold ones
  rw[List.map_map];rfl
 have hl2:(rangeT (nxt ms:Int) ((m:Int) - (nxt ms:Int)).toNat).length≤sizeLine:=by
  unfold rangeT;rw[List.length_map,List.length_range];exact sizeLine_ge (by omega)
 have hl3:rs.length+((ones m ms).map tupN).length≤sizeLine:=by rw[List.length_map];exact sizeLine_ge (by omega)
 have e4:fIf (fTru (gv 3)) (f2 tAdd (f2 tIx (gv 3) (f1 tNeg (kc (.int 1)))) (kc (.int 1))) (kc (.int 0)) [some (.pu t),some (.pu (tN m)),some (.ow rs),some (.pu (tupN ms)),o4]=some (.int (nxt ms:Int)):=by
  cases hl:ms.getLast? with
  | none =>
    have e0:ms=[]:=by simpa using hl
    subst e0
    rfl
  | some l =>
    have en:nxt ms=l+1:=by unfold nxt;rw[hl]
    have hne:(ms.map tN).isEmpty=false:=by
     cases ms with
     | nil=>simp at hl
     | cons=>rfl
    have la:=last_ev hl
    apply ev_eq
    walk_at "tl"
    rw[hne,en]
    show T.int _=T.int _
    congr 1
 refine⟨some (.pu (.int (nxt ms:Int))),?_⟩
 unfold B1_one_more
 refine b_seq (b_set e4 (set_s (set_s (set_s (set_s set_z))))) ?_
 walk_at "tl"
theorem one_more_loop (t:T) (m:Nat)(hm:m≤1000):∀(lv:List (List Nat)) (rs:List T)(o3 o4:Option Sl),(∀ ms∈lv,ms.length≤1000∧nxt ms≤1000)→rs.length+(more m lv).length≤100000 →
  ∃ o3' o4',loopF (gNm 3) B1_one_more (lv.map tupN) [some (.pu t),some (.pu (tN m)),some (.ow rs),o3,o4]=some (.nx [some (.pu t),some (.pu (tN m)),some (.ow (rs++(more m lv).map tupN)),o3',o4'])
 | [],rs,o3,o4,_,_=>⟨o3,o4,by simp [more,loopF]⟩
 | ms::lv,rs,o3,o4,h,hr=>by
   have em:more m (ms::lv)=ones m ms++more m lv:=by simp [more]
   rw[em,List.length_append] at hr
   have h1:=h ms List.mem_cons_self
   obtain⟨o4',ht⟩:=one_more_turn t m ms rs o4 hm h1.1 h1.2 (by omega)
   obtain⟨o3'',o4'',ih⟩:=one_more_loop t m hm lv (rs++(ones m ms).map tupN) (some (.pu (tupN ms))) o4' (fun a ha=>h a (List.mem_cons_of_mem _ ha)) (by rw[List.length_append,List.length_map];omega)
   refine⟨o3'',o4'',?_⟩
   rw[List.map_cons]
   have e:gNm 3 (tupN ms) [some (.pu t),some (.pu (tN m)),some (.ow rs),o3,o4]=some [some (.pu t),some (.pu (tN m)),some (.ow rs),some (.pu (tupN ms)),o4]:=rfl
   unfold loopF
   rw[e]
   dsimp only
   rw[ht]
   dsimp only
   rw[ih,em,List.map_append,List.append_assoc]
theorem one_more_ev (m:Nat)(lv:List (List Nat)) (hm:m≤1000)(hl:lv.length≤1000)(h:∀ ms∈lv,ms.length≤1000∧nxt ms≤1000)(hr:(more m lv).length≤100000):M_one_more [.lst (lv.map tupN),tN m]=some (.lst ((more m lv).map tupN)):=by
 obtain⟨o3,o4,hlp⟩:=one_more_loop (.lst (lv.map tupN)) m hm lv [] none none h (by simpa using hr)
 rw[List.nil_append] at hlp
 refine I_one_more ?_
 unfold F_one_more
 walk_at "tl"
theorem all_marks_ev (m:Nat)(hm:m≤6):M_all_marks [tN m]=some (.tup ((allM m).map tupN)):=by
 have hm7:m∈List.range 7:=List.mem_range.mpr (by omega)
 have hal:=allM_len m hm7
 obtain⟨ρ',hw,hD⟩:=loopW_fold (c:=C1_all_marks) (b:=B1_all_marks)
  (fun k ρ=>∃ j,j≤m+1∧k=m+1 - j∧ρ=[some (.pu (tN m)),some (.ow (((List.range j).flatMap (lvs m)).map tupN)),some (.pu (.lst ((lvs m j).map tupN)))])
  (fun ρ=>ρ=[some (.pu (tN m)),some (.ow ((allM m).map tupN)),some (.pu (.lst []))])
  (by
   rintro k ρ ⟨j,hj,rfl,rfl⟩
   by_cases he:j=m+1
   ·subst he
    have e:=lvs_end m hm7
    rw[e]
    exact .inl ⟨rfl,rfl⟩
   ·have f:=lvs_facts m hm7 j (List.mem_range.mpr (by omega))
    have hne:((lvs m j).map tupN).isEmpty=false:=by
     have:=f.1
     cases q:lvs m j with
     | nil=>rw[q] at this;cases this
     | cons=>rfl
    have fl:=flat_le m j hj
    have ho:=one_more_ev m (lvs m j) (by omega) (by omega) (fun ms h=>⟨by have:=(f.2.2.2 ms h).1;omega,by have:=(f.2.2.2 ms h).2;omega⟩) (by omega)
    refine .inr ⟨?_,_,m+1 - (j+1),?_,by omega,j+1,by omega,rfl,rfl⟩
    ·unfold C1_all_marks
     refine b_tru (t:=.lst ((lvs m j).map tupN)) rfl ?_
     rw[truOf_l,hne];rfl
    ·have e1:((List.range (j+1)).flatMap (lvs m)).map tupN=((List.range j).flatMap (lvs m)).map tupN++(lvs m j).map tupN:=by
      rw[List.range_succ,List.flatMap_append,List.map_append];simp
     have hlen:(((List.range j).flatMap (lvs m)).map tupN).length+((lvs m j).map tupN).length≤sizeLine:=by
      rw[List.length_map,List.length_map];exact sizeLine_ge (by omega)
     rw[e1]
     unfold B1_all_marks
     walk_at "tl"
     all_goals first|exact hlen|rfl) (m+1) 100000 [some (.pu (tN m)),some (.ow []),some (.pu (.lst [.tup []]))] (by omega) ⟨0,by omega,rfl,rfl⟩
 subst hD
 refine I_all_marks ?_
 unfold F_all_marks
 walk_at "tl"
local macro_rules|`(tactic| walk_at "tl call")=>`(tactic| with_reducible refine all_marks_ev _ (by first|assumption|omega))
noncomputable def cm (m:Nat)(rows:List (List Nat)):List (List Nat):=(allM m).filter fun ms=>decide (cls m rows ms=ms)
theorem cm_len {m:Nat}(hm:m≤6)(rows:List (List Nat)):(cm m rows).length≤64 :=
 Nat.le_trans (List.length_filter_le _ _) (allM_len m (List.mem_range.mpr (by omega)))
theorem mem_cm {m:Nat}(hm:m≤6){rows:List (List Nat)}{ms:List Nat}:ms∈cm m rows↔Mks m ms∧cls m rows ms=ms:=by
 unfold cm
 rw[List.mem_filter,mem_allM hm]
 simp
theorem closed_marks_ev (m:Nat)(rows:List (List Nat)) (hm:m≤6)(hr:rows.length≤1000):M_closed_marks [tbl m rows]=some (.lst ((cm m rows).map tupN)):=by
 have hm1:m≤1000:=by omega
 have hal:=allM_len m (List.mem_range.mpr (by omega))
 have key:compL (gNm 0) C1_closed_marks (gv 0) [none,some (Sl.pu (tbl m rows))] ((allM m).map tupN)=some ((cm m rows).map tupN):=by
  refine compL_keep tupN _ _ fun ms hms=>⟨_,b_gNm set_z,?_,fun _=>rfl⟩
  have hl:=((mem_allM hm).mp hms).len
  have hl1:ms.length≤1000:=by omega
  unfold C1_closed_marks
  apply ev_eq
  walk_at "tl"
  rw[teq_tupN]
 refine I_closed_marks ?_
 unfold F_closed_marks
 walk_at "tl"
local macro_rules|`(tactic| walk_at "tl call")=>`(tactic| with_reducible refine closed_marks_ev _ _ (by assumption) (by assumption))
noncomputable abbrev nt (rows:List (List Nat)) (ms:List Nat):T:=.tup [tupN (hav rows ms),tupN ms]
theorem notions_ev (m:Nat)(rows:List (List Nat)) (hm:m≤6)(hr:rows.length≤1000):M_notions [tbl m rows]=some (.tup ((cm m rows).map (nt rows))):=by
 have hcl:=cm_len hm rows
 have key:compL (gNm 0) fYes E1_notions [none,some (Sl.pu (tbl m rows))] ((cm m rows).map tupN)=some ((cm m rows).map (nt rows)):=by
  refine compL_each _ _ _ fun ms hms=>⟨_,b_gNm set_z,?_⟩
  have hl:=((mem_cm hm).mp hms).1.len
  have hl1:ms.length≤1000:=by omega
  unfold E1_notions
  walk_at "tl"
 refine I_notions ?_
 unfold F_notions
 walk_at "tl"
local macro_rules|`(tactic| walk_at "tl call")=>`(tactic| with_reducible refine notions_ev _ _ (by assumption) (by assumption))
theorem sharedL_ev (m:Nat)(rows:List (List Nat)) (ts:List Nat)(hm:m≤1000)(ht:ts.length≤1000)(hi:∀ i∈ts,i<rows.length):M_shared [tbl m rows,.lst (ts.map tN)]=some (tupN (shr m rows ts)):=by
 have key1:compL (gNm 0) fYes E1_shared [none,some (Sl.pu (tbl m rows))] (ts.map tN)=some (ts.map fun i=>tupN (row rows i)):=by
  refine compL_each tN (fun i=>tupN (row rows i)) ts fun i h=>⟨_,b_gNm set_z,?_⟩
  have:=row_atI (hi i h)
  unfold E1_shared
  walk_at "tl"
 have key2:∀ j,compL (gNm 0) fYes E2_shared [none,some (Sl.pu (tN j))] (ts.map fun i=>tupN (row rows i))=some (ts.map fun i=>T.bl ((row rows i).contains j)):=fun j=>by
  refine compL_allN (fun i=>tupN (row rows i)) _ _ fun i h=>⟨_,b_gNm set_z,rfl,?_⟩
  unfold E2_shared
  apply ev_eq
  walk_at "tl"
  rw[in_tupN]
 have key3:compL (gNm 0) C1_shared (gv 0) [none,some (Sl.pu (T.lst (ts.map fun i=>tupN (row rows i))))] (rangeT 0 (m:Int).toNat)=some ((shr m rows ts).map tN):=by
  rw[Int.toNat_natCast,rangeT_map]
  refine compL_nat _ _ fun j hj=>⟨_,b_gNm set_z,?_,fun _=>rfl⟩
  have key2:=key2 j
  unfold C1_shared
  walk_at "tl"
 refine I_shared ?_
 unfold F_shared
 walk_at "tl"
local macro_rules|`(tactic| walk_at "tl call")=>`(tactic| with_reducible refine sharedL_ev _ _ _ (by assumption) (by first|assumption|omega) (by assumption))
noncomputable def abv (rows:List (List Nat)) (r:List Nat):List Nat:=(hav rows r).filter fun i=>!decide (row rows i=r)
theorem above_ev (m:Nat)(rows:List (List Nat)) (r:List Nat)(hr:rows.length≤1000)(hl:r.length≤1000):M_things_above [tbl m rows,tupN r]=some (.lst ((abv rows r).map tN)):=by
 have key:compL (gNm 0) C1_things_above (gv 0) [none,some (Sl.pu (tbl m rows)),some (Sl.pu (tupN r))] ((hav rows r).map tN)=some ((abv rows r).map tN):=by
  refine compL_nat _ _ fun i hi=>⟨_,b_gNm set_z,?_,fun _=>rfl⟩
  have:=row_atI (hav_lt hi)
  unfold C1_things_above
  apply ev_eq
  walk_at "tl"
  rw[teq_tupN]
 have l1:=hav_len rows r
 refine I_things_above ?_
 unfold F_things_above
 walk_at "tl"
local macro_rules|`(tactic| walk_at "tl call")=>`(tactic| with_reducible refine above_ev _ _ _ (by assumption) (by first|assumption|omega))
noncomputable def spr (m:Nat)(rows:List (List Nat)) (r:List Nat):Bool:=decide (shr m rows (abv rows r)=r)
theorem spared_ev (m:Nat)(rows:List (List Nat)) (r:List Nat)(hm:m≤1000)(hr:rows.length≤1000)(hl:r.length≤1000):M_is_spared [tbl m rows,tupN r]=some (.bl (spr m rows r)):=by
 have l1:=hav_len rows r
 have l2:(abv rows r).length≤1000:=Nat.le_trans (List.length_filter_le _ _) (Nat.le_trans l1 hr)
 have hi:∀ i∈abv rows r,i<rows.length:=fun i hi=>hav_lt (List.mem_filter.mp hi).1
 refine I_is_spared ?_
 unfold F_is_spared
 walk_at "tl"
 rw[teq_tupN];rfl
local macro_rules|`(tactic| walk_at "tl call")=>`(tactic| with_reducible refine spared_ev _ _ _ (by assumption) (by assumption) (by first|assumption|omega))
theorem rowsT_map:∀ rs:List (List Nat),(∀ r∈rs,r∈subs6)→rowsT (rs.map tupN)=some rs
 | [],_=>rfl
 | r::rs,h=>by
   have e:unN (tupN r)=some r:=unN_tup r
   rw[List.map_cons]
   unfold rowsT
   rw[e]
   dsimp only
   rw[if_pos (h r List.mem_cons_self),rowsT_map rs fun x hx=>h x (List.mem_cons_of_mem _ hx)]
   rfl
theorem b_sortSet {f:FE}{ρ:Rho}{rs:List (List Nat)}(h1:f ρ=some (.tup (rs.map tupN))) (h2:∀ r∈rs,r∈subs6)(h3:rs.length≤64):fSortS64 f ρ=some ((sortR rs).map tupN):=by
 unfold fSortS64
 rw[h1]
 dsimp only
 rw[rowsT_map rs h2]
 dsimp only
 rw[if_pos h3]
 rfl
theorem b_sortLen {f:FE}{ρ:Rho}{rs:List (List Nat)}(h1:f ρ=some (.lst (rs.map tupN))) (h2:∀ r∈rs,r∈subs6)(h3:rs.length<64):fSortLen f ρ=some ((byLen rs).map tupN):=by
 unfold fSortLen
 rw[h1]
 dsimp only
 rw[rowsT_map rs h2]
 dsimp only
 rw[if_pos h3]
 rfl
theorem mem_sortR {rs:List (List Nat)}{r:List Nat}(h:r∈sortR rs):r∈rs:=by
 have:=(List.mem_filter.mp h).2
 simpa using this
theorem nodup_len:∀(rs l:List (List Nat)),l.Nodup→(∀ x∈l,x∈rs)→l.length≤rs.length
 | [],l,_,h=>by
   cases l with
   | nil=>simp
   | cons x l=>exact absurd (h x List.mem_cons_self) (by simp)
 | a::rs,l,hl,h=>by
   by_cases ha:a∈l
   ·have:=nodup_len rs (l.erase a) (hl.erase a) (fun x hx=>by
     obtain⟨h1,h2⟩:=(List.Nodup.mem_erase_iff hl).mp hx
     rcases List.mem_cons.mp (h x h2) with q|q
     ·exact absurd q h1
     ·exact q)
    rw[List.length_erase_of_mem ha] at this
    simp only[List.length_cons]
    omega
   ·have:=nodup_len rs l hl (fun x hx=>by
     rcases List.mem_cons.mp (h x hx) with q|q
     ·subst q;exact absurd hx ha
     ·exact q)
    simp only[List.length_cons]
    omega
theorem lex_nodup:lex64.Nodup:=by decide +kernel
theorem sortR_len (rs:List (List Nat)):(sortR rs).length≤rs.length:=nodup_len _ _ (lex_nodup.filter _) fun x hx=>mem_sortR hx
theorem byLen_filter (l:List (List Nat)) (p:List Nat→Bool):byLen (l.filter p)=(byLen l).filter p:=by
 unfold byLen
 rw[List.filter_flatMap]
 congr 1
 funext k
 rw[List.filter_filter,List.filter_filter]
 congr 1
 funext r
 exact Bool.and_comm _ _
theorem all_len:∀ m∈List.range 7,allM m=(byLen lex64).filter fun r=>r.all fun j=>decide (j<m):=by decide +kernel
theorem plain_rows {m:Nat}{rows:List (List Nat)}(hm:m≤6)(hro:∀ r∈rows,Mks m r):byLen (sortR rows)=(allM m).filter fun r=>rows.contains r:=by
 unfold sortR
 rw[byLen_filter,all_len m (List.mem_range.mpr (by omega)),List.filter_filter]
 congr 1
 funext r
 cases h:rows.contains r with
 | false=>rfl
 | true =>
   have:=hro r (by simpa using h)
   rw[Bool.true_and,eq_comm,List.all_eq_true]
   exact fun j hj=>decide_eq_true (this.lt j hj)
theorem plain_ev {m:Nat}{rows:List (List Nat)}(hm:m≤6)(hr:rows.length<64)(hro:∀ r∈rows,Mks m r):M_plain [tbl m rows]=some (tbl m ((allM m).filter fun r=>rows.contains r&&!spr m rows r)):=by
 have h6:∀ r∈rows,r∈subs6:=fun r h=>mks_sub (hro r h) hm
 have hm1:m≤1000:=by omega
 have hr1:rows.length≤1000:=by omega
 have l1:=sortR_len rows
 have e1:fSortLen (fNew (fSortS64 (f2 tIx (gv 0) (kc (.int 1))))) [some (.pu (tbl m rows)),none]=some ((byLen (sortR rows)).map tupN) :=
  b_sortLen (b_new (b_sortSet (b_f2 (b_gv get_z) b_kc (tIx_t' atI2_1)) h6 (by omega))) (fun r h=>h6 r (mem_sortR h)) (by omega)
 have e2:=plain_rows hm hro
 rw[e2] at e1
 have key:compL (gNm 0) C1_plain (gv 0) [none,some (Sl.pu (tbl m rows))] (((allM m).filter fun r=>rows.contains r).map tupN)=some (((allM m).filter fun r=>rows.contains r&&!spr m rows r).map tupN):=by
  have:=compL_keep (g:=gNm 0) (c:=C1_plain) (e:=gv 0) (ρ:=[none,some (Sl.pu (tbl m rows))]) tupN (fun r=>!spr m rows r) ((allM m).filter fun r=>rows.contains r) fun r h=>by
   refine⟨_,b_gNm set_z,?_,fun _=>rfl⟩
   have hk:=hro r (by simpa using(List.mem_filter.mp h).2)
   have hl:=hk.len
   unfold C1_plain
   walk_at "tl"
  rw[this,List.filter_filter]
  congr 3
  funext r
  exact Bool.and_comm _ _
 have lE:=allM_len m (List.mem_range.mpr (by omega))
 have l3:(((allM m).filter fun r=>rows.contains r).map tupN).length≤sizeLine:=by
  rw[List.length_map];exact sizeLine_ge (Nat.le_trans (List.length_filter_le _ _) (by omega))
 refine I_plain ?_
 unfold F_plain
 refine b_seq (b_set (b_new e1) (set_s set_z)) ?_
 walk_at "tl"
local macro_rules|`(tactic| walk_at "tl call")=>`(tactic| with_reducible refine plain_ev (by assumption) (by omega) (by assumption))
theorem about_c (m:Nat)(rows:List (List Nat)):fNot (fB (fChain tLeI tLeI (kc (.int 1)) (gv 1) (kc (.int 6)))) [some (.pu (tbl m rows)),some (.pu (tN rows.length))]=some (!(decide (1≤rows.length)&&decide (rows.length≤6))):=by
 refine ev_eq (b_not (b_B (b_chain b_kc (b_gv (get_s get_z)) tLeI_i (fun _=>b_kc) (fun _=>tLeI_i)))) ?_
 congr 1
 rw[Bool.eq_iff_iff]
 simp
 omega
theorem about_s (m:Nat)(rows:List (List Nat)):sSet 1 (f1 tLen (f2 tIx (gv 0) (kc (.int 1)))) [some (.pu (tbl m rows)),none]=some (.nx [some (.pu (tbl m rows)),some (.pu (tN rows.length))]) :=
 b_set (t:=tN rows.length) (b_f1 (b_f2 (b_gv get_z) b_kc (tIx_t' atI2_1)) (ev_eq tLen_t (by rw[List.length_map]))) (set_s set_z)
theorem about_ev (m:Nat)(rows:List (List Nat)) (hm:m≤1000)(h1:1≤rows.length)(h2:rows.length≤6):M_about [tbl m rows]=some (.tup [tN rows.length,.tup ((List.range m).map fun j=>tupN (hav rows [j]))]):=by
 have key:compL (gNm 0) fYes E1_about [none,some (Sl.pu (tbl m rows))] (rangeT 0 (m:Int).toNat)=some ((List.range m).map fun j=>tupN (hav rows [j])):=by
  rw[Int.toNat_natCast,rangeT_map]
  refine compL_each tN (fun j=>tupN (hav rows [j])) _ fun j hj=>⟨_,b_gNm set_z,?_⟩
  unfold E1_about
  exact b_call (b_cons (b_gv (get_s get_z)) (b_cons (b_tup (b_cons (b_gv get_z) b_nil) (sizeLine_ge (by simp))) b_nil)) rfl (having_ev m rows [j] (by omega) (by simp))
 refine I_about ?_
 unfold F_about
 refine b_seq (about_s m rows) ?_
 refine b_seqIf (about_c m rows) (fun h=>by rw[decide_eq_true h1,decide_eq_true h2] at h;cases h) fun _=>b_seqNil ?_
 walk_at "tl"
noncomputable def plc (ms r:List Nat):List Nat:=(List.range ms.length).filter fun k=>r.contains (ms.getD k 0)
theorem enum_marks (ms:List Nat):enumT (ms.map tN)=(List.range ms.length).map fun k=>T.tup [tN k,tN (ms.getD k 0)]:=by
 unfold enumT
 rw[List.length_map]
 refine List.map_congr_left fun i hi=>?_
 have:=List.mem_range.mp hi
 simp [this]
theorem places_ev (r ms:List Nat)(hl:ms.length≤1000):M_places_in [tupN r,tupN ms]=some (tupN (plc ms r)):=by
 have key:compL (gTp2 0 1) C1_places_in (gv 0) [none,none,some (Sl.pu (tupN r))] (enumT (ms.map tN))=some ((plc ms r).map tN):=by
  rw[enum_marks]
  refine compL_to (fun k=>T.tup [tN k,tN (ms.getD k 0)]) tN (fun k=>r.contains (ms.getD k 0)) (List.range ms.length) fun i hi=>?_
  refine⟨_,b_gTp2 set_z (set_s set_z),?_,fun _=>rfl⟩
  unfold C1_places_in
  apply ev_eq
  walk_at "tl"
  rw[in_tupN]
 have e:(enumT (ms.map tN)).length≤sizeLine:=by rw[enum_marks,List.length_map,List.length_range];exact sizeLine_ge (by omega)
 refine I_places_in ?_
 unfold F_places_in
 walk_at "tl"
local macro_rules|`(tactic| walk_at "tl call")=>`(tactic| with_reducible refine places_ev _ _ (by first|assumption|omega))
theorem only_c (t:T)(ms:List Nat):fNot (fTru (gv 1)) [some (.pu t),some (.pu (tupN ms))]=some ms.isEmpty:=by
 refine ev_eq (b_not (b_tru (b_gv (get_s get_z)) truOf_t)) ?_
 cases ms<;>rfl
theorem only_ev (m:Nat)(rows:List (List Nat)) (ms:List Nat)(hr:rows.length≤1000)(hl:ms.length≤1000)(h:ms.isEmpty=false):M_only [tbl m rows,tupN ms]=some (.tup [tN ms.length,.tup (rows.map fun r=>tupN (plc ms r))]):=by
 have key:compL (gNm 0) fYes E1_only [none,some (Sl.pu (tupN ms))] (rows.map tupN)=some (rows.map fun r=>tupN (plc ms r)):=by
  refine compL_each tupN (fun r=>tupN (plc ms r)) _ fun j hj=>⟨_,b_gNm set_z,?_⟩
  unfold E1_only
  walk_at "tl"
 refine I_only ?_
 unfold F_only
 refine b_seqIf (only_c _ ms) (fun q=>by rw[h] at q;cases q) fun _=>b_seqNil ?_
 walk_at "tl"
 rw[List.length_map]
theorem beside_c (m k:Nat)(A B:List (List Nat)) (o:Option Sl):fB (f2 tNee (f2 tIx (gv 0) (kc (.int 0))) (f2 tIx (gv 1) (kc (.int 0)))) [some (.pu (tbl m A)),some (.pu (tbl k B)),o]=some (!decide (m=k)):=by
 refine ev_eq (b_B (b_f2 (b_f2 (b_gv get_z) b_kc (tIx_t' atI2_0)) (b_f2 (b_gv (get_s get_z)) b_kc (tIx_t' atI2_0)) (tNee_d (by rw[dep_int];omega)))) ?_
 rw[teq_ii]
 congr 1
 rw[Bool.eq_iff_iff]
 simp
 omega
theorem beside_s (m k:Nat)(A B:List (List Nat)) (hA:A.length≤1000)(hB:B.length≤1000):sSet 2 (f2 tAdd (f2 tIx (gv 0) (kc (.int 1))) (f2 tIx (gv 1) (kc (.int 1)))) [some (.pu (tbl m A)),some (.pu (tbl k B)),none]=some (.nx [some (.pu (tbl m A)),some (.pu (tbl k B)),some (.pu (.tup ((A++B).map tupN)))]):=by
 refine b_set (t:=.tup ((A++B).map tupN)) (b_f2 (b_f2 (b_gv get_z) b_kc (tIx_t' atI2_1)) (b_f2 (b_gv (get_s get_z)) b_kc (tIx_t' atI2_1)) ?_) (set_s (set_s set_z))
 refine ev_eq (tAdd_t (sizeLine_ge (by rw[List.length_map,List.length_map];omega))) (by rw[List.map_append])
theorem beside_c2 (t u:T)(R:List (List Nat)):fB (f2 tGtI (f1 tLen (gv 2)) (kc (.int 64))) [some (.pu t),some (.pu u),some (.pu (.tup (R.map tupN)))]=some (decide (64<R.length)):=by
 refine ev_eq (b_B (b_f2 (b_f1 (b_gv (get_s (get_s get_z))) tLen_t) b_kc tGtI_i)) ?_
 rw[List.length_map,Bool.eq_iff_iff]
 simp
 omega
theorem beside_ev (m k:Nat)(A B:List (List Nat)) (hA:A.length≤1000)(hB:B.length≤1000)(h:(!decide (m=k)||decide (64<(A++B).length))=false):M_beside [tbl m A,tbl k B]=some (tbl m (A++B)):=by
 rw[Bool.or_eq_false_iff] at h
 refine I_beside ?_
 unfold F_beside
 refine b_seqIf (beside_c m k A B none) (fun q=>by rw[h.1] at q;cases q) fun _=>b_seqNil (b_seq (beside_s m k A B hA hB) (b_seqIf (beside_c2 _ _ _) (fun q=>by rw[h.2] at q;cases q) fun _=>b_seqNil ?_))
 exact b_ret (b_tup (b_cons (b_f2 (b_gv get_z) b_kc (tIx_t' atI2_0)) (b_cons (b_gv (get_s (get_s get_z))) b_nil)) (sizeLine_ge (by simp))) rfl
theorem mem_hav {rows:List (List Nat)}{ms:List Nat}{i:Nat}:i∈hav rows ms↔i<rows.length∧∀ j∈ms,j∈row rows i:=by
 unfold hav
 rw[List.mem_filter,List.mem_range,sub_iff]
theorem mem_shr {m:Nat}{rows:List (List Nat)}{ts:List Nat}{j:Nat}:j∈shr m rows ts↔j<m∧∀ i∈ts,j∈row rows i:=by
 unfold shr
 rw[List.mem_filter,List.mem_range,List.all_eq_true]
 simp
theorem hav_ok (rows:List (List Nat)) (ms:List Nat):Mks rows.length (hav rows ms):=.filter _
theorem shr_ok (m:Nat)(rows:List (List Nat)) (ts:List Nat):Mks m (shr m rows ts):=.filter _
noncomputable def cols (m:Nat)(rows:List (List Nat)):List (List Nat):=(List.range m).map fun j=>hav rows [j]
theorem cols_len (m:Nat)(rows:List (List Nat)):(cols m rows).length=m:=by simp [cols]
theorem cols_row {m:Nat}{rows:List (List Nat)}{j:Nat}(h:j<m):row (cols m rows) j=hav rows [j]:=by simp [row,cols,h]
theorem mem_col {m:Nat}{rows:List (List Nat)}{i j:Nat}(h:j<m):i∈row (cols m rows) j↔i<rows.length∧j∈row rows i:=by
 rw[cols_row h,mem_hav];simp
theorem row_ok {m:Nat}{rows:List (List Nat)}(hro:∀ r∈rows,Mks m r){i:Nat}(h:i<rows.length):Mks m (row rows i):=hro _ (row_mem h)
theorem cols_cols {m:Nat}{rows:List (List Nat)}(hro:∀ r∈rows,Mks m r):cols rows.length (cols m rows)=rows:=by
 refine List.ext_getElem (by rw[cols_len]) fun i h1 h2=>?_
 rw[cols_len] at h1
 have e1:(cols rows.length (cols m rows))[i]'(by rw[cols_len];exact h1)=hav (cols m rows) [i]:=by simp [cols]
 have e2:rows[i]=row rows i:=by simp [row,h1]
 rw[e1,e2]
 have a:=hav_ok (cols m rows) [i]
 rw[cols_len] at a
 refine a.ext (row_ok hro h1) fun j=>?_
 rw[mem_hav,cols_len]
 constructor
 ·rintro⟨hj,h⟩
  exact((mem_col hj).mp (h i (by simp))).2
 ·intro h
  have hj:=(row_ok hro h1).lt j h
  refine⟨hj,fun k hk=>?_⟩
  have:k=i:=by simpa using hk
  subst this
  exact(mem_col hj).mpr ⟨h1,h⟩
theorem hav_cols {m:Nat}{rows:List (List Nat)}{ts:List Nat}(ht:∀ i∈ts,i<rows.length):hav (cols m rows) ts=shr m rows ts:=by
 have a:=hav_ok (cols m rows) ts
 rw[cols_len] at a
 refine a.ext (shr_ok _ _ _) fun j=>?_
 rw[mem_hav,mem_shr,cols_len]
 exact and_congr_right fun hj=>⟨fun h i hi=>((mem_col hj).mp (h i hi)).2,fun h i hi=>(mem_col hj).mpr ⟨ht i hi,h i hi⟩⟩
theorem shr_cols {m:Nat}{rows:List (List Nat)}{ms:List Nat}(hm:∀ j∈ms,j<m):shr rows.length (cols m rows) ms=hav rows ms:=by
 refine(shr_ok _ _ _).ext (hav_ok _ _) fun i=>?_
 rw[mem_hav,mem_shr]
 exact and_congr_right fun hi=>⟨fun h j hj=>((mem_col (hm j hj)).mp (h j hj)).2,fun h j hj=>(mem_col (hm j hj)).mpr ⟨hi,h j hj⟩⟩
theorem turned_notions {m:Nat}{rows:List (List Nat)}(hm:m≤6)(hn:rows.length≤6)(x:TL.PR) :
  x∈(cm rows.length (cols m rows)).map (fun ts=>(hav (cols m rows) ts,ts))↔x∈(cm m rows).map (fun ms=>(ms,hav rows ms)):=by
 rw[List.mem_map,List.mem_map]
 constructor
 ·rintro⟨ts,hts,rfl⟩
  obtain⟨k1,k2⟩:=(mem_cm hn).mp hts
  have e1:=hav_cols (m:=m) (rows:=rows) k1.lt
  have e2:hav rows (shr m rows ts)=ts:=by
   have:cls rows.length (cols m rows) ts=hav rows (hav (cols m rows) ts):=shr_cols (m:=m) (by rw[e1];exact(shr_ok m rows ts).lt)
   rw[k2,e1] at this
   exact this.symm
  refine⟨shr m rows ts,(mem_cm hm).mpr ⟨shr_ok _ _ _,?_⟩,?_⟩
  ·unfold cls;rw[e2]
  ·rw[e1,e2]
 ·rintro⟨ms,hms,rfl⟩
  obtain⟨k1,k2⟩:=(mem_cm hm).mp hms
  have e1:=hav_cols (m:=m) (rows:=rows) (hav_ok rows ms).lt
  have e2:shr m rows (hav rows ms)=ms:=k2
  rw[e2] at e1
  refine⟨hav rows ms,(mem_cm hn).mpr ⟨hav_ok _ _,?_⟩,?_⟩
  ·unfold cls
   rw[e1,shr_cols k1.lt]
  ·rw[e1]
theorem cm_congr {m:Nat}{A B:List (List Nat)}(hm:m≤6)(h:∀ ms,Mks m ms→cls m A ms=cls m B ms):cm m A=cm m B:=by
 unfold cm
 refine List.filter_congr fun ms hms=>?_
 rw[h ms ((mem_allM hm).mp hms)]
theorem cm_twice {m:Nat}(hm:m≤6)(rows:List (List Nat)):cm m (rows++rows)=cm m rows:=cm_congr hm fun ms _=>by
 refine(cls_ok _ _ _).ext (cls_ok _ _ _) fun j=>?_
 rw[mem_cls,mem_cls]
 simp
noncomputable def pln (m:Nat)(rows:List (List Nat)):List (List Nat):=(allM m).filter fun r=>rows.contains r&&!spr m rows r
theorem mem_abv {rows:List (List Nat)}{r:List Nat}{j m:Nat}:j∈shr m rows (abv rows r)↔j<m∧∀ o∈rows,o≠r→(∀ x∈r,x∈o)→j∈o:=by
 rw[mem_shr]
 refine and_congr_right fun _=>⟨fun h o ho hne hs=>?_,fun h i hi=>?_⟩
 ·obtain⟨i,hi,e⟩:=List.getElem_of_mem ho
  have e':row rows i=o:=by simp [row,hi,e]
  have:=h i (List.mem_filter.mpr ⟨mem_hav.mpr ⟨hi,by rw[e'];exact hs⟩,by rw[e'];simp [hne]⟩)
  rwa [e'] at this
 ·obtain⟨h1,h2⟩:=List.mem_filter.mp hi
  obtain⟨h3,h4⟩:=mem_hav.mp h1
  exact h _ (row_mem h3) (by simpa using h2) h4
theorem mem_pln {m:Nat}{rows:List (List Nat)}(hm:m≤6)(hro:∀ r∈rows,Mks m r){r:List Nat}:r∈pln m rows↔r∈rows∧shr m rows (abv rows r)≠r:=by
 unfold pln spr
 rw[List.mem_filter,mem_allM hm]
 constructor
 ·rintro⟨_,h⟩
  rw[Bool.and_eq_true] at h
  exact⟨by simpa using h.1,by simpa using h.2⟩
 ·rintro⟨h1,h2⟩
  exact⟨hro r h1,by rw[Bool.and_eq_true];exact⟨by simpa using h1,by simpa using h2⟩⟩
theorem mks_more {m:Nat}{a b:List Nat}(ha:Mks m a)(hb:Mks m b)(hs:∀ x∈a,x∈b)(hne:b≠a):a.length<b.length:=by
 have h1:=sub_len (ha.up.imp fun h=>Nat.ne_of_lt h) hs
 rcases Nat.lt_or_eq_of_le h1 with h|h
 ·exact h
 ·exfalso
  refine hne (hb.ext ha fun x=>⟨fun hx=>?_,hs x⟩)
  apply Classical.byContradiction
  intro hc
  have:=sub_len (l:=x::a) (l':=b) (List.nodup_cons.mpr ⟨hc,ha.up.imp fun h=>Nat.ne_of_lt h⟩) fun y hy=>by
   rcases List.mem_cons.mp hy with rfl|hy
   ·exact hx
   ·exact hs y hy
  simp only[List.length_cons] at this
  omega
theorem plain_cls {m:Nat}{rows:List (List Nat)}(hm:m≤6)(hro:∀ r∈rows,Mks m r)(a:List Nat):cls m (pln m rows) a=cls m rows a:=by
 refine(cls_ok _ _ _).ext (cls_ok _ _ _) fun j=>?_
 rw[mem_cls,mem_cls]
 refine and_congr_right fun hj=>⟨fun h=>?_,fun h r hr hs=>h r ((mem_pln hm hro).mp hr).1 hs⟩
 have key:∀(n:Nat)(r:List Nat),m - r.length<n→r∈rows→(∀ x∈a,x∈r)→j∈r:=by
  intro n
  induction n with
  | zero=>intro r hn;omega
  | succ n ih =>
    intro r hn hr hs
    by_cases hp:shr m rows (abv rows r)=r
    ·rw[← hp,mem_abv]
     refine⟨hj,fun o ho hne hro'=>?_⟩
     have l1:=mks_more (hro r hr) (hro o ho) hro' hne
     have l2:=(hro o ho).len
     exact ih o (by omega) ho fun x hx=>hro' x (hs x hx)
    ·exact h r ((mem_pln hm hro).mpr ⟨hr,hp⟩) hs
 exact fun r hr hs=>key (m+1) r (by omega) hr hs
theorem plain_same {m:Nat}{rows:List (List Nat)}(hm:m≤6)(hro:∀ r∈rows,Mks m r):cm m (pln m rows)=cm m rows:=cm_congr hm fun ms _=>plain_cls hm hro ms
theorem plain_need {m:Nat}{rows R:List (List Nat)}{p:List Nat}(hm:m≤6)(hro:∀ r∈rows,Mks m r)(hp:p∈pln m rows)(hR:∀ r∈R,r∈pln m rows∧r≠p):cm m R≠cm m rows:=by
 intro e
 obtain⟨p1,p2⟩:=(mem_pln hm hro).mp hp
 have kp:=hro p p1
 have h1:p∈cm m rows:=(mem_cm hm).mpr ⟨kp,(cls_ok _ _ _).ext kp fun j=>⟨fun h=>(mem_cls.mp h).2 p p1 fun x hx=>hx,fun h=>cls_has kp j h⟩⟩
 rw[← e] at h1
 have h2:=((mem_cm hm).mp h1).2
 refine p2 ((shr_ok _ _ _).ext kp fun j=>⟨fun h=>?_,fun h=>mem_abv.mpr ⟨kp.lt j h,fun o _ _ hs=>hs j h⟩⟩)
 obtain⟨h3,h4⟩:=mem_abv.mp h
 rw[← h2]
 refine mem_cls.mpr ⟨h3,fun r hr hs=>?_⟩
 obtain⟨r1,r2⟩:=hR r hr
 exact h4 r ((mem_pln hm hro).mp r1).1 r2 hs
theorem pln_nodup {m:Nat}(hm:m≤6)(rows:List (List Nat)):(pln m rows).Nodup:=(allM_nodup m (List.mem_range.mpr (by omega))).filter _
theorem cm_nodup {m:Nat}(hm:m≤6)(rows:List (List Nat)):(cm m rows).Nodup:=(allM_nodup m (List.mem_range.mpr (by omega))).filter _
theorem left_out {m:Nat}{rows:List (List Nat)}(hm:m≤6)(hro:∀ r∈rows,Mks m r){k:Nat}(hk:k<(pln m rows).length):cm m ((pln m rows).take k++(pln m rows).drop (k+1))≠cm m rows:=by
 have nd:=pln_nodup hm rows
 have e:pln m rows=(pln m rows).take k++(pln m rows)[k]::(pln m rows).drop (k+1):=by simp
 refine plain_need hm hro (p:=(pln m rows)[k]) (List.getElem_mem hk) fun r hr=>?_
 rw[e,List.nodup_append] at nd
 obtain⟨n1,n2,n3⟩:=nd
 rw[List.nodup_cons] at n2
 rcases List.mem_append.mp hr with h|h
 ·exact⟨List.mem_of_mem_take h,n3 r h _ List.mem_cons_self⟩
 ·exact⟨List.mem_of_mem_drop h,fun q=>n2.1 (q▸h)⟩
theorem mem_plc {ms r:List Nat}{k:Nat}:k∈plc ms r↔k<ms.length∧ms.getD k 0∈r:=by
 unfold plc
 rw[List.mem_filter,List.mem_range]
 simp
theorem plc_ok (ms r:List Nat):Mks ms.length (plc ms r):=.filter _
theorem only_notions {m:Nat}{rows:List (List Nat)}{ms:List Nat}(hm:m≤6)(hk:Mks m ms)(x:List Nat):x∈cm ms.length (rows.map (plc ms))↔x∈(cm m rows).map (plc ms):=by
 have hl:ms.length≤6:=Nat.le_trans hk.len hm
 have at_:∀ k,k<ms.length→ms.getD k 0∈ms:=fun k h=>by simp [List.getD,h]
 rw[mem_cm hl,List.mem_map]
 constructor
 ·rintro⟨k1,k2⟩
  have ka:Mks m ((List.range m).filter fun j=>x.any fun k=>ms.getD k 0==j):=.filter _
  have ma:∀ j,j∈((List.range m).filter fun j=>x.any fun k=>ms.getD k 0==j)↔∃ k∈x,ms.getD k 0=j:=fun j=>by
   rw[List.mem_filter,List.mem_range,List.any_eq_true]
   constructor
   ·rintro⟨_,k,h1,h2⟩
    exact⟨k,h1,by simpa using h2⟩
   ·rintro⟨k,h1,rfl⟩
    exact⟨hk.lt _ (at_ k (k1.lt k h1)),k,h1,by simp⟩
  generalize ((List.range m).filter fun j=>x.any fun k=>ms.getD k 0==j)=a at ka ma
  refine⟨cls m rows a,(mem_cm hm).mpr ⟨cls_ok _ _ _,cls_idem ka⟩,?_⟩
  rw[← k2]
  refine(plc_ok _ _).ext (cls_ok _ _ _) fun k=>?_
  rw[mem_plc,mem_cls,mem_cls]
  refine and_congr_right fun hkl=>⟨fun⟨_,h⟩ r' hr' hs=>?_,fun h=>⟨hk.lt _ (at_ k hkl),fun r hr hs=>?_⟩⟩
  ·obtain⟨r,hr,rfl⟩:=List.mem_map.mp hr'
   refine mem_plc.mpr ⟨hkl,h r hr fun j hj=>?_⟩
   obtain⟨q,q1,rfl⟩:=(ma j).mp hj
   exact(mem_plc.mp (hs q q1)).2
  ·refine(mem_plc.mp (h (plc ms r) (List.mem_map.mpr ⟨r,hr,rfl⟩) fun q hq=>?_)).2
   exact mem_plc.mpr ⟨k1.lt q hq,hs _ ((ma _).mpr ⟨q,hq,rfl⟩)⟩
 ·rintro⟨c,hc,rfl⟩
  obtain⟨c1,c2⟩:=(mem_cm hm).mp hc
  refine⟨plc_ok _ _,(cls_ok _ _ _).ext (plc_ok _ _) fun k=>⟨fun h=>?_,fun h=>cls_has (plc_ok _ _) k h⟩⟩
  obtain⟨h1,h2⟩:=mem_cls.mp h
  refine mem_plc.mpr ⟨h1,?_⟩
  rw[← c2]
  refine mem_cls.mpr ⟨hk.lt _ (at_ k h1),fun r hr hs=>?_⟩
  refine(mem_plc.mp (h2 (plc ms r) (List.mem_map.mpr ⟨r,hr,rfl⟩) fun q hq=>?_)).2
  obtain⟨q1,q2⟩:=mem_plc.mp hq
  exact mem_plc.mpr ⟨q1,hs _ q2⟩
noncomputable abbrev S10 (s t:T) (m:Nat)(o3 o4 o5 o6 o7 o8 o9:Option Sl):Rho:=[some (.pu s),some (.pu t),some (.pu (tN m)),o3,o4,o5,o6,o7,o8,o9]
theorem dep_lstR (L:List (List Nat)):dep (.lst (L.map tupN))≤60:=Nat.le_trans (dep_lst_le (d:=1) fun t ht=>by
 obtain⟨x,_,rfl⟩:=List.mem_map.mp ht
 exact dep_tupN1 x) (by decide)
theorem teq_lstR (A B:List (List Nat)):teq (.lst (A.map tupN)) (.lst (B.map tupN))=decide (A=B):=by
 rw[← teqL_map teq_tupN A B];rfl
theorem marks_of_ev (m:Nat)(rows:List (List Nat)) (hm:m≤6)(hr:rows.length≤1000):M__law_marks_of [tbl m rows]=some (.lst ((cm m rows).map tupN)):=by
 have hcl:=cm_len hm rows
 have key:compL (gNm 0) fYes E1__law_marks_of [none] ((cm m rows).map (nt rows))=some ((cm m rows).map tupN):=by
  refine compL_each _ _ _ fun ms hms=>⟨_,b_gNm set_z,?_⟩
  unfold E1__law_marks_of
  exact b_f2 (b_gv get_z) b_kc (tIx_t' atI2_1)
 refine I__law_marks_of ?_
 unfold F__law_marks_of
 exact b_ret (b_new (b_comp (b_it (b_call (b_cons (b_gv get_z) b_nil) rfl (notions_ev m rows hm hr)) itOf_t) (sizeLine_ge (by rw[List.length_map];omega)) rfl key)) rfl
theorem prsT_map:∀ ps:List TL.PR,(∀ x∈ps,TL.in6 x)→prsT (ps.map prT)=some ps
 | [],_=>rfl
 | x::ps,h=>by
   have h6:=h x List.mem_cons_self
   have e:unPr (prT x)=some x:=by
    unfold prT unPr
    dsimp only
    have e1:unN (rowT x.1)=some x.1:=unN_tup x.1
    have e2:unN (rowT x.2)=some x.2:=unN_tup x.2
    rw[e1,e2]
    dsimp only
    have h6':x.1∈subs6∧x.2∈subs6:=h6
    rw[if_pos h6']
   rw[List.map_cons]
   unfold prsT
   rw[e]
   dsimp only
   rw[prsT_map ps fun y hy=>h y (List.mem_cons_of_mem _ hy)]
   rfl
theorem b_sortPr {f:FE}{ρ:Rho}{ps:List TL.PR}(h1:f ρ=some (.tup (ps.map prT))∨f ρ=some (.lst (ps.map prT))) (h6:∀ x∈ps,TL.in6 x)(h64:ps.length≤64)(hn:ps.Nodup):fSortPr f ρ=some ((sortP2 ps).map prT):=by
 have e:srtP (ps.map prT)=some ((sortP2 ps).map prT):=by
  unfold srtP
  rw[prsT_map ps h6]
  dsimp only
  rw[if_pos ⟨h64,hn⟩]
 unfold fSortPr
 rcases h1 with h1|h1<;>rw[h1]<;>exact e
theorem b_sortR {f:FE}{ρ:Rho}{rs:List (List Nat)}(h1:f ρ=some (.lst (rs.map tupN))) (h6:∀ x∈rs,x∈subs6)(h64:rs.length≤64)(hn:rs.Nodup):fSortR f ρ=some ((sortR rs).map tupN):=by
 unfold fSortR
 rw[h1]
 dsimp only
 unfold srtR
 rw[rowsT_map rs h6]
 dsimp only
 rw[if_pos ⟨h64,hn⟩]
 rfl
theorem b_sortSetL {f:FE}{ρ:Rho}{rs:List (List Nat)}(h1:f ρ=some (.lst (rs.map tupN))) (h2:∀ r∈rs,r∈subs6)(h3:rs.length≤64):fSortS64 f ρ=some ((sortR rs).map tupN):=by
 unfold fSortS64
 rw[h1]
 dsimp only
 rw[rowsT_map rs h2]
 dsimp only
 rw[if_pos h3]
 rfl
theorem about_cols (m:Nat)(rows:List (List Nat)) (hm:m≤1000)(h1:1≤rows.length)(h2:rows.length≤6):M_about [tbl m rows]=some (tbl rows.length (cols m rows)):=by
 rw[about_ev m rows hm h1 h2]
 unfold cols
 show _=some (T.tup [tN rows.length,T.tup (((List.range m).map fun j=>hav rows [j]).map tupN)])
 rw[List.map_map];rfl
theorem dep_tblR (m:Nat)(rows:List (List Nat)):dep (tbl m rows)≤60:=by
 refine Nat.le_trans (dep_tup_le (d:=2) fun t ht=>?_) (by decide)
 simp only[List.mem_cons,List.not_mem_nil,or_false] at ht
 rcases ht with rfl|rfl
 ·have:=dep_tN1 m;omega
 ·refine dep_tup_le fun u hu=>?_
  obtain⟨x,_,rfl⟩:=List.mem_map.mp hu
  exact dep_tupN1 x
theorem dep_lstP (ps:List TL.PR):dep (.lst (ps.map prT))≤60:=by
 refine Nat.le_trans (dep_lst_le (d:=2) fun t ht=>?_) (by decide)
 obtain⟨x,_,rfl⟩:=List.mem_map.mp ht
 refine dep_tup_le fun u hu=>?_
 simp only[List.mem_cons,List.not_mem_nil,or_false] at hu
 rcases hu with rfl|rfl
 ·exact dep_tupN1 x.1
 ·exact dep_tupN1 x.2
theorem law_a {s:T}{m:Nat}{rows:List (List Nat)}{o:Out}(h1:1≤m)(hm:m≤6)(hr:rows.length≤8)(hro:∀ r∈rows,Mks m r)
  (k:∀ o3,R3_law (S10 s (tbl m rows) m o3 none none none none none none)=some o):R2_law (S10 s (tbl m rows) m none none none none none none none)=some o:=by
 have hc:fB (fChain tLtI tLtI (kc (.int 0)) (f1 tLen (f2 tIx (gv 1) (kc (.int 1)))) (kc (.int 7))) (S10 s (tbl m rows) m none none none none none none none)=some (decide (0<rows.length)&&decide (rows.length<7)):=by
  refine ev_eq (b_B (b_chain b_kc (b_f1 (b_f2 (b_gv rfl) b_kc (tIx_t' atI2_1)) tLen_t) tLtI_i (fun _=>b_kc) (fun _=>tLtI_i))) ?_
  rw[List.length_map,Bool.eq_iff_iff]
  simp
  omega
 unfold R2_law
 refine b_seqIf hc (fun hb=>?_) fun hb=>b_seqNil (k _)
 have hb:0<rows.length∧rows.length<7:=by simpa using hb
 have e1:=about_cols m rows (by omega) (by omega) (by omega)
 have e2:M_about [tbl rows.length (cols m rows)]=some (tbl m rows):=by
  rw[about_cols rows.length (cols m rows) (by omega) (by rw[cols_len];exact h1) (by rw[cols_len];exact hm),cols_len,cols_cols hro]
 have hn:rows.length≤6:=by omega
 have c1:=notions_ev rows.length (cols m rows) hn (by rw[cols_len];omega)
 have c2:=notions_ev m rows hm (by omega)
 have q1:(cm rows.length (cols m rows)).map (nt (cols m rows))=((cm rows.length (cols m rows)).map fun ts=>(hav (cols m rows) ts,ts)).map prT:=by rw[List.map_map];rfl
 have key:compL (gTp2 0 1) fYes E1_law [none,none] ((cm m rows).map (nt rows))=some (((cm m rows).map fun ms=>(ms,hav rows ms)).map prT):=by
  rw[List.map_map]
  refine compL_each (nt rows) _ _ fun ms hms=>⟨_,b_gTp2 set_z (set_s set_z),?_⟩
  unfold E1_law
  exact b_tup (b_cons (b_gv (get_s get_z)) (b_cons (b_gv get_z) b_nil)) (sizeLine_ge (by simp))
 have l1:=cm_len hn (cols m rows)
 have l2:=cm_len hm rows
 have a6:∀ x∈(cm rows.length (cols m rows)).map (fun ts=>(hav (cols m rows) ts,ts)),TL.in6 x:=fun x hx=>by
  obtain⟨ts,hts,rfl⟩:=List.mem_map.mp hx
  have b1:=hav_ok (cols m rows) ts
  rw[cols_len] at b1
  exact⟨mks_sub b1 hm,mks_sub ((mem_cm hn).mp hts).1 hn⟩
 have b6:∀ x∈(cm m rows).map (fun ms=>(ms,hav rows ms)),TL.in6 x:=fun x hx=>a6 x ((turned_notions hm hn x).mpr hx)
 have an:((cm rows.length (cols m rows)).map (fun ts=>(hav (cols m rows) ts,ts))).Nodup:=map_nd (cm_nodup hn _) fun a _ b _ e=>by simpa using congrArg Prod.snd e
 have bn:((cm m rows).map (fun ms=>(ms,hav rows ms))).Nodup:=map_nd (cm_nodup hm _) fun a _ b _ e=>by simpa using congrArg Prod.fst e
 have es:=sortP2_congr an bn a6 (turned_notions hm hn)
 refine b_seqSeq (b_seq (b_set (b_call (b_cons (b_gv rfl) b_nil) rfl e1) (set_s (set_s (set_s set_z)))) (b_seqSeq (b_seqIf (b:=false) ?_ (fun q=>by cases q) fun _=>b_seqNil (b_seqIf (b:=false) ?_ (fun q=>by cases q) fun _=>b_seqNil (k _)))))
 ·refine ev_eq (b_B (b_f2 (b_call (b_cons (b_gv rfl) b_nil) rfl e2) (b_gv rfl) (tNee_d (dep_tblR _ _)))) ?_
  rw[teq_refl];rfl
 ·refine ev_eq (b_B (b_f2 (b_new (b_sortPr (.inl (ev_eq (b_call (b_cons (b_gv rfl) b_nil) rfl c1) (by rw[q1]))) a6 (by rw[List.length_map];exact l1) an)) (b_new (b_sortPr (.inr (b_new (b_comp (b_it (b_call (b_cons (b_gv rfl) b_nil) rfl c2) itOf_t) (sizeLine_ge (by rw[List.length_map];omega)) rfl key))) b6 (by rw[List.length_map];exact l2) bn)) (tNee_d (dep_lstP _)))) ?_
  rw[es,teq_refl];rfl
theorem law_b {s:T}{m:Nat}{rows:List (List Nat)}{o:Out}{o3:Option Sl}(hm:m≤6)(hr:rows.length≤8)(hro:∀ r∈rows,Mks m r)
  (k:R6_law (S10 s (tbl m rows) m o3 (some (.pu (tbl m (pln m rows)))) (some (.pu (.lst ((cm m rows).map tupN)))) none none none none)=some o):R3_law (S10 s (tbl m rows) m o3 none none none none none none)=some o:=by
 have e1:M_plain [tbl m rows]=some (tbl m (pln m rows)):=plain_ev hm (by omega) hro
 have e2:=marks_of_ev m rows hm (by omega)
 have lp:(pln m rows).length≤64:=Nat.le_trans (List.length_filter_le _ _) (allM_len m (List.mem_range.mpr (by omega)))
 have e3:=marks_of_ev m (pln m rows) hm (by omega)
 rw[plain_same hm hro] at e3
 have e4:=beside_ev m m rows rows (by omega) (by omega) (by simp;omega)
 have e5:=marks_of_ev m (rows++rows) hm (by rw[List.length_append];omega)
 rw[cm_twice hm] at e5
 unfold R3_law
 refine b_seq (b_set (b_call (b_cons (b_gv rfl) b_nil) rfl e1) (set_s (set_s (set_s (set_s set_z))))) ?_
 unfold R4_law
 refine b_seq (b_set (b_call (b_cons (b_gv rfl) b_nil) rfl e2) (set_s (set_s (set_s (set_s (set_s set_z)))))) ?_
 unfold R5_law
 refine b_seqIf (b:=false) ?_ (fun q=>by cases q) fun _=>b_seqNil k
 refine ev_eq (b_or (b_B (b_f2 (b_call (b_cons (b_gv rfl) b_nil) rfl e3) (b_gv rfl) (tNee_d (dep_lstR _)))) fun _=>b_B (b_f2 (b_call (b_cons (b_call (b_cons (b_gv rfl) (b_cons (b_gv rfl) b_nil)) rfl e4) b_nil) rfl e5) (b_gv rfl) (tNee_d (dep_lstR _)))) ?_
 rw[teq_refl];rfl
theorem cut_to {α:Type}{xs:List α}{k:Nat}(h:k≤xs.length):cutT xs none (some (k:Int))=xs.take k:=by
 unfold cutT
 rw[HT.sIx_none,HT.sIx_nat,List.drop_zero,Nat.min_eq_left h,Nat.sub_zero]
theorem cut_from {α:Type}{xs:List α}{k:Nat}(h:k+1≤xs.length):cutT xs (some ((k:Int)+1)) none=xs.drop (k+1):=by
 unfold cutT
 rw[HT.sIx_none,show(k:Int)+1=((k+1:Nat):Int) by omega,HT.sIx_nat,Nat.min_eq_left h]
 exact List.take_of_length_le (by rw[List.length_drop];omega)
theorem law_turn {s:T}{m:Nat}{rows:List (List Nat)}{o3 o7 o8 o9:Option Sl}{i:Nat}(hm:m≤6)(hro:∀ r∈rows,Mks m r)(hi:i<(pln m rows).length) :
  B1_law (S10 s (tbl m rows) m o3 (some (.pu (tbl m (pln m rows)))) (some (.pu (.lst ((cm m rows).map tupN)))) (some (.pu (tN i))) o7 o8 o9)=some (.nx (S10 s (tbl m rows) m o3 (some (.pu (tbl m (pln m rows)))) (some (.pu (.lst ((cm m rows).map tupN)))) (some (.pu (tN i))) o7 o8 o9)):=by
 have lp:(pln m rows).length≤64:=Nat.le_trans (List.length_filter_le _ _) (allM_len m (List.mem_range.mpr (by omega)))
 have no:=left_out hm hro hi
 generalize pln m rows=P at hi lp no
 have e:=marks_of_ev m (P.take i++P.drop (i+1)) hm (by rw[List.length_append,List.length_take,List.length_drop];omega)
 have lm:(P.map tupN).length=P.length:=List.length_map _
 have e1:f2 tAdd (fCut (f2 tIx (gv 4) (kc (.int 1))) foN (foS (gv 6))) (fCut (f2 tIx (gv 4) (kc (.int 1))) (foS (f2 tAdd (gv 6) (kc (.int 1)))) foN) (S10 s (tbl m rows) m o3 (some (.pu (tbl m P))) (some (.pu (.lst ((cm m rows).map tupN)))) (some (.pu (tN i))) o7 o8 o9)=some (.tup ((P.take i++P.drop (i+1)).map tupN)):=by
  refine ev_eq (b_f2 (b_cut (b_f2 (b_gv rfl) b_kc (tIx_t' atI2_1)) b_oN (b_oS (b_gv rfl)) tCut_t) (b_cut (b_f2 (b_gv rfl) b_kc (tIx_t' atI2_1)) (b_oS (b_f2 (b_gv rfl) b_kc tAdd_i)) b_oN tCut_t) (tAdd_t ?_)) ?_
  ·rw[cut_to (by rw[lm];omega),cut_from (by rw[lm];omega)]
   exact sizeLine_ge (by rw[List.length_take,List.length_drop,lm];omega)
  ·rw[cut_to (by rw[lm];omega),cut_from (by rw[lm];omega),← List.map_take,← List.map_drop,List.map_append]
 unfold B1_law
 refine b_sif (b:=false) ?_ (fun q=>by cases q) fun _=>b_snil
 refine ev_eq (b_B (b_f2 (b_call (b_cons (b_tup (b_cons (b_gv rfl) (b_cons e1 b_nil)) (sizeLine_ge (by simp))) b_nil) rfl e) (b_gv rfl) (tEqq_d (dep_lstR _)))) ?_
 rw[teq_lstR];exact decide_eq_false no
theorem law_c {s:T}{m:Nat}{rows:List (List Nat)}{o:Out}{o3:Option Sl}(hm:m≤6)(hro:∀ r∈rows,Mks m r)
  (k:∀ o4 o6,R7_law (S10 s (tbl m rows) m o3 o4 (some (.pu (.lst ((cm m rows).map tupN)))) o6 none none none)=some o):R6_law (S10 s (tbl m rows) m o3 (some (.pu (tbl m (pln m rows)))) (some (.pu (.lst ((cm m rows).map tupN)))) none none none none)=some o:=by
 have lp:(pln m rows).length≤64:=Nat.le_trans (List.length_filter_le _ _) (allM_len m (List.mem_range.mpr (by omega)))
 obtain⟨ρ2,hl,o6,e⟩:=loopF_range (g:=gNm 6) (b:=B1_law) (fun i ρ=>∃ o6,ρ=S10 s (tbl m rows) m o3 (some (.pu (tbl m (pln m rows)))) (some (.pu (.lst ((cm m rows).map tupN)))) o6 none none none) (pln m rows).length
  (S10 s (tbl m rows) m o3 (some (.pu (tbl m (pln m rows)))) (some (.pu (.lst ((cm m rows).map tupN)))) none none none none) (fun i ρ hi ⟨o6,e⟩=>by
   subst e
   exact⟨_,_,b_gNm (set_s (set_s (set_s (set_s (set_s (set_s set_z)))))),law_turn hm hro hi,some (.pu (tN i)),rfl⟩) ⟨none,rfl⟩
 subst e
 unfold R6_law
 refine b_seqFor (ts:=rangeT 0 (pln m rows).length) (ev_eq (b_rng (b_f1 (b_f2 (b_gv rfl) b_kc (tIx_t' atI2_1)) tLen_t) (by omega) (by rw[List.length_map];omega)) (by rw[Int.toNat_natCast,List.length_map])) hl (b_thenN (k _ _))
theorem cut_loop {s t:T}{m:Nat}{o3 o4 o5 o6:Option Sl}{ms:List Nat}(hl:ms.length≤1000):∀(L:List (List Nat)) (rs:List T)(o9:Option Sl),rs.length+L.length≤1000 →
  ∃ o9',loopF (gNm 9) B2_law (L.map tupN) (S10 s t m o3 o4 o5 o6 (some (.pu (tupN ms))) (some (.ow rs)) o9)=some (.nx (S10 s t m o3 o4 o5 o6 (some (.pu (tupN ms))) (some (.ow (rs++(L.map (plc ms)).map tupN))) o9'))
 | [],rs,o9,_=>⟨o9,by rw[List.map_nil,List.map_nil,List.map_nil,List.append_nil];rfl⟩
 | r::L,rs,o9,h=>by
   rw[List.length_cons] at h
   have at_:∀ k∈List.range ms.length,atI (ms.map tN) (k:Int)=some (tN (ms.getD k 0)):=fun k hk=>by
    have hk:=List.mem_range.mp hk
    exact atI_nat' (by omega) (by simp [hk])
   have key:compL (gNm 0) C1_law (gv 0) [none,some (Sl.pu (tupN ms)),some (Sl.pu (tupN r))] (rangeT 0 ((ms.map tN).length:Int).toNat)=some ((plc ms r).map tN):=by
    rw[Int.toNat_natCast,List.length_map,rangeT_map]
    refine compL_nat _ _ fun j hj=>⟨_,b_gNm set_z,?_,fun _=>rfl⟩
    have:=at_ j hj
    unfold C1_law
    apply ev_eq
    walk_at "tl"
    rw[in_tupN]
   have lm:(ms.map tN).length≤1000:=by rw[List.length_map];omega
   obtain⟨o9',e⟩:=cut_loop hl L (rs++[tupN (plc ms r)]) (some (.pu (tupN r))) (by simp;omega)
   refine⟨o9',loopF_cons (ρ2:=S10 s t m o3 o4 o5 o6 (some (.pu (tupN ms))) (some (.ow (rs++[tupN (plc ms r)]))) (some (.pu (tupN r)))) (b_gNm (set_s (set_s (set_s (set_s (set_s (set_s (set_s (set_s (set_s set_z)))))))))) ?_ (by rw[e];simp)⟩
   unfold B2_law
   have e2:fComp [none,some 7,some 9] (fRng (f1 tLen (gv 7))) (gNm 0) C1_law (gv 0) (S10 s t m o3 o4 o5 o6 (some (.pu (tupN ms))) (some (.ow rs)) (some (.pu (tupN r))))=some ((plc ms r).map tN) :=
    b_comp (b_rng (b_f1 (b_gv rfl) tLen_t) (by omega) (by omega)) (by unfold rangeT;rw[List.length_map,List.length_range];exact sizeLine_ge (by omega)) rfl key
   exact b_app rfl (b_f1 (b_new e2) tTupOf_l) (Nat.lt_of_lt_of_le (show rs.length<1001 by omega) (sizeLine_ge (by omega))) (set_s (set_s (set_s (set_s (set_s (set_s (set_s (set_s set_z))))))))
theorem law_d {ns:List Int}{m:Nat}{rows:List (List Nat)}{o3 o4 o6:Option Sl}(hm:m≤6)(hr:rows.length≤8) :
  R7_law (S10 (scr ns) (tbl m rows) m o3 o4 (some (.pu (.lst ((cm m rows).map tupN)))) o6 none none none)=some (.rt (.bl true)):=by
 have hMa:M__law_marks [.int (mx ns 12),tN m]=some (tupN (mk (mx ns 12) m)):=by have:=marks_ev (mx ns 12) (m:Int) (by omega) (by omega);rwa [Int.toNat_natCast] at this
 have hA:=mk_ok (mx ns 12) m
 generalize mk (mx ns 12) m=ms at hMa hA
 have la:=hA.len
 unfold R7_law
 refine b_seq (b_set (b_call (b_cons (b_call (b_cons (b_gv rfl) (b_cons b_kc b_nil)) rfl (mixed_ev ns 12 (by omega))) (b_cons (b_gv rfl) b_nil)) rfl hMa) (set_s (set_s (set_s (set_s (set_s (set_s (set_s set_z)))))))) ?_
 unfold R8_law
 have hc:fB (f2 tEqq (gv 7) (fTup fNil)) (S10 (scr ns) (tbl m rows) m o3 o4 (some (.pu (.lst ((cm m rows).map tupN)))) o6 (some (.pu (tupN ms))) none none)=some (decide (ms=[])):=by
  refine ev_eq (b_B (b_f2 (b_gv rfl) (b_tup b_nil (sizeLine_ge (by simp))) (tEqq_d (dep_tupN _)))) ?_
  rw[show T.tup []=tupN [] from rfl,teq_tupN]
 refine b_seqIf hc (fun _=>b_seqRet (b_ret b_kc rfl)) fun hne=>b_seqNil ?_
 have hne:ms.isEmpty=false:=by
  have:ms≠[]:=of_decide_eq_false hne
  cases ms with
  | nil=>exact absurd rfl this
  | cons=>rfl
 unfold R9_law
 refine b_seq (b_own (b_lst b_nil (sizeLine_ge (by simp))) (set_s (set_s (set_s (set_s (set_s (set_s (set_s (set_s set_z))))))))) ?_
 have lc:=cm_len hm rows
 obtain⟨o9,e⟩:=cut_loop (s:=scr ns) (t:=tbl m rows) (m:=m) (o3:=o3) (o4:=o4) (o5:=some (.pu (.lst ((cm m rows).map tupN)))) (o6:=o6) (ms:=ms) (by omega) (cm m rows) [] none (by simp;omega)
 rw[List.nil_append] at e
 unfold R10_law
 refine b_seqFor (ts:=(cm m rows).map tupN) (b_it (b_gv rfl) itOf_l) e (b_thenN ?_)
 have hl6:ms.length≤6:=by omega
 have e1:M_only [tbl m rows,tupN ms]=some (tbl ms.length (rows.map (plc ms))):=by
  rw[only_ev m rows ms (by omega) (by omega) hne]
  show _=some (T.tup [tN ms.length,T.tup ((rows.map (plc ms)).map tupN)])
  rw[List.map_map];rfl
 have e2:=marks_of_ev ms.length (rows.map (plc ms)) hl6 (by rw[List.length_map];omega)
 have es:sortR (cm ms.length (rows.map (plc ms)))=sortR ((cm m rows).map (plc ms)):=sortR_congr (only_notions hm hA)
 unfold R11_law
 refine b_ret (b_f2 (b_new (b_sortR (b_call (b_cons (b_call (b_cons (b_gv rfl) (b_cons (b_gv rfl) b_nil)) rfl e1) b_nil) rfl e2) (fun x hx=>mks_sub ((mem_cm hl6).mp hx).1 hl6) (cm_len hl6 _) (cm_nodup hl6 _))) (b_new (b_sortSetL (b_go rfl) (fun x hx=>?_) (by rw[List.length_map];exact lc))) (tEqq_d (dep_lstR _))) ?_
 ·obtain⟨c,_,rfl⟩:=List.mem_map.mp hx
  exact mks_sub (plc_ok ms c) hl6
 ·rw[es,teq_refl]
theorem law_true (ns:List Int)(h:ns.length≤63):M_law [.lst (ns.map T.int)]=some (.bl true):=by
 have hm:=mOf_ok ns 6 (by decide)
 have hrl:=rowsOf_len ns (mOf ns 6)
 have hro:=rowsOf_ok ns (mOf ns 6)
 have ht:=table_ev ns 6 (by decide) (by decide)
 generalize mOf ns 6=m at hm hrl hro ht
 generalize rowsOf ns m=rows at hrl hro ht
 refine I_law ?_
 unfold F_law
 refine b_seq (b_set (b_call (b_cons (b_gv rfl) (b_cons b_kc b_nil)) rfl ht) (set_s set_z)) ?_
 unfold R1_law
 refine b_seq (b_set (b_f2 (b_gv rfl) b_kc (tIx_t' atI2_0)) (set_s (set_s set_z))) ?_
 exact law_a hm.1 (by omega) hrl hro fun o3=>law_b (by omega) hrl hro (law_c (by omega) hro fun o4 o6=>law_d (by omega) hrl)
end G
set_option maxHeartbeats 4000000
namespace G
open PySem L2
open TL hiding er_of ev_new ev_var er_own ev_int ev_bl ev_globI ea_nil ea_cons ev_tup ef_lst ev_op ev_cmp et_val et_cmp et_not ew_or1 ew_or et_w ev_ifExp et_chain ev_neg ev_ix eo_none eo_some ev_slice ev_b1 ev_y1 ev_min ir_seq ip_seq ip_range ip_range2 ir_of eg_name eg_tup2 ss_nil ss_cons ss_one s_ret s_retO s_set s_own s_app s_if s_for s_while ev_has ef_comp' et_ifs1 et_ifs0 ir_enum ef_compN et_tru s_extend s_no ef_sortLen ef_sortSet64 ef_sortR ef_sortPr
open TL.W
noncomputable def DefIn (K:PySem.W.Frag) (x:Str)(st:Stmt):Prop:=∃(f:Addr)(oc:Value)(od an:Option Addr)(osl:Array (Option Value)) (kV doc pm cdv ct:Value),PySem.W.nsIn K mainGlobals x=some (some (.ref f))∧K.lookup f=some ⟨oc,od,.func (PySem.W.fnOf x x (defArgs st) (defBody st) (defScope st) .none kV doc pm an cdv ct),osl⟩∧PySem.W.codeIn K cdv x=true∧PySem.W.keepIn K (.ref f)=true
theorem defIn_mk {K:PySem.W.Frag}{x:Str}{st:Stmt}{f:Addr}{oc:Value}{od an:Option Addr}{osl:Array (Option Value)}{kV doc pm cdv ct:Value}(a:PySem.W.nsIn K mainGlobals x=some (some (.ref f))) (l:K.lookup f=some ⟨oc,od,.func (PySem.W.fnOf x x (defArgs st) (defBody st) (defScope st) .none kV doc pm an cdv ct),osl⟩)
  (c:PySem.W.codeIn K cdv x=true)(k:PySem.W.keepIn K (.ref f)=true):DefIn K x st:=⟨f,oc,od,an,osl,kV,doc,pm,cdv,ct,a,l,c,k⟩
theorem src_of {K:PySem.W.Frag}{mg:Str→Option Value}{h:Heap}{x:Str}{st:Stmt}{ps:List Str}(X:K.In h)(G:h.Ns mainGlobals mg)(d:DefIn K x st)
  (hb:∀(kV doc pm:Value)(an:Option Addr)(cdv ct:Value)(us:List Value),us.length=ps.length→bindArgs (PySem.W.fnOf x x (defArgs st) (defBody st) (defScope st) .none kV doc pm an cdv ct) ⟨us,[]⟩=pure (ps.zip us)):Src K mg x st ps :=
 let ⟨_,_,_,_,_,_,_,_,_,_,a,l,c,k⟩:=d
 src_mk X G a l c k hb
variable {P:Program}{w:World}{K:PySem.W.Frag}{mg:Str→Option Value}{base:Heap}
noncomputable def top (i:Nat):Stmt:=PySem.Challenge.pw_markhall_k51_whole_turned_about_and_plai.main.body.getD i (.Pass ⟨0,0,0,0⟩)
noncomputable abbrev S__law_drawn:Stmt:=top 27
noncomputable abbrev N__law_drawn:List Str:=["_law_number","_law_k","_law_drawn_here"]
theorem sc__law_drawn:FnScope N__law_drawn ["_law_number","_law_k"] (defScope S__law_drawn):=⟨rfl,rfl,rfl,by decide +kernel,rfl,by decide +kernel,by decide +kernel⟩
theorem has__law_drawn (src:Src K mg "_law_drawn" S__law_drawn ["_law_number","_law_k"])  : Has P w K mg base "_law_drawn" 1 2 M__law_drawn :=
 by
 refine has_of'' (k:=0) (F:=F__law_drawn) rfl rfl src sc__law_drawn fun f cdv A outer s H E z hr hz=>?_
 unfold F__law_drawn
 show sVs _ _ (defBody S__law_drawn) _
 conv=>arg 2;whnf
 exact
  (ss_cons (s_set 2 sc__law_drawn.nd (ev_op hz o_md (er_of (ev_op hz o_mul (er_of (ev_op hz o_add (er_of (ev_op hz o_add (er_of (ev_var 0)) (er_of (ev_op hz o_mul (er_of ev_int) (er_of (ev_var 1)))))) (er_of ev_int))) (er_of ev_int))) (er_of ev_int)))
  (ss_one (s_ret (ev_op hz o_md (er_of (ev_op hz o_add (er_of (ev_op hz o_add (er_of (ev_op hz o_mul (er_of (ev_var 2)) (er_of (ev_var 2)))) (er_of (ev_op hz o_mul (er_of ev_int) (er_of (ev_var 2)))))) (er_of (ev_var 1)))) (er_of ev_int)))))
noncomputable abbrev S__law_marks:Stmt:=top 28
noncomputable abbrev N__law_marks:List Str:=["_law_number","_law_many","_law_share"]
theorem sc__law_marks:FnScope N__law_marks ["_law_number","_law_many"] (defScope S__law_marks):=⟨rfl,rfl,rfl,by decide +kernel,rfl,by decide +kernel,by decide +kernel⟩
theorem has__law_marks (src:Src K mg "_law_marks" S__law_marks ["_law_number","_law_many"])(h__law_drawn:Has P w K mg base "_law_drawn" 1 2 M__law_drawn)(n_range:mg "range"=none)(n_tuple:mg "tuple"=none):Has P w K mg base "_law_marks" 2 2 M__law_marks :=
 by
 refine has_of'' (k:=1) (F:=F__law_marks) rfl rfl src sc__law_marks fun f cdv A outer s H E z hr hz=>?_
 unfold F__law_marks C1__law_marks
 show sVs _ _ (defBody S__law_marks) _
 conv=>arg 2;whnf
 exact
  (ss_cons (s_set 2 sc__law_marks.nd (ev_op hz o_add (er_of ev_int) (er_of (ev_op hz o_md (er_of (ev_var 0)) (er_of ev_int)))))
  (ss_one (s_ret (ev_y1 hz b_tuple rfl n_tuple rfl (er_of (ev_new (ef_comp' N__law_marks (defScope S__law_marks) ["_law_mark","_law_number","_law_share"] [none,some 0,some 2] [0] (by decide +kernel) hz (ir_of (ip_range rfl n_range (ev_var 1))) (fun C s H fp z' (hz':z'.K=K)=>(eg_name 0 (show List.Nodup (["_law_mark","_law_number","_law_share"]:List Str) by decide +kernel))) (fun C s H fp z' (hz':z'.K=K)=>(et_ifs1 (et_cmp hz' (o_eq (hr).units) (er_of (ev_op hz' o_md (er_of (ev_has hz' h__law_drawn (hr.mono (by decide)) (ea_cons (ev_var 1) (ea_cons (ev_var 0) ea_nil st_Name) st_Name))) (er_of (ev_var 2)))) (er_of ev_int) (nomark _)))) (fun C s H fp z' (hz':z'.K=K)=>(ev_var 0)))))))))
noncomputable abbrev S__law_cell_at:Stmt:=top 25
noncomputable abbrev N__law_cell_at:List Str:=["_law_script","_law_k"]
theorem sc__law_cell_at:FnScope N__law_cell_at ["_law_script","_law_k"] (defScope S__law_cell_at):=⟨rfl,rfl,rfl,by decide +kernel,rfl,by decide +kernel,by decide +kernel⟩
theorem has__law_cell_at (src:Src K mg "_law_cell_at" S__law_cell_at ["_law_script","_law_k"])(n_len:mg "len"=none):Has P w K mg base "_law_cell_at" 1 2 M__law_cell_at :=
 by
 refine has_of'' (k:=0) (F:=F__law_cell_at) rfl rfl src sc__law_cell_at fun f cdv A outer s H E z hr hz=>?_
 unfold F__law_cell_at
 show sVs _ _ (defBody S__law_cell_at) _
 conv=>arg 2;whnf
 exact
  (ss_cons (s_if (et_cmp hz o_lt (er_of (ev_var 1)) (er_of (ev_b1 hz b_len rfl n_len PySem.boot_len (er_of (ev_var 0)))) (nomark _))
   (ss_one (s_ret (ev_ix hz (er_of (ev_var 0)) (ev_var 1) (fun _ _=>rfl))))
   ss_nil)
  (ss_one (s_ret ev_int)))
noncomputable abbrev S__law_mixed:Stmt:=top 26
noncomputable abbrev N__law_mixed:List Str:=["_law_script","_law_k","_law_drawn_here"]
theorem sc__law_mixed:FnScope N__law_mixed ["_law_script","_law_k"] (defScope S__law_mixed):=⟨rfl,rfl,rfl,by decide +kernel,rfl,by decide +kernel,by decide +kernel⟩
theorem has__law_mixed (src:Src K mg "_law_mixed" S__law_mixed ["_law_script","_law_k"])(h__law_cell_at:Has P w K mg base "_law_cell_at" 1 2 M__law_cell_at):Has P w K mg base "_law_mixed" 2 2 M__law_mixed :=
 by
 refine has_of'' (k:=1) (F:=F__law_mixed) rfl rfl src sc__law_mixed fun f cdv A outer s H E z hr hz=>?_
 unfold F__law_mixed
 show sVs _ _ (defBody S__law_mixed) _
 conv=>arg 2;whnf
 exact
  (ss_cons (s_set 2 sc__law_mixed.nd (ev_op hz o_md (er_of (ev_op hz o_mul (er_of (ev_op hz o_add (er_of (ev_op hz o_add (er_of (ev_has hz h__law_cell_at (hr.mono (by decide)) (ea_cons (ev_var 0) (ea_cons (ev_var 1) ea_nil st_Name) st_Name))) (er_of (ev_op hz o_mul (er_of ev_int) (er_of (ev_var 1)))))) (er_of ev_int))) (er_of ev_int))) (er_of ev_int)))
  (ss_one (s_ret (ev_op hz o_md (er_of (ev_op hz o_add (er_of (ev_op hz o_add (er_of (ev_op hz o_mul (er_of (ev_var 2)) (er_of (ev_var 2)))) (er_of (ev_op hz o_mul (er_of ev_int) (er_of (ev_var 2)))))) (er_of (ev_var 1)))) (er_of ev_int)))))
noncomputable abbrev S__law_table:Stmt:=top 29
noncomputable abbrev N__law_table:List Str:=["_law_script","_law_most","_law_many","_law_rows","_law_k","_law_row"]
theorem sc__law_table:FnScope N__law_table ["_law_script","_law_most"] (defScope S__law_table):=⟨rfl,rfl,rfl,by decide +kernel,rfl,by decide +kernel,by decide +kernel⟩
theorem has__law_table (src:Src K mg "_law_table" S__law_table ["_law_script","_law_most"])(h__law_marks:Has P w K mg base "_law_marks" 2 2 M__law_marks)(h__law_mixed:Has P w K mg base "_law_mixed" 2 2 M__law_mixed)(n_len:mg "len"=none)(n_min:mg "min"=none)(n_range:mg "range"=none)(n_tuple:mg "tuple"=none):Has P w K mg base "_law_table" 3 2 M__law_table :=
 by
 refine has_of'' (k:=2) (F:=F__law_table) rfl rfl src sc__law_table fun f cdv A outer s H E z hr hz=>?_
 unfold F__law_table B1__law_table C1__law_table
 show sVs _ _ (defBody S__law_table) _
 conv=>arg 2;whnf
 exact
  (ss_cons (s_set 2 sc__law_table.nd (ev_op hz o_add (er_of ev_int) (er_of (ev_op hz o_md (er_of (ev_has hz h__law_mixed (hr.mono (by decide)) (ea_cons (ev_var 0) (ea_cons ev_int ea_nil st_Constant) st_Name))) (er_of (ev_var 1))))))
  (ss_cons (s_own 3 sc__law_table.nd (ef_lst ea_nil))
  (ss_cons (s_for PassesOwn.never rfl (ip_range rfl n_range (ev_min rfl rfl n_min (ev_op hz o_md (er_of (ev_op hz o_fd (er_of (ev_has hz h__law_mixed (hr.mono (by decide)) (ea_cons (ev_var 0) (ea_cons ev_int ea_nil st_Constant) st_Name))) (er_of ev_int))) (er_of ev_int)) (ev_op hz o_add (er_of ev_int) (er_of (ev_b1 hz b_len rfl n_len PySem.boot_len (er_of (ev_var 0))))))) (eg_name 4 sc__law_table.nd)
   (ss_cons (s_set 5 sc__law_table.nd (ev_has hz h__law_marks (hr.mono (by decide)) (ea_cons (ev_has hz h__law_mixed (hr.mono (by decide)) (ea_cons (ev_var 0) (ea_cons (ev_op hz o_add (er_of ev_int) (er_of (ev_var 4))) ea_nil st_BinOp) st_Name)) (ea_cons (ev_var 2) ea_nil st_Name) st_Call)))
   (ss_cons (s_if (et_cmp hz (o_eq (hr).units) (er_of (ev_op hz o_md (er_of (ev_op hz o_fd (er_of (ev_has hz h__law_mixed (hr.mono (by decide)) (ea_cons (ev_var 0) (ea_cons ev_int ea_nil st_Constant) st_Name))) (er_of ev_int))) (er_of ev_int))) (er_of ev_int) (nomark _))
    (ss_one (s_set 5 sc__law_table.nd (ev_y1 hz b_tuple rfl n_tuple rfl (er_of (ev_new (ef_comp' N__law_table (defScope S__law_table) ["_law_mark","_law_row"] [none,some 5] [0] (by decide +kernel) hz (ir_of (ip_range rfl n_range (ev_var 2))) (fun C s H fp z' (hz':z'.K=K)=>(eg_name 0 (show List.Nodup (["_law_mark","_law_row"]:List Str) by decide +kernel))) (fun C s H fp z' (hz':z'.K=K)=>(et_ifs1 (et_cmp hz' (o_notin (hr).units) (er_of (ev_var 0)) (er_of (ev_var 1)) (by with_unfolding_all rfl)))) (fun C s H fp z' (hz':z'.K=K)=>(ev_var 0))))))))
    ss_nil)
   (ss_one (s_app 3 (pe_bm PySem.F.plainAttrs_list PySem.F.slot_list_append PySem.F.type_list_append mt_append (pv 3) (pa_cons (eV.p (by exact(ev_var 5))) pa_nil)))))))
  (ss_one (s_ret (ev_tup (ea_cons (ev_var 2) (ea_cons (ev_y1 hz b_tuple rfl n_tuple rfl (er_own 3)) ea_nil st_Call) st_Name)))))))
noncomputable abbrev S_shared:Stmt:=top 5
noncomputable abbrev N_shared:List Str:=["table","things","rows"]
theorem sc_shared:FnScope N_shared ["table","things"] (defScope S_shared):=⟨rfl,rfl,rfl,by decide +kernel,rfl,by decide +kernel,by decide +kernel⟩
theorem has_shared (src:Src K mg "shared" S_shared ["table","things"])(n_all:mg "all"=none)(n_range:mg "range"=none)(n_tuple:mg "tuple"=none):Has P w K mg base "shared" 1 2 M_shared :=
 by
 refine has_of'' (k:=0) (F:=F_shared) rfl rfl src sc_shared fun f cdv A outer s H E z hr hz=>?_
 unfold F_shared C1_shared E2_shared E1_shared
 show sVs _ _ (defBody S_shared) _
 conv=>arg 2;whnf
 exact
  (ss_cons (s_set 2 sc_shared.nd (ev_new (ef_comp' N_shared (defScope S_shared) ["thing","table"] [none,some 0] [0] (by decide +kernel) hz (ir_seq hz (er_of (ev_var 1))) (fun C s H fp z' (hz':z'.K=K)=>(eg_name 0 (show List.Nodup (["thing","table"]:List Str) by decide +kernel))) (fun C s H fp z' (hz':z'.K=K)=>et_ifs0) (fun C s H fp z' (hz':z'.K=K)=>(ev_ix hz' (er_of (ev_ix hz' (er_of (ev_var 1)) ev_int (fun _ _=>rfl))) (ev_var 0) (fun _ _=>rfl))))))
  (ss_one (s_ret (ev_y1 hz b_tuple rfl n_tuple rfl (er_of (ev_new (ef_comp' N_shared (defScope S_shared) ["mark","rows"] [none,some 2] [0] (by decide +kernel) hz (ir_of (ip_range rfl n_range (ev_ix hz (er_of (ev_var 0)) ev_int (fun _ _=>rfl)))) (fun C s H fp z' (hz':z'.K=K)=>(eg_name 0 (show List.Nodup (["mark","rows"]:List Str) by decide +kernel))) (fun C s H fp z' (hz':z'.K=K)=>(et_ifs1 (et_val (ev_b1 hz' (b_all rfl) rfl n_all rfl (er_of (ev_new (ef_compN ["row","mark"] [none,some 0] [0] (by kernel_rfl) hz' (ir_seq hz' (er_of (ev_var 1))) (fun C s H fp z' (hz'':z'.K=K)=>(eg_name 0 (show List.Nodup (["row","mark"]:List Str) by decide +kernel))) (fun C s H fp z' (hz'':z'.K=K)=>et_ifs0) (fun C s H fp z' (hz'':z'.K=K)=>(ev_cmp hz'' (o_in (hr).units) (er_of (ev_var 1)) (er_of (ev_var 0)) (by with_unfolding_all rfl)))))))))) (fun C s H fp z' (hz':z'.K=K)=>(ev_var 0)))))))))
noncomputable abbrev S_are_among:Stmt:=top 1
noncomputable abbrev N_are_among:List Str:=["marks","others"]
theorem sc_are_among:FnScope N_are_among ["marks","others"] (defScope S_are_among):=⟨rfl,rfl,rfl,by decide +kernel,rfl,by decide +kernel,by decide +kernel⟩
theorem has_are_among (src:Src K mg "are_among" S_are_among ["marks","others"])(n_all:mg "all"=none):Has P w K mg base "are_among" 1 2 M_are_among :=
 by
 refine has_of'' (k:=0) (F:=F_are_among) rfl rfl src sc_are_among fun f cdv A outer s H E z hr hz=>?_
 unfold F_are_among E1_are_among
 show sVs _ _ (defBody S_are_among) _
 conv=>arg 2;whnf
 exact
  (ss_one (s_ret (ev_b1 hz (b_all rfl) rfl n_all rfl (er_of (ev_new (ef_comp' N_are_among (defScope S_are_among) ["mark","others"] [none,some 1] [0] (by decide +kernel) hz (ir_seq hz (er_of (ev_var 0))) (fun C s H fp z' (hz':z'.K=K)=>(eg_name 0 (show List.Nodup (["mark","others"]:List Str) by decide +kernel))) (fun C s H fp z' (hz':z'.K=K)=>et_ifs0) (fun C s H fp z' (hz':z'.K=K)=>(ev_cmp hz' (o_in (hr).units) (er_of (ev_var 0)) (er_of (ev_var 1)) (by with_unfolding_all rfl)))))))))
noncomputable abbrev S_having:Stmt:=top 6
noncomputable abbrev N_having:List Str:=["table","marks"]
theorem sc_having:FnScope N_having ["table","marks"] (defScope S_having):=⟨rfl,rfl,rfl,by decide +kernel,rfl,by decide +kernel,by decide +kernel⟩
theorem has_having (src:Src K mg "having" S_having ["table","marks"])(h_are_among:Has P w K mg base "are_among" 1 2 M_are_among)(n_enumerate:mg "enumerate"=none)(n_tuple:mg "tuple"=none):Has P w K mg base "having" 2 2 M_having :=
 by
 refine has_of'' (k:=1) (F:=F_having) rfl rfl src sc_having fun f cdv A outer s H E z hr hz=>?_
 unfold F_having C1_having
 show sVs _ _ (defBody S_having) _
 conv=>arg 2;whnf
 exact
  (ss_one (s_ret (ev_y1 hz b_tuple rfl n_tuple rfl (er_of (ev_new (ef_comp' N_having (defScope S_having) ["thing","row","marks"] [none,none,some 1] [0,1] (by decide +kernel) hz (ir_enum hz rfl n_enumerate (er_of (ev_ix hz (er_of (ev_var 0)) ev_int (fun _ _=>rfl)))) (fun C s H fp z' (hz':z'.K=K)=>(eg_tup2 hz' rfl 0 1 (show List.Nodup (["thing","row","marks"]:List Str) by decide +kernel))) (fun C s H fp z' (hz':z'.K=K)=>(et_ifs1 (et_val (ev_has hz' h_are_among (hr.mono (by decide)) (ea_cons (ev_var 2) (ea_cons (ev_var 1) ea_nil st_Name) st_Name))))) (fun C s H fp z' (hz':z'.K=K)=>(ev_var 0))))))))
noncomputable abbrev S_things_above:Stmt:=top 18
noncomputable abbrev N_things_above:List Str:=["table","row"]
theorem sc_things_above:FnScope N_things_above ["table","row"] (defScope S_things_above):=⟨rfl,rfl,rfl,by decide +kernel,rfl,by decide +kernel,by decide +kernel⟩
theorem has_things_above (src:Src K mg "things_above" S_things_above ["table","row"])(h_having:Has P w K mg base "having" 2 2 M_having):Has P w K mg base "things_above" 3 2 M_things_above :=
 by
 refine has_of'' (k:=2) (F:=F_things_above) rfl rfl src sc_things_above fun f cdv A outer s H E z hr hz=>?_
 unfold F_things_above C1_things_above
 show sVs _ _ (defBody S_things_above) _
 conv=>arg 2;whnf
 exact
  (ss_one (s_ret (ev_new (ef_comp' N_things_above (defScope S_things_above) ["thing","table","row"] [none,some 0,some 1] [0] (by decide +kernel) hz (ir_seq hz (er_of (ev_has hz h_having (hr.mono (by decide)) (ea_cons (ev_var 0) (ea_cons (ev_var 1) ea_nil st_Name) st_Name)))) (fun C s H fp z' (hz':z'.K=K)=>(eg_name 0 (show List.Nodup (["thing","table","row"]:List Str) by decide +kernel))) (fun C s H fp z' (hz':z'.K=K)=>(et_ifs1 (et_cmp hz' (o_ne (hr).units) (er_of (ev_ix hz' (er_of (ev_ix hz' (er_of (ev_var 1)) ev_int (fun _ _=>rfl))) (ev_var 0) (fun _ _=>rfl))) (er_of (ev_var 2)) (nomark _)))) (fun C s H fp z' (hz':z'.K=K)=>(ev_var 0))))))
noncomputable abbrev S_is_spared:Stmt:=top 19
noncomputable abbrev N_is_spared:List Str:=["table","row"]
theorem sc_is_spared:FnScope N_is_spared ["table","row"] (defScope S_is_spared):=⟨rfl,rfl,rfl,by decide +kernel,rfl,by decide +kernel,by decide +kernel⟩
theorem has_is_spared (src:Src K mg "is_spared" S_is_spared ["table","row"])(h_shared:Has P w K mg base "shared" 1 2 M_shared)(h_things_above:Has P w K mg base "things_above" 3 2 M_things_above):Has P w K mg base "is_spared" 4 2 M_is_spared :=
 by
 refine has_of'' (k:=3) (F:=F_is_spared) rfl rfl src sc_is_spared fun f cdv A outer s H E z hr hz=>?_
 unfold F_is_spared
 show sVs _ _ (defBody S_is_spared) _
 conv=>arg 2;whnf
 exact
  (ss_one (s_ret (ev_cmp hz (o_eq (hr).units) (er_of (ev_has hz h_shared (hr.mono (by decide)) (ea_cons (ev_var 0) (ea_cons (ev_has hz h_things_above (hr.mono (by decide)) (ea_cons (ev_var 0) (ea_cons (ev_var 1) ea_nil st_Name) st_Name)) ea_nil st_Call) st_Name))) (er_of (ev_var 1)) (nomark _))))
noncomputable abbrev S_plain:Stmt:=top 20
noncomputable abbrev N_plain:List Str:=["table","rows"]
theorem sc_plain:FnScope N_plain ["table"] (defScope S_plain):=⟨rfl,rfl,rfl,by decide +kernel,rfl,by decide +kernel,by decide +kernel⟩
theorem has_plain (src:Src K mg "plain" S_plain ["table"])(h_is_spared:Has P w K mg base "is_spared" 4 2 M_is_spared)(n_len:mg "len"=none)(n_set:mg "set"=none)(n_sorted:mg "sorted"=none)(n_tuple:mg "tuple"=none):Has P w K mg base "plain" 5 1 M_plain :=
 by
 refine has_of'' (k:=4) (F:=F_plain) rfl rfl src sc_plain fun f cdv A outer s H E z hr hz=>?_
 unfold F_plain C1_plain
 show sVs _ _ (defBody S_plain) _
 conv=>arg 2;whnf
 exact
  (ss_cons (s_set 1 sc_plain.nd (ev_new (ef_sortLen hz n_sorted n_len (er_of (ev_new (ef_sortSet64 hz rfl (hr).units n_sorted n_set (er_of (ev_ix hz (er_of (ev_var 0)) ev_int (fun _ _=>rfl)))))))))
  (ss_one (s_ret (ev_tup (ea_cons (ev_ix hz (er_of (ev_var 0)) ev_int (fun _ _=>rfl)) (ea_cons (ev_y1 hz b_tuple rfl n_tuple rfl (er_of (ev_new (ef_comp' N_plain (defScope S_plain) ["row","table"] [none,some 0] [0] (by decide +kernel) hz (ir_seq hz (er_of (ev_var 1))) (fun C s H fp z' (hz':z'.K=K)=>(eg_name 0 (show List.Nodup (["row","table"]:List Str) by decide +kernel))) (fun C s H fp z' (hz':z'.K=K)=>(et_ifs1 (et_not (et_val (ev_has hz' h_is_spared (hr.mono (by decide)) (ea_cons (ev_var 1) (ea_cons (ev_var 0) ea_nil st_Name) st_Name)))))) (fun C s H fp z' (hz':z'.K=K)=>(ev_var 0)))))) ea_nil st_Call) st_Subscript)))))
noncomputable abbrev S_one_more:Stmt:=top 2
noncomputable abbrev N_one_more:List Str:=["level","many","longer","marks","least"]
theorem sc_one_more:FnScope N_one_more ["level","many"] (defScope S_one_more):=⟨rfl,rfl,rfl,by decide +kernel,rfl,by decide +kernel,by decide +kernel⟩
theorem has_one_more (src:Src K mg "one_more" S_one_more ["level","many"])(n_range:mg "range"=none):Has P w K mg base "one_more" 1 2 M_one_more :=
 by
 refine has_of'' (k:=0) (F:=F_one_more) rfl rfl src sc_one_more fun f cdv A outer s H E z hr hz=>?_
 unfold F_one_more B1_one_more E1_one_more
 show sVs _ _ (defBody S_one_more) _
 conv=>arg 2;whnf
 exact
  (ss_cons (s_own 2 sc_one_more.nd (ef_lst ea_nil))
  (ss_cons (s_for PassesOwn.never rfl (ip_seq hz (ev_var 0)) (eg_name 3 sc_one_more.nd)
   (ss_cons (s_set 4 sc_one_more.nd (ev_ifExp (et_tru hz (er_of (ev_var 3))) (ev_op hz o_add (er_of (ev_ix hz (er_of (ev_var 3)) (ev_neg ev_int) (fun _ _=>rfl))) (er_of ev_int)) ev_int))
   (ss_one (s_extend hz 2 (er_of (ev_new (ef_comp' N_one_more (defScope S_one_more) ["mark","marks"] [none,some 3] [0] (by decide +kernel) hz (ir_of (ip_range2 rfl n_range (ev_var 4) (ev_var 1))) (fun C s H fp z' (hz':z'.K=K)=>(eg_name 0 (show List.Nodup (["mark","marks"]:List Str) by decide +kernel))) (fun C s H fp z' (hz':z'.K=K)=>et_ifs0) (fun C s H fp z' (hz':z'.K=K)=>(ev_op hz' o_add (er_of (ev_var 1)) (er_of (ev_tup (ea_cons (ev_var 0) ea_nil st_Name))))))))))))
  (ss_one (s_retO 2))))
noncomputable abbrev S_all_marks:Stmt:=top 3
noncomputable abbrev N_all_marks:List Str:=["many","told","level"]
theorem sc_all_marks:FnScope N_all_marks ["many"] (defScope S_all_marks):=⟨rfl,rfl,rfl,by decide +kernel,rfl,by decide +kernel,by decide +kernel⟩
theorem has_all_marks (src:Src K mg "all_marks" S_all_marks ["many"])(h_one_more:Has P w K mg base "one_more" 1 2 M_one_more)(n_tuple:mg "tuple"=none):Has P w K mg base "all_marks" 2 1 M_all_marks :=
 by
 refine has_of'' (k:=1) (F:=F_all_marks) rfl rfl src sc_all_marks fun f cdv A outer s H E z hr hz=>?_
 unfold F_all_marks B1_all_marks C1_all_marks
 show sVs _ _ (defBody S_all_marks) _
 conv=>arg 2;whnf
 exact
  (ss_cons (s_own 1 sc_all_marks.nd (ef_lst ea_nil))
  (ss_cons (s_set 2 sc_all_marks.nd (ev_new (ef_lst (ea_cons (ev_tup ea_nil) ea_nil st_Tuple))))
  (ss_cons (s_while 100000 PassesOwn.never (et_tru hz (er_of (ev_var 2)))
   (ss_cons (s_extend hz 1 (er_of (ev_var 2)))
   (ss_one (s_set 2 sc_all_marks.nd (ev_has hz h_one_more (hr.mono (by decide)) (ea_cons (ev_var 2) (ea_cons (ev_var 0) ea_nil st_Name) st_Name))))))
  (ss_one (s_ret (ev_y1 hz b_tuple rfl n_tuple rfl (er_own 1)))))))
noncomputable abbrev S_closed:Stmt:=top 7
noncomputable abbrev N_closed:List Str:=["table","marks"]
theorem sc_closed:FnScope N_closed ["table","marks"] (defScope S_closed):=⟨rfl,rfl,rfl,by decide +kernel,rfl,by decide +kernel,by decide +kernel⟩
theorem has_closed (src:Src K mg "closed" S_closed ["table","marks"])(h_shared:Has P w K mg base "shared" 1 2 M_shared)(h_having:Has P w K mg base "having" 2 2 M_having):Has P w K mg base "closed" 3 2 M_closed :=
 by
 refine has_of'' (k:=2) (F:=F_closed) rfl rfl src sc_closed fun f cdv A outer s H E z hr hz=>?_
 unfold F_closed
 show sVs _ _ (defBody S_closed) _
 conv=>arg 2;whnf
 exact
  (ss_one (s_ret (ev_has hz h_shared (hr.mono (by decide)) (ea_cons (ev_var 0) (ea_cons (ev_has hz h_having (hr.mono (by decide)) (ea_cons (ev_var 0) (ea_cons (ev_var 1) ea_nil st_Name) st_Name)) ea_nil st_Call) st_Name))))
noncomputable abbrev S_closed_marks:Stmt:=top 22
noncomputable abbrev N_closed_marks:List Str:=["table"]
theorem sc_closed_marks:FnScope N_closed_marks ["table"] (defScope S_closed_marks):=⟨rfl,rfl,rfl,by decide +kernel,rfl,by decide +kernel,by decide +kernel⟩
theorem has_closed_marks (src:Src K mg "closed_marks" S_closed_marks ["table"])(h_all_marks:Has P w K mg base "all_marks" 2 1 M_all_marks)(h_closed:Has P w K mg base "closed" 3 2 M_closed):Has P w K mg base "closed_marks" 4 1 M_closed_marks :=
 by
 refine has_of'' (k:=3) (F:=F_closed_marks) rfl rfl src sc_closed_marks fun f cdv A outer s H E z hr hz=>?_
 unfold F_closed_marks C1_closed_marks
 show sVs _ _ (defBody S_closed_marks) _
 conv=>arg 2;whnf
 exact
  (ss_one (s_ret (ev_new (ef_comp' N_closed_marks (defScope S_closed_marks) ["marks","table"] [none,some 0] [0] (by decide +kernel) hz (ir_seq hz (er_of (ev_has hz h_all_marks (hr.mono (by decide)) (ea_cons (ev_ix hz (er_of (ev_var 0)) ev_int (fun _ _=>rfl)) ea_nil st_Subscript)))) (fun C s H fp z' (hz':z'.K=K)=>(eg_name 0 (show List.Nodup (["marks","table"]:List Str) by decide +kernel))) (fun C s H fp z' (hz':z'.K=K)=>(et_ifs1 (et_cmp hz' (o_eq (hr).units) (er_of (ev_has hz' h_closed (hr.mono (by decide)) (ea_cons (ev_var 1) (ea_cons (ev_var 0) ea_nil st_Name) st_Name))) (er_of (ev_var 0)) (nomark _)))) (fun C s H fp z' (hz':z'.K=K)=>(ev_var 0))))))
noncomputable abbrev S_notions:Stmt:=top 23
noncomputable abbrev N_notions:List Str:=["table"]
theorem sc_notions:FnScope N_notions ["table"] (defScope S_notions):=⟨rfl,rfl,rfl,by decide +kernel,rfl,by decide +kernel,by decide +kernel⟩
theorem has_notions (src:Src K mg "notions" S_notions ["table"])(h_having:Has P w K mg base "having" 2 2 M_having)(h_closed_marks:Has P w K mg base "closed_marks" 4 1 M_closed_marks)(n_tuple:mg "tuple"=none):Has P w K mg base "notions" 5 1 M_notions :=
 by
 refine has_of'' (k:=4) (F:=F_notions) rfl rfl src sc_notions fun f cdv A outer s H E z hr hz=>?_
 unfold F_notions E1_notions
 show sVs _ _ (defBody S_notions) _
 conv=>arg 2;whnf
 exact
  (ss_one (s_ret (ev_y1 hz b_tuple rfl n_tuple rfl (er_of (ev_new (ef_comp' N_notions (defScope S_notions) ["marks","table"] [none,some 0] [0] (by decide +kernel) hz (ir_seq hz (er_of (ev_has hz h_closed_marks (hr.mono (by decide)) (ea_cons (ev_var 0) ea_nil st_Name)))) (fun C s H fp z' (hz':z'.K=K)=>(eg_name 0 (show List.Nodup (["marks","table"]:List Str) by decide +kernel))) (fun C s H fp z' (hz':z'.K=K)=>et_ifs0) (fun C s H fp z' (hz':z'.K=K)=>(ev_tup (ea_cons (ev_has hz' h_having (hr.mono (by decide)) (ea_cons (ev_var 1) (ea_cons (ev_var 0) ea_nil st_Name) st_Name)) (ea_cons (ev_var 0) ea_nil st_Name) st_Call)))))))))
noncomputable abbrev S__law_marks_of:Stmt:=top 32
noncomputable abbrev N__law_marks_of:List Str:=["_law_table_here"]
theorem sc__law_marks_of:FnScope N__law_marks_of ["_law_table_here"] (defScope S__law_marks_of):=⟨rfl,rfl,rfl,by decide +kernel,rfl,by decide +kernel,by decide +kernel⟩
theorem has__law_marks_of (src:Src K mg "_law_marks_of" S__law_marks_of ["_law_table_here"])(h_notions:Has P w K mg base "notions" 5 1 M_notions):Has P w K mg base "_law_marks_of" 6 1 M__law_marks_of :=
 by
 refine has_of'' (k:=5) (F:=F__law_marks_of) rfl rfl src sc__law_marks_of fun f cdv A outer s H E z hr hz=>?_
 unfold F__law_marks_of E1__law_marks_of
 show sVs _ _ (defBody S__law_marks_of) _
 conv=>arg 2;whnf
 exact
  (ss_one (s_ret (ev_new (ef_comp' N__law_marks_of (defScope S__law_marks_of) ["_law_notion"] [none] [0] (by decide +kernel) hz (ir_seq hz (er_of (ev_has hz h_notions (hr.mono (by decide)) (ea_cons (ev_var 0) ea_nil st_Name)))) (fun C s H fp z' (hz':z'.K=K)=>(eg_name 0 (show List.Nodup (["_law_notion"]:List Str) by decide +kernel))) (fun C s H fp z' (hz':z'.K=K)=>et_ifs0) (fun C s H fp z' (hz':z'.K=K)=>(ev_ix hz' (er_of (ev_var 0)) ev_int (fun _ _=>rfl)))))))
noncomputable abbrev S_about:Stmt:=top 14
noncomputable abbrev N_about:List Str:=["table","many_things"]
theorem sc_about:FnScope N_about ["table"] (defScope S_about):=⟨rfl,rfl,rfl,by decide +kernel,rfl,by decide +kernel,by decide +kernel⟩
theorem has_about (src:Src K mg "about" S_about ["table"])(h_having:Has P w K mg base "having" 2 2 M_having)(n_len:mg "len"=none)(n_range:mg "range"=none)(n_tuple:mg "tuple"=none){tk_MOST_MARKS:Tok}(g_MOST_MARKS:mg "MOST_MARKS"=some (.int 6 tk_MOST_MARKS)):Has P w K mg base "about" 3 1 M_about :=
 by
 refine has_of'' (k:=2) (F:=F_about) rfl rfl src sc_about fun f cdv A outer s H E z hr hz=>?_
 unfold F_about E1_about
 show sVs _ _ (defBody S_about) _
 conv=>arg 2;whnf
 exact
  (ss_cons (s_set 1 sc_about.nd (ev_b1 hz b_len rfl n_len PySem.boot_len (er_of (ev_ix hz (er_of (ev_var 0)) ev_int (fun _ _=>rfl)))))
  (ss_cons (s_if (et_not (et_chain hz o_le o_le (er_of ev_int) (er_of (ev_var 1)) (er_of (ev_globI rfl g_MOST_MARKS))))
   (ss_one s_no)
   ss_nil)
  (ss_one (s_ret (ev_tup (ea_cons (ev_var 1) (ea_cons (ev_y1 hz b_tuple rfl n_tuple rfl (er_of (ev_new (ef_comp' N_about (defScope S_about) ["mark","table"] [none,some 0] [0] (by decide +kernel) hz (ir_of (ip_range rfl n_range (ev_ix hz (er_of (ev_var 0)) ev_int (fun _ _=>rfl)))) (fun C s H fp z' (hz':z'.K=K)=>(eg_name 0 (show List.Nodup (["mark","table"]:List Str) by decide +kernel))) (fun C s H fp z' (hz':z'.K=K)=>et_ifs0) (fun C s H fp z' (hz':z'.K=K)=>(ev_has hz' h_having (hr.mono (by decide)) (ea_cons (ev_var 1) (ea_cons (ev_tup (ea_cons (ev_var 0) ea_nil st_Name)) ea_nil st_Tuple) st_Name))))))) ea_nil st_Call) st_Name))))))
noncomputable abbrev S_beside:Stmt:=top 17
noncomputable abbrev N_beside:List Str:=["one","other","rows"]
theorem sc_beside:FnScope N_beside ["one","other"] (defScope S_beside):=⟨rfl,rfl,rfl,by decide +kernel,rfl,by decide +kernel,by decide +kernel⟩
theorem has_beside (src:Src K mg "beside" S_beside ["one","other"])(n_len:mg "len"=none){tk_MOST_ROWS:Tok}(g_MOST_ROWS:mg "MOST_ROWS"=some (.int 64 tk_MOST_ROWS)):Has P w K mg base "beside" 1 2 M_beside :=
 by
 refine has_of'' (k:=0) (F:=F_beside) rfl rfl src sc_beside fun f cdv A outer s H E z hr hz=>?_
 unfold F_beside
 show sVs _ _ (defBody S_beside) _
 conv=>arg 2;whnf
 exact
  (ss_cons (s_if (et_cmp hz (o_ne (hr).units) (er_of (ev_ix hz (er_of (ev_var 0)) ev_int (fun _ _=>rfl))) (er_of (ev_ix hz (er_of (ev_var 1)) ev_int (fun _ _=>rfl))) (nomark _))
   (ss_one s_no)
   ss_nil)
  (ss_cons (s_set 2 sc_beside.nd (ev_op hz o_add (er_of (ev_ix hz (er_of (ev_var 0)) ev_int (fun _ _=>rfl))) (er_of (ev_ix hz (er_of (ev_var 1)) ev_int (fun _ _=>rfl)))))
  (ss_cons (s_if (et_cmp hz o_gt (er_of (ev_b1 hz b_len rfl n_len PySem.boot_len (er_of (ev_var 2)))) (er_of (ev_globI rfl g_MOST_ROWS)) (nomark _))
   (ss_one s_no)
   ss_nil)
  (ss_one (s_ret (ev_tup (ea_cons (ev_ix hz (er_of (ev_var 0)) ev_int (fun _ _=>rfl)) (ea_cons (ev_var 2) ea_nil st_Name) st_Subscript)))))))
noncomputable abbrev S_places_in:Stmt:=top 15
noncomputable abbrev N_places_in:List Str:=["row","marks"]
theorem sc_places_in:FnScope N_places_in ["row","marks"] (defScope S_places_in):=⟨rfl,rfl,rfl,by decide +kernel,rfl,by decide +kernel,by decide +kernel⟩
theorem has_places_in (src:Src K mg "places_in" S_places_in ["row","marks"])(n_enumerate:mg "enumerate"=none)(n_tuple:mg "tuple"=none):Has P w K mg base "places_in" 1 2 M_places_in :=
 by
 refine has_of'' (k:=0) (F:=F_places_in) rfl rfl src sc_places_in fun f cdv A outer s H E z hr hz=>?_
 unfold F_places_in C1_places_in
 show sVs _ _ (defBody S_places_in) _
 conv=>arg 2;whnf
 exact
  (ss_one (s_ret (ev_y1 hz b_tuple rfl n_tuple rfl (er_of (ev_new (ef_comp' N_places_in (defScope S_places_in) ["place","mark","row"] [none,none,some 0] [0,1] (by decide +kernel) hz (ir_enum hz rfl n_enumerate (er_of (ev_var 1))) (fun C s H fp z' (hz':z'.K=K)=>(eg_tup2 hz' rfl 0 1 (show List.Nodup (["place","mark","row"]:List Str) by decide +kernel))) (fun C s H fp z' (hz':z'.K=K)=>(et_ifs1 (et_cmp hz' (o_in (hr).units) (er_of (ev_var 1)) (er_of (ev_var 2)) (by with_unfolding_all rfl)))) (fun C s H fp z' (hz':z'.K=K)=>(ev_var 0))))))))
noncomputable abbrev S_only:Stmt:=top 16
noncomputable abbrev N_only:List Str:=["table","marks"]
theorem sc_only:FnScope N_only ["table","marks"] (defScope S_only):=⟨rfl,rfl,rfl,by decide +kernel,rfl,by decide +kernel,by decide +kernel⟩
theorem has_only (src:Src K mg "only" S_only ["table","marks"])(h_places_in:Has P w K mg base "places_in" 1 2 M_places_in)(n_len:mg "len"=none)(n_tuple:mg "tuple"=none):Has P w K mg base "only" 2 2 M_only :=
 by
 refine has_of'' (k:=1) (F:=F_only) rfl rfl src sc_only fun f cdv A outer s H E z hr hz=>?_
 unfold F_only E1_only
 show sVs _ _ (defBody S_only) _
 conv=>arg 2;whnf
 exact
  (ss_cons (s_if (et_not (et_tru hz (er_of (ev_var 1))))
   (ss_one s_no)
   ss_nil)
  (ss_one (s_ret (ev_tup (ea_cons (ev_b1 hz b_len rfl n_len PySem.boot_len (er_of (ev_var 1))) (ea_cons (ev_y1 hz b_tuple rfl n_tuple rfl (er_of (ev_new (ef_comp' N_only (defScope S_only) ["row","marks"] [none,some 1] [0] (by decide +kernel) hz (ir_seq hz (er_of (ev_ix hz (er_of (ev_var 0)) ev_int (fun _ _=>rfl)))) (fun C s H fp z' (hz':z'.K=K)=>(eg_name 0 (show List.Nodup (["row","marks"]:List Str) by decide +kernel))) (fun C s H fp z' (hz':z'.K=K)=>et_ifs0) (fun C s H fp z' (hz':z'.K=K)=>(ev_has hz' h_places_in (hr.mono (by decide)) (ea_cons (ev_var 0) (ea_cons (ev_var 1) ea_nil st_Name) st_Name))))))) ea_nil st_Call) st_Call)))))
noncomputable abbrev S_law:Stmt:=top 33
noncomputable abbrev N_law:List Str:=["_law_script","_law_table_here","_law_many","_law_turned","_law_small","_law_due","_law_k","_law_marks_here","_law_cut","_law_row"]
theorem sc_law:FnScope N_law ["_law_script"] (defScope S_law):=⟨rfl,rfl,rfl,by decide +kernel,rfl,by decide +kernel,by decide +kernel⟩
theorem law_ok {fa:Addr}{fd:FuncData}(src:Fun K "law" "law" S_law fa fd)(h__law_marks:Has P w K mg base "_law_marks" 2 2 M__law_marks)(h__law_mixed:Has P w K mg base "_law_mixed" 2 2 M__law_mixed)(h__law_table:Has P w K mg base "_law_table" 3 2 M__law_table)(h_plain:Has P w K mg base "plain" 5 1 M_plain)(h_notions:Has P w K mg base "notions" 5 1 M_notions)(h__law_marks_of:Has P w K mg base "_law_marks_of" 6 1 M__law_marks_of)(h_about:Has P w K mg base "about" 3 1 M_about)(h_beside:Has P w K mg base "beside" 1 2 M_beside)(h_only:Has P w K mg base "only" 2 2 M_only)(n_len:mg "len"=none)(n_range:mg "range"=none)(n_set:mg "set"=none)(n_sorted:mg "sorted"=none)(n_tuple:mg "tuple"=none):FnOk P w K mg base CX0 7 fa fd ["_law_script"] (spT K 1 M_law) :=
 by
 refine fn_ok'' (k:=6) (F:=F_law) rfl rfl src sc_law fun cdv A outer s H E z hr hz=>?_
 unfold F_law R1_law R2_law R3_law R4_law R5_law R6_law R7_law R8_law R9_law R10_law R11_law B2_law C1_law B1_law E1_law
 show sVs _ _ (defBody S_law) _
 conv=>arg 2;whnf
 exact
  (ss_cons (s_set 1 sc_law.nd (ev_has hz h__law_table (hr.mono (by decide)) (ea_cons (ev_var 0) (ea_cons ev_int ea_nil st_Constant) st_Name)))
  (ss_cons (s_set 2 sc_law.nd (ev_ix hz (er_of (ev_var 1)) ev_int (fun _ _=>rfl)))
  (ss_cons (s_if (et_chain hz o_lt o_lt (er_of ev_int) (er_of (ev_b1 hz b_len rfl n_len PySem.boot_len (er_of (ev_ix hz (er_of (ev_var 1)) ev_int (fun _ _=>rfl))))) (er_of ev_int))
   (ss_cons (s_set 3 sc_law.nd (ev_has hz h_about (hr.mono (by decide)) (ea_cons (ev_var 1) ea_nil st_Name)))
   (ss_cons (s_if (et_cmp hz (o_ne (hr).units) (er_of (ev_has hz h_about (hr.mono (by decide)) (ea_cons (ev_var 3) ea_nil st_Name))) (er_of (ev_var 1)) (nomark _))
    (ss_one (s_ret ev_bl))
    ss_nil)
   (ss_one (s_if (et_cmp hz (o_ne (hr).units) (er_of (ev_new (ef_sortPr hz (hr).units n_sorted (er_of (ev_has hz h_notions (hr.mono (by decide)) (ea_cons (ev_var 3) ea_nil st_Name)))))) (er_of (ev_new (ef_sortPr hz (hr).units n_sorted (er_of (ev_new (ef_comp' N_law (defScope S_law) ["_law_things","_law_marks_here"] [none,none] [0,1] (by decide +kernel) hz (ir_seq hz (er_of (ev_has hz h_notions (hr.mono (by decide)) (ea_cons (ev_var 1) ea_nil st_Name)))) (fun C s H fp z' (hz':z'.K=K)=>(eg_tup2 hz' rfl 0 1 (show List.Nodup (["_law_things","_law_marks_here"]:List Str) by decide +kernel))) (fun C s H fp z' (hz':z'.K=K)=>et_ifs0) (fun C s H fp z' (hz':z'.K=K)=>(ev_tup (ea_cons (ev_var 1) (ea_cons (ev_var 0) ea_nil st_Name) st_Name))))))))) (nomark _))
    (ss_one (s_ret ev_bl))
    ss_nil))))
   ss_nil)
  (ss_cons (s_set 4 sc_law.nd (ev_has hz h_plain (hr.mono (by decide)) (ea_cons (ev_var 1) ea_nil st_Name)))
  (ss_cons (s_set 5 sc_law.nd (ev_has hz h__law_marks_of (hr.mono (by decide)) (ea_cons (ev_var 1) ea_nil st_Name)))
  (ss_cons (s_if (et_w (ew_or (et_cmp hz (o_ne (hr).units) (er_of (ev_has hz h__law_marks_of (hr.mono (by decide)) (ea_cons (ev_var 4) ea_nil st_Name))) (er_of (ev_var 5)) (nomark _)) (ew_or1 (et_cmp hz (o_ne (hr).units) (er_of (ev_has hz h__law_marks_of (hr.mono (by decide)) (ea_cons (ev_has hz h_beside (hr.mono (by decide)) (ea_cons (ev_var 1) (ea_cons (ev_var 1) ea_nil st_Name) st_Name)) ea_nil st_Call))) (er_of (ev_var 5)) (nomark _)))))
   (ss_one (s_ret ev_bl))
   ss_nil)
  (ss_cons (s_for PassesOwn.never rfl (ip_range rfl n_range (ev_b1 hz b_len rfl n_len PySem.boot_len (er_of (ev_ix hz (er_of (ev_var 4)) ev_int (fun _ _=>rfl))))) (eg_name 6 sc_law.nd)
   (ss_one (s_if (et_cmp hz (o_eq (hr).units) (er_of (ev_has hz h__law_marks_of (hr.mono (by decide)) (ea_cons (ev_tup (ea_cons (ev_var 2) (ea_cons (ev_op hz o_add (er_of (ev_slice hz (er_of (ev_ix hz (er_of (ev_var 4)) ev_int (fun _ _=>rfl))) eo_none (eo_some (ev_var 6)))) (er_of (ev_slice hz (er_of (ev_ix hz (er_of (ev_var 4)) ev_int (fun _ _=>rfl))) (eo_some (ev_op hz o_add (er_of (ev_var 6)) (er_of ev_int))) eo_none))) ea_nil st_BinOp) st_Name)) ea_nil st_Tuple))) (er_of (ev_var 5)) (nomark _))
    (ss_one (s_ret ev_bl))
    ss_nil)))
  (ss_cons (s_set 7 sc_law.nd (ev_has hz h__law_marks (hr.mono (by decide)) (ea_cons (ev_has hz h__law_mixed (hr.mono (by decide)) (ea_cons (ev_var 0) (ea_cons ev_int ea_nil st_Constant) st_Name)) (ea_cons (ev_var 2) ea_nil st_Name) st_Call)))
  (ss_cons (s_if (et_cmp hz (o_eq (hr).units) (er_of (ev_var 7)) (er_of (ev_tup ea_nil)) (nomark _))
   (ss_one (s_ret ev_bl))
   ss_nil)
  (ss_cons (s_own 8 sc_law.nd (ef_lst ea_nil))
  (ss_cons (s_for PassesOwn.never rfl (ip_seq hz (ev_var 5)) (eg_name 9 sc_law.nd)
   (ss_one (s_app 8 (pe_bm PySem.F.plainAttrs_list PySem.F.slot_list_append PySem.F.type_list_append mt_append (pv 8) (pa_cons (eV.p (by exact(ev_y1 hz b_tuple rfl n_tuple rfl (er_of (ev_new (ef_comp' N_law (defScope S_law) ["_law_k","_law_marks_here","_law_row"] [none,some 7,some 9] [0] (by decide +kernel) hz (ir_of (ip_range rfl n_range (ev_b1 hz b_len rfl n_len PySem.boot_len (er_of (ev_var 7))))) (fun C s H fp z' (hz':z'.K=K)=>(eg_name 0 (show List.Nodup (["_law_k","_law_marks_here","_law_row"]:List Str) by decide +kernel))) (fun C s H fp z' (hz':z'.K=K)=>(et_ifs1 (et_cmp hz' (o_in (hr).units) (er_of (ev_ix hz' (er_of (ev_var 1)) (ev_var 0) (fun _ _=>rfl))) (er_of (ev_var 2)) (by with_unfolding_all rfl)))) (fun C s H fp z' (hz':z'.K=K)=>(ev_var 0)))))))) pa_nil)))))
  (ss_one (s_ret (ev_cmp hz (o_eq (hr).units) (er_of (ev_new (ef_sortR hz (hr).units n_sorted (er_of (ev_has hz h__law_marks_of (hr.mono (by decide)) (ea_cons (ev_has hz h_only (hr.mono (by decide)) (ea_cons (ev_var 1) (ea_cons (ev_var 7) ea_nil st_Name) st_Name)) ea_nil st_Call)))))) (er_of (ev_new (ef_sortSet64 hz rfl (hr).units n_sorted n_set (er_own 8)))) (nomark _)))))))))))))))
theorem all_mk {P:Program}{w:World}{K:PySem.W.Frag}{h:Heap}{mg:Str→Option Value}{fa:Addr}(X:K.In h)(G:h.Ns mainGlobals mg)(hfa:mg "law"=some (.ref fa)) {f_law:Addr}{oc_law kV_law dc_law pm_law cd_law ct_law:Value}{od_law an_law:Option Addr}{sl_law:Array (Option Value)}{tk_MOST_MARKS:Tok}{tk_MOST_ROWS:Tok}
  (d__law_drawn:DefIn K "_law_drawn" S__law_drawn)
  (d__law_marks:DefIn K "_law_marks" S__law_marks)
  (d__law_cell_at:DefIn K "_law_cell_at" S__law_cell_at)
  (d__law_mixed:DefIn K "_law_mixed" S__law_mixed)
  (d__law_table:DefIn K "_law_table" S__law_table)
  (d_shared:DefIn K "shared" S_shared)
  (d_are_among:DefIn K "are_among" S_are_among)
  (d_having:DefIn K "having" S_having)
  (d_things_above:DefIn K "things_above" S_things_above)
  (d_is_spared:DefIn K "is_spared" S_is_spared)
  (d_plain:DefIn K "plain" S_plain)
  (d_one_more:DefIn K "one_more" S_one_more)
  (d_all_marks:DefIn K "all_marks" S_all_marks)
  (d_closed:DefIn K "closed" S_closed)
  (d_closed_marks:DefIn K "closed_marks" S_closed_marks)
  (d_notions:DefIn K "notions" S_notions)
  (d__law_marks_of:DefIn K "_law_marks_of" S__law_marks_of)
  (d_about:DefIn K "about" S_about)
  (d_beside:DefIn K "beside" S_beside)
  (d_places_in:DefIn K "places_in" S_places_in)
  (d_only:DefIn K "only" S_only)
  (a_law:PySem.W.nsIn K mainGlobals "law"=some (some (.ref f_law))) (l_law:K.lookup f_law=some ⟨oc_law,od_law,.func (PySem.W.fnOf "law" "law" (defArgs S_law) (defBody S_law) (defScope S_law) .none kV_law dc_law pm_law an_law cd_law ct_law),sl_law⟩) (c_law:PySem.W.codeIn K cd_law "law"=true)(k_law:PySem.W.keepIn K (.ref f_law)=true)
  (z_all:PySem.W.nsIn K mainGlobals "all"=some none)
  (z_enumerate:PySem.W.nsIn K mainGlobals "enumerate"=some none)
  (z_len:PySem.W.nsIn K mainGlobals "len"=some none)
  (z_min:PySem.W.nsIn K mainGlobals "min"=some none)
  (z_range:PySem.W.nsIn K mainGlobals "range"=some none)
  (z_set:PySem.W.nsIn K mainGlobals "set"=some none)
  (z_sorted:PySem.W.nsIn K mainGlobals "sorted"=some none)
  (z_tuple:PySem.W.nsIn K mainGlobals "tuple"=some none)
  (y_MOST_MARKS:PySem.W.nsIn K mainGlobals "MOST_MARKS"=some (some (.int 6 tk_MOST_MARKS)))
  (y_MOST_ROWS:PySem.W.nsIn K mainGlobals "MOST_ROWS"=some (some (.int 64 tk_MOST_ROWS))) :
  ∃ fd:FuncData,(∀(s:Shared)(v:Value),BindsTo s fd ⟨[v],[]⟩ [("_law_script",v)])∧∀ base:Heap,K.In base→base.Ns mainGlobals mg→FnOk P w K mg base CX0 7 fa fd ["_law_script"] (spT K 1 M_law):=by
 have e:=hfa.symm.trans (PySem.W.mg_of X G a_law)
 cases e
 have s__law_drawn:Src K mg "_law_drawn" S__law_drawn ["_law_number","_law_k"]:=src_of X G d__law_drawn fun _ _ _ _ _ _ us hl=>match us,hl with|[_,_],_=>rfl
 have s__law_marks:Src K mg "_law_marks" S__law_marks ["_law_number","_law_many"]:=src_of X G d__law_marks fun _ _ _ _ _ _ us hl=>match us,hl with|[_,_],_=>rfl
 have s__law_cell_at:Src K mg "_law_cell_at" S__law_cell_at ["_law_script","_law_k"]:=src_of X G d__law_cell_at fun _ _ _ _ _ _ us hl=>match us,hl with|[_,_],_=>rfl
 have s__law_mixed:Src K mg "_law_mixed" S__law_mixed ["_law_script","_law_k"]:=src_of X G d__law_mixed fun _ _ _ _ _ _ us hl=>match us,hl with|[_,_],_=>rfl
 have s__law_table:Src K mg "_law_table" S__law_table ["_law_script","_law_most"]:=src_of X G d__law_table fun _ _ _ _ _ _ us hl=>match us,hl with|[_,_],_=>rfl
 have s_shared:Src K mg "shared" S_shared ["table","things"]:=src_of X G d_shared fun _ _ _ _ _ _ us hl=>match us,hl with|[_,_],_=>rfl
 have s_are_among:Src K mg "are_among" S_are_among ["marks","others"]:=src_of X G d_are_among fun _ _ _ _ _ _ us hl=>match us,hl with|[_,_],_=>rfl
 have s_having:Src K mg "having" S_having ["table","marks"]:=src_of X G d_having fun _ _ _ _ _ _ us hl=>match us,hl with|[_,_],_=>rfl
 have s_things_above:Src K mg "things_above" S_things_above ["table","row"]:=src_of X G d_things_above fun _ _ _ _ _ _ us hl=>match us,hl with|[_,_],_=>rfl
 have s_is_spared:Src K mg "is_spared" S_is_spared ["table","row"]:=src_of X G d_is_spared fun _ _ _ _ _ _ us hl=>match us,hl with|[_,_],_=>rfl
 have s_plain:Src K mg "plain" S_plain ["table"]:=src_of X G d_plain fun _ _ _ _ _ _ us hl=>match us,hl with|[_],_=>rfl
 have s_one_more:Src K mg "one_more" S_one_more ["level","many"]:=src_of X G d_one_more fun _ _ _ _ _ _ us hl=>match us,hl with|[_,_],_=>rfl
 have s_all_marks:Src K mg "all_marks" S_all_marks ["many"]:=src_of X G d_all_marks fun _ _ _ _ _ _ us hl=>match us,hl with|[_],_=>rfl
 have s_closed:Src K mg "closed" S_closed ["table","marks"]:=src_of X G d_closed fun _ _ _ _ _ _ us hl=>match us,hl with|[_,_],_=>rfl
 have s_closed_marks:Src K mg "closed_marks" S_closed_marks ["table"]:=src_of X G d_closed_marks fun _ _ _ _ _ _ us hl=>match us,hl with|[_],_=>rfl
 have s_notions:Src K mg "notions" S_notions ["table"]:=src_of X G d_notions fun _ _ _ _ _ _ us hl=>match us,hl with|[_],_=>rfl
 have s__law_marks_of:Src K mg "_law_marks_of" S__law_marks_of ["_law_table_here"]:=src_of X G d__law_marks_of fun _ _ _ _ _ _ us hl=>match us,hl with|[_],_=>rfl
 have s_about:Src K mg "about" S_about ["table"]:=src_of X G d_about fun _ _ _ _ _ _ us hl=>match us,hl with|[_],_=>rfl
 have s_beside:Src K mg "beside" S_beside ["one","other"]:=src_of X G d_beside fun _ _ _ _ _ _ us hl=>match us,hl with|[_,_],_=>rfl
 have s_places_in:Src K mg "places_in" S_places_in ["row","marks"]:=src_of X G d_places_in fun _ _ _ _ _ _ us hl=>match us,hl with|[_,_],_=>rfl
 have s_only:Src K mg "only" S_only ["table","marks"]:=src_of X G d_only fun _ _ _ _ _ _ us hl=>match us,hl with|[_,_],_=>rfl
 have n_all:=PySem.W.mg_none_of X G z_all
 have n_enumerate:=PySem.W.mg_none_of X G z_enumerate
 have n_len:=PySem.W.mg_none_of X G z_len
 have n_min:=PySem.W.mg_none_of X G z_min
 have n_range:=PySem.W.mg_none_of X G z_range
 have n_set:=PySem.W.mg_none_of X G z_set
 have n_sorted:=PySem.W.mg_none_of X G z_sorted
 have n_tuple:=PySem.W.mg_none_of X G z_tuple
 have g_MOST_MARKS:=PySem.W.mg_of X G y_MOST_MARKS
 have g_MOST_ROWS:=PySem.W.mg_of X G y_MOST_ROWS
 refine⟨PySem.W.fnOf "law" "law" (defArgs S_law) (defBody S_law) (defScope S_law) .none kV_law dc_law pm_law an_law cd_law ct_law,fun s v=>.of_eq rfl,fun base _ _=>?_⟩
 have h__law_drawn:=has__law_drawn (P:=P) (w:=w) (mg:=mg) (base:=base) s__law_drawn 
 have h__law_marks:=has__law_marks (P:=P) (w:=w) (mg:=mg) (base:=base) s__law_marks h__law_drawn n_range n_tuple
 have h__law_cell_at:=has__law_cell_at (P:=P) (w:=w) (mg:=mg) (base:=base) s__law_cell_at n_len
 have h__law_mixed:=has__law_mixed (P:=P) (w:=w) (mg:=mg) (base:=base) s__law_mixed h__law_cell_at
 have h__law_table:=has__law_table (P:=P) (w:=w) (mg:=mg) (base:=base) s__law_table h__law_marks h__law_mixed n_len n_min n_range n_tuple
 have h_shared:=has_shared (P:=P) (w:=w) (mg:=mg) (base:=base) s_shared n_all n_range n_tuple
 have h_are_among:=has_are_among (P:=P) (w:=w) (mg:=mg) (base:=base) s_are_among n_all
 have h_having:=has_having (P:=P) (w:=w) (mg:=mg) (base:=base) s_having h_are_among n_enumerate n_tuple
 have h_things_above:=has_things_above (P:=P) (w:=w) (mg:=mg) (base:=base) s_things_above h_having
 have h_is_spared:=has_is_spared (P:=P) (w:=w) (mg:=mg) (base:=base) s_is_spared h_shared h_things_above
 have h_plain:=has_plain (P:=P) (w:=w) (mg:=mg) (base:=base) s_plain h_is_spared n_len n_set n_sorted n_tuple
 have h_one_more:=has_one_more (P:=P) (w:=w) (mg:=mg) (base:=base) s_one_more n_range
 have h_all_marks:=has_all_marks (P:=P) (w:=w) (mg:=mg) (base:=base) s_all_marks h_one_more n_tuple
 have h_closed:=has_closed (P:=P) (w:=w) (mg:=mg) (base:=base) s_closed h_shared h_having
 have h_closed_marks:=has_closed_marks (P:=P) (w:=w) (mg:=mg) (base:=base) s_closed_marks h_all_marks h_closed
 have h_notions:=has_notions (P:=P) (w:=w) (mg:=mg) (base:=base) s_notions h_having h_closed_marks n_tuple
 have h__law_marks_of:=has__law_marks_of (P:=P) (w:=w) (mg:=mg) (base:=base) s__law_marks_of h_notions
 have h_about:=has_about (P:=P) (w:=w) (mg:=mg) (base:=base) s_about h_having n_len n_range n_tuple g_MOST_MARKS
 have h_beside:=has_beside (P:=P) (w:=w) (mg:=mg) (base:=base) s_beside n_len g_MOST_ROWS
 have h_places_in:=has_places_in (P:=P) (w:=w) (mg:=mg) (base:=base) s_places_in n_enumerate n_tuple
 have h_only:=has_only (P:=P) (w:=w) (mg:=mg) (base:=base) s_only h_places_in n_len n_tuple
 exact law_ok (fun_mk (st:=S_law) l_law c_law k_law) h__law_marks h__law_mixed h__law_table h_plain h_notions h__law_marks_of h_about h_beside h_only n_len n_range n_set n_sorted n_tuple
end G
namespace G
open PySem L2 TL
theorem walk {l:PySem.W.OpenLaw}{q:Program}{loose:List Str}{XP:(Str→Option Value)→Heap→Prop}{YP:World→Heap→Prop}{d:DefRec}{K:Params→PySem.W.Frag}(hn:l.most=some 63)(hdf:d.params.defaults=[])
  (hY:∀(w:World)(h:Heap),YP w h→(K w.params).In h)
  (F:∀(w:World)(mg:Str→Option Value)(fa:Addr)(h:Heap),(K w.params).In h→h.Ns mainGlobals mg→mg d.name=some (.ref fa) →
   ∃ fd:FuncData,(∀(s:Shared)(u:Value),BindsTo s fd ⟨[u],[]⟩ [("_law_script",u)])∧∀ base:Heap,(K w.params).In base→base.Ns mainGlobals mg→FnOk l.prog w (K w.params) mg base CX0 7 fa fd ["_law_script"] (spT (K w.params) 1 M_law)) :
  PySem.W.WalkO q loose XP YP l.row.toRowW d [] (fun f vs=>PySem.call f vs) :=
 L2.walk_ofK (n:=63) (k:=7) (x:="_law_script") (CX:=CX0) (sp:=fun K=>spT K 1 M_law) hn (by decide) hdf ⟨rfl,by decide,by decide⟩ hY F
  (fun K H a ns hl _ hS=>⟨H,[.lst (ns.map T.int)],.bl true,rfl,.refl _,.one (by unfold Rep;exact⟨a,_,rfl,hS,RepL.ints.mpr rfl⟩),law_true ns hl,fun v _ _ _ r=>r.b⟩) fun _ _ _ _ z=>z
end G
local macro_rules|`(tactic| walk_at "dk")=>`(tactic| (refine' G.defIn_mk ?a ?l ?c ?k;(case a=>k_is);(case l=>k_is);(case c=>k_is);(case k=>k_is)))
open PySem PySem.W PyProof.Rows
set_option maxRecDepth 100000 in
set_option maxHeartbeats 0 in
theorem PySem.Challenge.cw_markhall_k51_whole_turned_about_and_plai_holds : PySem.Challenge.rw_markhall_k51_whole_turned_about_and_plai.Holds := by
 refine Hd.top ?_
 k_fill
 refine G.walk (l:=PySem.Challenge.rw_markhall_k51_whole_turned_about_and_plai) rfl rfl (fun w h Y=>PySem.W.kIn_of Y) ?F
 case F =>
  intro w mg fa h KX GX hmg
  refine' G.all_mk KX GX hmg ?d__law_drawn ?d__law_marks ?d__law_cell_at ?d__law_mixed ?d__law_table ?d_shared ?d_are_among ?d_having ?d_things_above ?d_is_spared ?d_plain ?d_one_more ?d_all_marks ?d_closed ?d_closed_marks ?d_notions ?d__law_marks_of ?d_about ?d_beside ?d_places_in ?d_only ?a_law ?l_law ?c_law ?k_law ?z_all ?z_enumerate ?z_len ?z_min ?z_range ?z_set ?z_sorted ?z_tuple ?y_MOST_MARKS ?y_MOST_ROWS
  (case d__law_drawn=>walk_at "dk");(case d__law_marks=>walk_at "dk");(case d__law_cell_at=>walk_at "dk");(case d__law_mixed=>walk_at "dk");(case d__law_table=>walk_at "dk");(case d_shared=>walk_at "dk")
  (case d_are_among=>walk_at "dk");(case d_having=>walk_at "dk");(case d_things_above=>walk_at "dk");(case d_is_spared=>walk_at "dk");(case d_plain=>walk_at "dk");(case d_one_more=>walk_at "dk")
  (case d_all_marks=>walk_at "dk");(case d_closed=>walk_at "dk");(case d_closed_marks=>walk_at "dk");(case d_notions=>walk_at "dk");(case d__law_marks_of=>walk_at "dk");(case d_about=>walk_at "dk")
  (case d_beside=>walk_at "dk");(case d_places_in=>walk_at "dk");(case d_only=>walk_at "dk");(case a_law=>k_is);(case l_law=>k_is);(case c_law=>k_is)
  (case k_law=>k_is);(case z_all=>k_is);(case z_enumerate=>k_is);(case z_len=>k_is);(case z_min=>k_is);(case z_range=>k_is)
  (case z_set=>k_is);(case z_sorted=>k_is);(case z_tuple=>k_is);(case y_MOST_MARKS=>k_is);(case y_MOST_ROWS=>k_is)
